import PyProof.Rows.All
import Wide.All
import OpenK.AllK
import Wide.FinOn
import HandS.ForMost
import HandS.Exc
import HandS.ExcOwn
import HandS.TryOnly
import HandS.WordsExc
import HandS.IsInst
import HandS.ExcIs
import HandS.AnyAll
import HandS.EndTab
import HandS.EndOwn
import HandS.More
import HandS.Walk
import PySem.Challenge.RW_snaptree_k01_paths_written
set_option Elab.async false
set_option linter.all false
set_option maxRecDepth 100000
set_option maxHeartbeats 4000000
namespace My
open PySem PySem.Spec PyProof.Rows L2

/-! ### heaps: tables may grow, all else that is tracked stays -/
structure Gr (H H' : Hp) : Prop where
  keep : ∀ b o, H b = some o → (∀ ps, o ≠ HO.tbl ps) → H' b = some o
  tab : ∀ b, GxR.TabG H b → GxR.TabG H' b
  there : ∀ b o, H b = some o → ∃ o', H' b = some o'
theorem Gr.refl (H : Hp) : Gr H H := ⟨fun _ _ h _ => h, fun _ h => h, fun _ o h => ⟨o, h⟩⟩
theorem Gr.trans {H H1 H2 : Hp} (a : Gr H H1) (b : Gr H1 H2) : Gr H H2 :=
  ⟨fun c o h n => b.keep c o (a.keep c o h n) n, fun c h => b.tab c (a.tab c h), fun c o h => by
    obtain ⟨o1, h1⟩ := a.there c o h
    exact b.there c o1 h1⟩
theorem Gr.new {H : Hp} {p : Addr} {o : HO} (h : H p = none) : Gr H (upd H p o) :=
  ⟨fun b u e _ => by rw [upd_ne (ne_of_none e h)]; exact e,
   fun b ⟨ps, e, t⟩ => ⟨ps, by rw [upd_ne (ne_of_none e h)]; exact e, t⟩,
   fun b u e => ⟨u, by rw [upd_ne (ne_of_none e h)]; exact e⟩⟩
/-- a change of an object that the elder heap doesn't know -/
theorem Gr.mut {H H' : Hp} {p : Addr} {o : HO} (g : Gr H H') (h : H p = none) : Gr H (upd H' p o) :=
  ⟨fun b u e n => by rw [upd_ne (ne_of_none e h)]; exact g.keep b u e n,
   fun b t => by
    obtain ⟨ps, e, z⟩ := t
    obtain ⟨ps', e', z'⟩ := g.tab b ⟨ps, e, z⟩
    exact ⟨ps', by rw [upd_ne (ne_of_none e h)]; exact e', z'⟩,
   fun b u e => by
    rw [upd_ne (ne_of_none e h)]
    exact g.there b u e⟩
theorem Gr.tabbed {P : Addr} {H H' : Hp} (t : GxR.TabG H P) (h : GxR.Tabbed P H H') : Gr H H' := by
  obtain ⟨t', k⟩ := h
  obtain ⟨ps, e, z⟩ := t
  refine ⟨fun b o eb n => ?_, fun b tb => ?_, fun b o eb => ?_⟩
  · rw [k b fun q => ?_]
    · exact eb
    · rw [q, e] at eb
      exact n ps (Option.some.inj eb).symm
  · by_cases hb : b = P
    · rw [hb]
      exact t'
    · obtain ⟨qs, eq, zq⟩ := tb
      exact ⟨qs, by rw [k b hb]; exact eq, zq⟩
  · by_cases hb : b = P
    · rw [hb]
      obtain ⟨qs, eq, zq⟩ := t'
      exact ⟨_, eq⟩
    · exact ⟨o, by rw [k b hb]; exact eb⟩
theorem Gr.free {H H' : Hp} {p : Addr} (g : Gr H H') (h : H' p = none) : H p = none := by
  cases e : H p with
  | none => rfl
  | some o =>
    obtain ⟨o', e'⟩ := g.there p o e
    rw [e'] at h
    cases h
theorem Gr.l {K : PySem.W.Frag} {H H' : Hp} {a : Addr} {xs : List V} (g : Gr H H') (h : SqL K H a xs) : SqL K H' a xs := by
  rcases h with (h | ⟨o, h⟩) | h
  · exact .inl (.inl (g.keep _ _ h (fun _ z => by cases z)))
  · exact .inl (.inr ⟨o, g.keep _ _ h (fun _ z => by cases z)⟩)
  · exact .inr h
theorem Gr.t {K : PySem.W.Frag} {H H' : Hp} {a : Addr} {xs : List V} (g : Gr H H') (h : SqT K H a xs) : SqT K H' a xs := by
  rcases h with (h | ⟨o, h⟩) | h
  · exact .inl (.inl (g.keep _ _ h (fun _ z => by cases z)))
  · exact .inl (.inr ⟨o, g.keep _ _ h (fun _ z => by cases z)⟩)
  · exact .inr h
theorem Gr.lst {H H' : Hp} {a : Addr} {xs : List V} (g : Gr H H') (h : H a = some (.lst xs)) : H' a = some (.lst xs) := g.keep _ _ h (fun _ z => by cases z)
theorem Gr.tup {H H' : Hp} {a : Addr} {xs : List V} (g : Gr H H') (h : H a = some (.tup xs)) : H' a = some (.tup xs) := g.keep _ _ h (fun _ z => by cases z)
theorem Gr.dK {H H' : Hp} {a : Addr} {xs : List (Key × V)} (g : Gr H H') (h : H a = some (.dK xs)) : H' a = some (.dK xs) := g.keep _ _ h (fun _ z => by cases z)
/-- the things whose kind a law asks: built-in kinds -/
theorem Gr.ty {K : PySem.W.Frag} {H H' : Hp} {x : V} {m : Value} (g : Gr H H') (h : TyX K H x m) : TyX K H' x m := by
  have nt : ∀ (o : HO), (∀ ps, o ≠ .tbl ps) → ∀ a, H a = some o → H' a = some o := fun o n a e => g.keep a o e n
  cases h with
  | base b =>
    cases b with
    | non => exact .base .non
    | bl b => exact .base (.bl b)
    | int i => exact .base (.int i)
    | str z => exact .base (.str z)
    | flt z => exact .base (.flt z)
    | lst e => exact .base (.lst (nt _ (fun _ z => by cases z) _ e))
    | frz e => exact .base (.frz (nt _ (fun _ z => by cases z) _ e))
    | tup e => exact .base (.tup (nt _ (fun _ z => by cases z) _ e))
    | dK e => exact .base (.dK (nt _ (fun _ z => by cases z) _ e))
    | dT e => exact .base (.dT (nt _ (fun _ z => by cases z) _ e))
    | ins e cl ha hn htk hm => exact .base (.ins (nt _ (fun _ z => by cases z) _ e) cl ha hn htk hm)
  | byt b => exact .byt b
  | set e => exact .set (nt _ (fun _ z => by cases z) _ e)
  | kList e c => exact .kList e c
  | kTuple e c => exact .kTuple e c
  | kDict e c => exact .kDict e c
  | fTuple e => exact .fTuple (nt _ (fun _ z => by cases z) _ e)
  | fDict e => exact .fDict (nt _ (fun _ z => by cases z) _ e)
theorem tyL {K : PySem.W.Frag} {H : Hp} {a : Addr} {xs : List V} (h : SqL K H a xs) : TyX K H (.ref a) (.type "list") := by
  rcases h with (h | ⟨o, h⟩) | ⟨o, _, _, e, c, _⟩
  · exact .base (.lst h)
  · exact .base (.frz h)
  · exact .kList e c
theorem tyT {K : PySem.W.Frag} {H : Hp} {a : Addr} {xs : List V} (h : SqT K H a xs) : TyX K H (.ref a) (.type "tuple") := by
  rcases h with (h | ⟨o, h⟩) | ⟨o, _, _, e, c, _⟩
  · exact .base (.tup h)
  · exact .fTuple h
  · exact .kTuple e c
theorem gr_of {H H2 : Hp} {p : Addr} {o : HO} (hp : H p = none) (h : upd H p o = H2) : Gr H H2 := h ▸ Gr.new hp
theorem at_of {H H2 : Hp} {p : Addr} {o : HO} (h : upd H p o = H2) : H2 p = some o := h ▸ upd_same
theorem sz_of {n : Nat} (h : n ≤ 1000000) : n ≤ sizeLine := Nat.le_trans h (by decide)
theorem sz_lt {n : Nat} (h : n < 1000000) : n < sizeLine := Nat.lt_of_lt_of_le h (by decide)

/-! ### rules' readings by a name -/
def rLenQ (K : PySem.W.Frag) : List V → Hp → VK → Prop := fun xs H Q => ∃ p ys, xs = [.ref p] ∧ (SqL K H p ys ∨ SqT K H p ys) ∧ Q (.int ys.length) H
def rLenS : List V → Hp → VK → Prop := fun xs H Q => ∃ z, xs = [.str z] ∧ z.length ≤ sizeLine ∧ Q (.int z.length) H
def rListOf (K : PySem.W.Frag) : List V → Hp → VK → Prop := fun xs H Q => ∃ p ys, xs = [.ref p] ∧ (SqL K H p ys ∨ SqT K H p ys) ∧ ∀ l, H l = none → Q (.ref l) (upd H l (.lst ys))
def rTupOf (K : PySem.W.Frag) : List V → Hp → VK → Prop := fun xs H Q => ∃ p ys, xs = [.ref p] ∧ ((SqL K H p ys ∧ ∀ l, H l = none → Q (.ref l) (upd H l (.tup ys))) ∨ (SqT K H p ys ∧ Q (.ref p) H))
def rJoin (K : PySem.W.Frag) : V → List V → Hp → VK → Prop := fun x xs H Q => ∃ a p, ∃ ys : List Str, x = .str a ∧ xs = [.ref p] ∧ (SqL K H p (ys.map V.str) ∨ SqT K H p (ys.map V.str)) ∧ (ys.map (·.length)).sum + ys.length * a.length ≤ 16777216 ∧ Q (.str (Txt.join a ys)) H
def rSplit : V → List V → Hp → VK → Prop := fun x xs H Q => ∃ a b, x = .str a ∧ xs = [.str b] ∧ (b.length == 0) = false ∧ a.length + 2 ≤ sizeLine ∧ rNewStrs (Txt.split a b) H Q
def rStarts : V → List V → Hp → VK → Prop := fun x xs H Q => ∃ a b, x = .str a ∧ xs = [.str b] ∧ Q (.bl (Txt.startswith a b)) H
def rInSign : R2 := fun x y H Q => ∃ (c : Nat) (z : Str), x = .str ⟨#[c]⟩ ∧ y = .str z ∧ Q (.bl (decide (c ∈ z.cps.toList))) H
def rAddS : R2 := fun x y H Q => ∃ i j, x = .str i ∧ y = .str j ∧ i.length + j.length ≤ sizeLine ∧ Q (.str (i ++ j)) H
def rIsNo : R2 := fun x y H Q => y = .non ∧ Q (.bl (decide (x = .non))) H
section
variable {X : Cx}
theorem cLenQ {K : PySem.W.Frag} (h : X.K = K) : CallR X (.builtin "len") (rLenQ K) := h ▸ call_len_seq
theorem cIsi {K : PySem.W.Frag} (h : X.K = K) : CallR X (.builtin "isinstance") (rIsi K) := h ▸ call_isi
theorem cIsiT {K : PySem.W.Frag} (h : X.K = K) : CallR X (.builtin "isinstance") (rIsiT K) := h ▸ call_isiT
theorem cAll {K : PySem.W.Frag} (h : X.K = K) (hc : X.calm = true) : CallR X (.builtin "all") (rAll K) := h ▸ cr_all hc
theorem oEqD {K : PySem.W.Frag} (h : X.K = K) (hu : X.A.units + 64 < cLine) : OpR X (compareOp .Eq) (rEqD K) := h ▸ op_eqD hu
theorem oNeD {K : PySem.W.Frag} (h : X.K = K) (hu : X.A.units + 64 < cLine) : OpR X (compareOp .NotEq) (rNeD K) := h ▸ op_neD hu
theorem ixL {K : PySem.W.Frag} (h : X.K = K) : IxR X (rIxL K) := h ▸ ix_list
theorem ixT {K : PySem.W.Frag} (h : X.K = K) : IxR X (rIxT K) := h ▸ ix_tup
theorem cLenS : CallR X (.builtin "len") rLenS := call_len_str
theorem cListOf {K : PySem.W.Frag} (h : X.K = K) : CallR X (.type "list") (rListOf K) := h ▸ call_list_of
theorem cTupOf {K : PySem.W.Frag} (h : X.K = K) : CallR X (.type "tuple") (rTupOf K) := h ▸ call_tuple_of
theorem oInSign : OpR X (compareOp .In) rInSign := op_in_sign
theorem oAddS : OpR X (binaryOp .Add) rAddS := op_add_str
theorem oIsNo : OpR X (compareOp .Is) rIsNo := op_isN
variable {o e : Expr} {to te : TE}
theorem peJoin {apos pos : Pos} (ho : PE X o to) (he : PE X e te) (hs : starEach [e] X.env = [(false, eval e X.env)] := by rfl) (hbase : attributeBase o "join" X.env (eval o X.env) = eval o X.env := by rfl) (hline : (apos.endLine == pos.line) = true := by rfl) :
    PE X (.Call (.Attribute o "join" apos) [e] [] pos) (tM1 (rJoin X.K) to te) := pe_m1 F.slot_str_join F.type_str_join mt_join ho he hs hbase hline
theorem peSplit {apos pos : Pos} (ho : PE X o to) (he : PE X e te) (hs : starEach [e] X.env = [(false, eval e X.env)] := by rfl) (hbase : attributeBase o "split" X.env (eval o X.env) = eval o X.env := by rfl) (hline : (apos.endLine == pos.line) = true := by rfl) :
    PE X (.Call (.Attribute o "split" apos) [e] [] pos) (tM1 rSplit to te) := pe_m1 F.slot_str_split F.type_str_split mt_split ho he hs hbase hline
theorem peStarts {apos pos : Pos} (ho : PE X o to) (he : PE X e te) (hs : starEach [e] X.env = [(false, eval e X.env)] := by rfl) (hbase : attributeBase o "startswith" X.env (eval o X.env) = eval o X.env := by rfl) (hline : (apos.endLine == pos.line) = true := by rfl) :
    PE X (.Call (.Attribute o "startswith" apos) [e] [] pos) (tM1 rStarts to te) := pe_m1 F.slot_str_startswith F.type_str_startswith mt_startswith ho he hs hbase hline
end

/-! ### one step of a reading -/
section
variable {K : PySem.W.Frag} {σ : L2.St} {H : Hp} {Q : VK} {ta tb tc te : TE} {v x y : V} {r r' : R2} {t u : TT}
theorem st_var {i : Nat} (h : σ[i]? = some (some v)) (q : Q v H) : tVar i σ H Q := ⟨v, h, q⟩
theorem st_c (q : Q v H) : tC v σ H Q := q
theorem st_op (h : ta σ H fun x H1 => tb σ H1 fun y H2 => r x y H2 Q) : tOp r ta tb σ H Q := h
theorem st_un {r : V → Hp → VK → Prop} (h : ta σ H fun x H1 => r x H1 Q) : tUn r ta σ H Q := h
theorem st_I0 {g : Int → Int → V} {i j : Int} (q : Q (g i j) H) : rI0 g (.int i) (.int j) H Q := ⟨i, j, rfl, rfl, q⟩
theorem st_I {C : Int → Int → Prop} {g : Int → Int → V} {i j : Int} (c : C i j) (q : Q (g i j) H) : rI C g (.int i) (.int j) H Q := ⟨i, j, rfl, rfl, c, q⟩
theorem st_eq (h : scal x y = true) (q : Q (.bl (decide (x = y))) H) : rEq x y H Q := ⟨h, q⟩
theorem st_ne (h : scal x y = true) (q : Q (.bl (!decide (x = y))) H) : rNe x y H Q := ⟨h, q⟩
theorem st_test {Q : Bool → Hp → Prop} (h : te σ H fun x H' => ∃ k, x = .bl k ∧ Q k H') : tTest te σ H Q := h
theorem st_tB {Q : Bool → Hp → Prop} (h : te σ H fun x H' => ∃ k, x = .bl k ∧ Q k H') : tB te σ H Q := h
theorem st_bl {P : Bool → Prop} {k : Bool} (q : P k) : ∃ k', V.bl k = V.bl k' ∧ P k' := ⟨k, rfl, q⟩
theorem st_and {Q : Bool → Hp → Prop} (h : t σ H fun c H1 => if c = true then u σ H1 Q else Q false H1) : tAnd t u σ H Q := h
theorem st_or {Q : Bool → Hp → Prop} (h : t σ H fun c H1 => if c = true then Q true H1 else u σ H1 Q) : tOr t u σ H Q := h
theorem st_not {Q : Bool → Hp → Prop} (h : t σ H fun c H1 => Q (!c) H1) : tNot t σ H Q := h
theorem st_yes {Q : Bool → Hp → Prop} (h : Q true H) : tYes σ H Q := h
theorem st_andV (h : ta σ H fun x H1 => ∃ c, x = .bl c ∧ if c = true then tb σ H1 Q else Q (.bl false) H1) : tAndV ta tb σ H Q := h
theorem st_orV (h : ta σ H fun x H1 => ∃ c, x = .bl c ∧ if c = true then Q (.bl true) H1 else tb σ H1 Q) : tOrV ta tb σ H Q := h
theorem st_notV (h : ta σ H fun x H1 => ∃ c, x = .bl c ∧ Q (.bl (!c)) H1) : tNotV ta σ H Q := h
theorem st_ifE (h : t σ H fun c H1 => if c = true then ta σ H1 Q else tb σ H1 Q) : tIf t ta tb σ H Q := h
theorem st_chain (h : ta σ H fun x H1 => tb σ H1 fun y H2 => r x y H2 fun z H3 => ∃ k, z = .bl k ∧ (if k = true then tc σ H3 fun w' H4 => r' y w' H4 Q else Q (.bl false) H3)) : tChain r r' ta tb tc σ H Q := h
/-- a way of an if -/
theorem ite3 {c : Bool} {A B : Prop} (h1 : c = true → A) (h2 : c = false → B) : if c = true then A else B := by
  cases c with
  | true => exact iteT (h1 rfl)
  | false => exact iteF (h2 rfl)
theorem st_nil {Q : List V → Hp → Prop} (q : Q [] H) : tNil σ H Q := q
theorem st_cons {tr : TA} {Q : List V → Hp → Prop} (h : te σ H fun x H1 => tr σ H1 fun xs H2 => Q (x :: xs) H2) : tCons te tr σ H Q := h
theorem st_CB {rc : List V → Hp → VK → Prop} {ta : TA} (h : ta σ H fun vs H1 => rc vs H1 Q) : tCB rc ta σ H Q := h
theorem st_call {sp : Sp} {E : XK} {ta : TA} (h : ta σ H fun vs H1 => sp vs H1 Q E) : tCall sp [] E ta σ H Q := by
  have e : (fun (vs : List V) (H1 : Hp) => sp (vs ++ []) H1 Q E) = fun vs H1 => sp vs H1 Q E := by
    funext vs H1
    rw [List.append_nil]
  show ta σ H fun vs H1 => sp (vs ++ []) H1 Q E
  rw [e]
  exact h
theorem st_m1 {rm : V → List V → Hp → VK → Prop} (h : ta σ H fun x H1 => (∃ a, x = .str a) ∧ tb σ H1 fun y H2 => rm x [y] H2 Q) : tM1 rm ta tb σ H Q := h
theorem st_bm {T : String} {rm : V → List V → Hp → VK → Prop} {t : TA} (h : ta σ H fun x H1 => tyV K T x H1 ∧ t σ H1 fun xs H2 => rm x xs H2 Q) : tBM K T rm ta t σ H Q := h
theorem st_lst {t : TA} (h : t σ H fun xs H1 => xs.length ≤ sizeLine ∧ ∀ p, H1 p = none → Q (.ref p) (upd H1 p (.lst xs))) : tLst t σ H Q := h
theorem st_tup {t : TA} (h : t σ H fun xs H1 => xs.length ≤ sizeLine ∧ ∀ p, H1 p = none → Q (.ref p) (upd H1 p (.tup xs))) : tTup t σ H Q := h
/-- a new object: its heap is a letter -/
theorem st_new {o : HO} (q : ∀ p H2, H p = none → Gr H H2 → H2 p = some o → Q (.ref p) H2) : ∀ p, H p = none → Q (.ref p) (upd H p o) := fun p hp => q p _ hp (Gr.new hp) upd_same
theorem st_sl {rs : V → Option Int → Option Int → Hp → VK → Prop} {tl th : TO} (h : te σ H fun x H1 => tl σ H1 fun l H2 => th σ H2 fun u H3 => rs x l u H3 Q) : tSl rs te tl th σ H Q := h
theorem st_noPart {Q : Option Int → Hp → Prop} (q : Q none H) : tNoPart σ H Q := q
theorem st_part {Q : Option Int → Hp → Prop} (h : te σ H fun x H1 => ∃ i, x = .int i ∧ Q (some i) H1) : tPart te σ H Q := h
theorem st_exi {P : Int → Prop} {i : Int} (q : P i) : ∃ j, V.int i = V.int j ∧ P j := ⟨i, rfl, q⟩
theorem st_ixL {p : Addr} {xs : List V} {i : Int} (h : SqL K H p xs) (ha : atI xs i = some v) (q : Q v H) : rIxL K (.ref p) (.int i) H Q := ⟨p, xs, i, v, rfl, rfl, h, ha, q⟩
theorem st_ixS {z : Str} {i : Int} {c : Nat} (h : z.length ≤ sizeLine) (ha : atI z.cps.toList i = some c) (q : Q (.str ⟨#[c]⟩) H) : rIxS (.str z) (.int i) H Q := ⟨z, i, c, rfl, rfl, h, ha, q⟩
theorem st_slS {z : Str} {lo hi : Option Int} (h : z.length ≤ sizeLine) (q : Q (.str (cutS z lo hi)) H) : rSlS (.str z) lo hi H Q := ⟨z, rfl, h, q⟩
/-- isinstance(x, a built-in kind) -/
theorem st_isi {m n : String} {b : Bool} (ty : TyX K H x (.type m)) (e : kitB m n = some b) (q : Q (.bl b) H) : rIsi K [x, .ty n] H Q := ⟨x, .ty n, .type m, .type n, b, rfl, .ty n, ty, kit_ty e, q⟩
theorem st_all {p : Addr} {bs : List Bool} (h : SqL K H p (bs.map V.bl)) (q : Q (.bl (bs.all id)) H) : rAll K [.ref p] H Q := ⟨p, bs, rfl, h, q⟩

theorem st_lenL {p : Addr} {ys : List V} (h : SqL K H p ys) (q : Q (.int ys.length) H) : rLenQ K [.ref p] H Q := ⟨p, ys, rfl, .inl h, q⟩
theorem st_lenT {p : Addr} {ys : List V} (h : SqT K H p ys) (q : Q (.int ys.length) H) : rLenQ K [.ref p] H Q := ⟨p, ys, rfl, .inr h, q⟩
theorem st_lenS {z : Str} (h : z.length ≤ sizeLine) (q : Q (.int z.length) H) : rLenS [.str z] H Q := ⟨z, rfl, h, q⟩
theorem st_listL {p : Addr} {ys : List V} (h : SqL K H p ys) (q : ∀ l, H l = none → Q (.ref l) (upd H l (.lst ys))) : rListOf K [.ref p] H Q := ⟨p, ys, rfl, .inl h, q⟩
theorem st_listT {p : Addr} {ys : List V} (h : SqT K H p ys) (q : ∀ l, H l = none → Q (.ref l) (upd H l (.lst ys))) : rListOf K [.ref p] H Q := ⟨p, ys, rfl, .inr h, q⟩
theorem st_tupL {p : Addr} {ys : List V} (h : SqL K H p ys) (q : ∀ l, H l = none → Q (.ref l) (upd H l (.tup ys))) : rTupOf K [.ref p] H Q := ⟨p, ys, rfl, .inl ⟨h, q⟩⟩
theorem st_joinL {a : Str} {p : Addr} {ys : List Str} (h : SqL K H p (ys.map V.str)) (hz : (ys.map (·.length)).sum + ys.length * a.length ≤ 16777216) (q : Q (.str (Txt.join a ys)) H) : (∃ b, V.str a = .str b) ∧ rJoin K (.str a) [.ref p] H Q := ⟨⟨a, rfl⟩, a, p, ys, rfl, rfl, .inl h, hz, q⟩
theorem st_join {a : Str} {p : Addr} {ys : List Str} (h : SqL K H p (ys.map V.str) ∨ SqT K H p (ys.map V.str)) (hz : (ys.map (·.length)).sum + ys.length * a.length ≤ 16777216) (q : Q (.str (Txt.join a ys)) H) : rJoin K (.str a) [.ref p] H Q := ⟨a, p, ys, rfl, rfl, h, hz, q⟩
theorem st_split {a b : Str} (hb : (b.length == 0) = false) (ha : a.length + 2 ≤ sizeLine) (q : ∀ p, H p = none → Q (.ref p) (upd H p (.lst ((Txt.split a b).map V.str)))) : rSplit (.str a) [.str b] H Q := ⟨a, b, rfl, rfl, hb, ha, q⟩
theorem st_starts {a b : Str} (q : Q (.bl (Txt.startswith a b)) H) : rStarts (.str a) [.str b] H Q := ⟨a, b, rfl, rfl, q⟩
theorem st_inSign {c : Nat} {z : Str} (q : Q (.bl (decide (c ∈ z.cps.toList))) H) : rInSign (.str ⟨#[c]⟩) (.str z) H Q := ⟨c, z, rfl, rfl, q⟩
theorem st_addS {i j : Str} (h : i.length + j.length ≤ sizeLine) (q : Q (.str (i ++ j)) H) : rAddS (.str i) (.str j) H Q := ⟨i, j, rfl, rfl, h, q⟩
theorem st_isNo (q : Q (.bl (decide (x = .non))) H) : rIsNo x .non H Q := ⟨rfl, q⟩
theorem st_strx {A : Prop} {a : Str} (h : A) : (∃ b, V.str a = .str b) ∧ A := ⟨⟨a, rfl⟩, h⟩
theorem st_cat {p q : Addr} {xs ys : List V} (h1 : H p = some (.lst xs)) (h2 : H q = some (.lst ys)) (hz : xs.length + ys.length ≤ sizeLine) (k : ∀ r, H r = none → Q (.ref r) (upd H r (.lst (xs ++ ys)))) : rCat (.ref p) (.ref q) H Q := ⟨p, q, xs, ys, rfl, rfl, h1, h2, hz, k⟩
theorem st_setL {p : Addr} {xs : List V} {i : Int} {j : Nat} {Q : Hp → Prop} (h : H p = some (.lst xs)) (hi : ixN xs.length i = some j) (q : Q (upd H p (.lst (xs.set j v)))) : rSetL (.ref p) (.int i) v H Q := ⟨p, xs, i, j, rfl, rfl, h, hi, q⟩
theorem st_append {l : Addr} {xs : List V} (h : H l = some (.lst xs)) (hz : xs.length < sizeLine) (q : Q .non (upd H l (.lst (xs ++ [y])))) : rAppend (.ref l) [y] H Q := ⟨l, xs, y, rfl, rfl, h, hz, q⟩
theorem st_tyL {p : Addr} {xs : List V} {A : Prop} (h : SqL K H p xs) (a : A) : tyV K "list" (.ref p) H ∧ A := ⟨.inl ⟨rfl, xs, h⟩, a⟩

/-- a and b as a value: the ways meet again -/
theorem st_meet {R : VK} {te : L2.St → Hp → VK → Prop} {d b : Bool} (hte : d = true → ∀ R' : VK, (∀ H2, Gr H H2 → R' (.bl b) H2) → te σ H R') (hf : d = false → b = false) (k : ∀ H2, Gr H H2 → R (.bl b) H2) : if d = true then te σ H R else R (.bl false) H := by
  cases d with
  | true => exact iteT (hte rfl R k)
  | false =>
    have k0 := k H (Gr.refl H)
    rw [hf rfl] at k0
    exact iteF k0
theorem iteNT {A B : Prop} (h : A) : if (!false) = true then A else B := iteT h
theorem iteNF {A B : Prop} (h : B) : if (!true) = true then A else B := iteF h
theorem st_tAllS {Pt : Addr} {pb : Nat → Bool} (h : te σ H fun v H1 => ∃ a : Str, v = .str a ∧ GxR.TabG H1 Pt ∧ ∀ H2, GxR.Tabbed Pt H1 H2 → Q (.bl (a.cps.toList.all pb)) H2) : GxR.tAllS Pt pb te σ H Q := h
theorem st_allS {z : Str} {Pt : Addr} {pb : Nat → Bool} (t : GxR.TabG H Pt) (q : ∀ H2, Gr H H2 → Q (.bl (z.cps.toList.all pb)) H2) : GxR.TabG H Pt ∧ ∀ H2, GxR.Tabbed Pt H H2 → Q (.bl (z.cps.toList.all pb)) H2 := ⟨t, fun H2 tb => q H2 (Gr.tabbed t tb)⟩

/-! ### statements -/
variable {n : L2.St → Hp → Prop} {rt : VK} {b c : L2.St → Hp → Prop} {ts us : TS} {D : Ends}
theorem st_seq (h : ts ⟨us ⟨n, rt, b, c⟩, rt, b, c⟩ σ H) : tSeq ts us ⟨n, rt, b, c⟩ σ H := h
theorem st_asg {i : Nat} (h : te σ H fun x H1 => n (σ.set i (some x)) H1) : tAsg te (gName i) ⟨n, rt, b, c⟩ σ H := h
theorem st_asgSub {to ti : TE} {tset : TSet} (h : te σ H fun x H1 => to σ H1 fun o H2 => ti σ H2 fun i H3 => tset o i x H3 fun H4 => n σ H4) : tAsg te (gSub to ti tset) ⟨n, rt, b, c⟩ σ H := h
theorem st_ifS (h : t σ H fun k H1 => if k = true then ts D σ H1 else us D σ H1) : tIfS t ts us D σ H := h
theorem st_next (q : n σ H) : tNext ⟨n, rt, b, c⟩ σ H := q
theorem st_ret (h : te σ H rt) : tRet te ⟨n, rt, b, c⟩ σ H := h
theorem st_retN (q : rt .non H) : tRetN ⟨n, rt, b, c⟩ σ H := q
theorem st_drop (h : te σ H fun _ H1 => n σ H1) : tDrop te ⟨n, rt, b, c⟩ σ H := h
/-- a loop's end, a comprehension's end, by a name -/
def LF (g : TG) (tb : TS) (D : Ends) (σ : L2.St) (J : It) (H : Hp) : Prop := ∃ W : Nat → Nat → L2.St → Hp → Prop, (∃ m, W 0 m σ H) ∧ ∀ i m σ H, W i m σ H →
  (J.stop i H ∧ D.nx σ H) ∨ (J.go i H ∧ ∃ N : L2.St → Hp → Prop, (∀ σ' H', N σ' H' → ∃ m', m' < m ∧ W (i + 1) m' σ' H') ∧ ∀ x H', J.yld i H x H' → g x σ H' fun σ2 H2 => tb { D with nx := N, ct := N, bk := D.nx } σ2 H2)
def LC (g : TG) (tt : TT) (te : TE) (vs : List Nat) (σ : L2.St) (Q : VK) (J : It) (H1 : Hp) : Prop := ∀ D, H1 D = none → ∃ W : Nat → Nat → Hp → Prop, (∃ m, W 0 m (upd H1 D (.lst []))) ∧ ∀ i m H, W i m H →
  (J.stop i H ∧ Q (.ref D) H) ∨ (J.go i H ∧ ∃ Nx : Hp → Prop, (∀ H', Nx H' → ∃ m', m' < m ∧ W (i + 1) m' H') ∧ ∀ x H', J.yld i H x H' → g x (wipe σ vs) H' fun σ2 H2 => wipe σ2 vs = wipe σ vs ∧ tt σ2 H2 fun b H3 =>
    if b = true then te σ2 H3 fun y H4 => ∃ acc, H4 D = some (.lst acc) ∧ acc.length < sizeLine ∧ Nx (upd H4 D (.lst (acc ++ [y]))) else Nx H3)
theorem st_lc {wi : TI} {g : TG} {tt : TT} {vs : List Nat} (h : wi σ H (LC g tt te vs σ Q)) : tLc wi g tt te vs σ H Q := h
theorem st_for {wi : TI} {g : TG} {tb : TS} (h : wi σ H (LF g tb D σ)) : tFor wi g tb D σ H := h
variable {R : It → Hp → Prop}
theorem st_iL {tl : TE} (h : tl σ H fun x H1 => ∃ a, x = .ref a ∧ (∃ xs, SqL K H1 a xs) ∧ R (Itl K a) H1) : iList K tl σ H R := h
theorem st_exL {a : Addr} {xs : List V} (hs : SqL K H a xs) (h : R (Itl K a) H) : ∃ a', V.ref a = .ref a' ∧ (∃ xs, SqL K H a' xs) ∧ R (Itl K a') H := ⟨a, rfl, ⟨xs, hs⟩, h⟩
theorem st_iT {tl : TE} (h : tl σ H fun x H1 => ∃ a, x = .ref a ∧ (∃ xs, SqT K H1 a xs) ∧ R (Itt K a) H1) : iTup K tl σ H R := h
theorem st_exT {a : Addr} {xs : List V} (hs : SqT K H a xs) (h : R (Itt K a) H) : ∃ a', V.ref a = .ref a' ∧ (∃ xs, SqT K H a' xs) ∧ R (Itt K a') H := ⟨a, rfl, ⟨xs, hs⟩, h⟩
theorem st_iR {ta : TA} (h : ta σ H fun vs H1 => ∃ j : Int, vs = [.int j] ∧ -(2 ^ 62) ≤ j ∧ j < 2 ^ 62 ∧ R (Itr 0 j.toNat) H1) : iRng1 ta σ H R := h
theorem st_exR {j : Int} (h1 : 0 ≤ j) (h2 : j ≤ 1000000) (h : R (Itr 0 j.toNat) H) : ∃ i : Int, [V.int j] = [V.int i] ∧ -(2 ^ 62) ≤ i ∧ i < 2 ^ 62 ∧ R (Itr 0 i.toNat) H := ⟨j, rfl, by omega, by omega, h⟩
theorem st_iS {te : TE} (h : te σ H fun v H1 => ∃ x, v = .str x ∧ R (Its x) H1) : iStr te σ H R := h
theorem st_exS {P : Str → Prop} {z : Str} (h : P z) : ∃ x, V.str z = .str x ∧ P x := ⟨z, rfl, h⟩
end

/-! ### comprehensions: what each turn gives (f), nothing else changed but by growth -/
theorem filterMap_snoc {n : Nat} {f : Nat → Option V} : (List.range (n + 1)).filterMap f = (List.range n).filterMap f ++ (match f n with | some v => [v] | none => []) := by
  rw [List.range_succ, List.filterMap_append]
  congr 1
  cases e : f n <;> simp [e]
theorem filterMap_len (n : Nat) (f : Nat → Option V) : ((List.range n).filterMap f).length ≤ n := by
  have h := List.length_filterMap_le f (List.range n)
  rw [List.length_range] at h
  exact h
theorem lc_gr {J : It} {n : Nat} {G : Hp → Prop} {Y : Nat → V → Prop} {j : Nat} {tt : TT} {te : TE} {vs : List Nat} {σ : L2.St} {H1 : Hp} {Q : VK} (w : Walk J n G (fun i H x H' => H' = H ∧ Y i x)) (hG : ∀ H', Gr H1 H' → G H') (f : Nat → Option V)
    (hs : ∀ i x H2, i < n → Y i x → Gr H1 H2 → ∀ (Qy : VK) (Qn : Hp → Prop), (∀ v H3, f i = some v → Gr H2 H3 → Qy v H3) → (f i = none → ∀ H3, Gr H2 H3 → Qn H3) → tt ((wipe σ vs).set j (some x)) H2 fun b H3 => if b = true then te ((wipe σ vs).set j (some x)) H3 Qy else Qn H3)
    (hq : ∀ D H2, H1 D = none → Gr H1 H2 → H2 D = some (.lst ((List.range n).filterMap f)) → Q (.ref D) H2)
    (hn : n ≤ 1000000) (hw : ∀ x, wipe ((wipe σ vs).set j (some x)) vs = wipe σ vs) : LC (gName j) tt te vs σ Q J H1 := by
  intro D hD
  refine lc_it w (fun i H' => Gr H1 H' ∧ H' D = some (.lst ((List.range i).filterMap f))) ⟨Gr.new hD, upd_same⟩ (fun i H' _ p => hG H' p.1) ?_ (fun H' p => hq D H' hD p.1 p.2)
  rintro i x H' H'' hi ⟨g, e⟩ ⟨rfl, y⟩
  refine ⟨hw x, hs i x H'' hi y g _ _ (fun v H3 ef g3 => ?_) (fun ef H3 g3 => ?_)⟩
  · refine ⟨(List.range i).filterMap f, g3.lst e, ?_, (g.trans g3).mut hD, ?_⟩
    · have := filterMap_len i f
      exact sz_lt (by omega)
    · rw [filterMap_snoc, ef]
      exact upd_same
  · refine ⟨g.trans g3, ?_⟩
    rw [filterMap_snoc, ef]
    show H3 D = some (HO.lst (_ ++ []))
    rw [List.append_nil]
    exact g3.lst e
/-- a for over it -/
theorem st_loop {J : It} {m : Nat} {G : Hp → Prop} {Y : Nat → V → Prop} {j : Nat} {tb : TS} {n : L2.St → Hp → Prop} {rt : VK} {b c : L2.St → Hp → Prop} {σ : L2.St} {H : Hp} (w : Walk J m G (fun i H x H' => H' = H ∧ Y i x)) (Pv : Nat → L2.St → Hp → Prop) (h0 : Pv 0 σ H)
    (hG : ∀ i σ H, i ≤ m → Pv i σ H → G H) (hs : ∀ i x σ H, i < m → Pv i σ H → Y i x → tb ⟨Pv (i + 1), rt, n, Pv (i + 1)⟩ (σ.set j (some x)) H) (hd : ∀ σ H, Pv m σ H → n σ H) : LF (gName j) tb ⟨n, rt, b, c⟩ σ J H :=
  for_it w Pv h0 hG (fun i x σ H H' hi p y => by
    obtain ⟨rfl, y⟩ := y
    exact hs i x σ H' hi p y) hd
theorem filterMap_some {n : Nat} (f : Nat → V) : (List.range n).filterMap (fun i => some (f i)) = (List.range n).map f := by
  induction n with
  | zero => rfl
  | succ n ih => rw [List.range_succ, List.filterMap_append, List.map_append, ih] <;> rfl
theorem range_map_get (xs : List V) (f : V → V) (d : V) : (List.range xs.length).map (fun i => f (xs.getD i d)) = xs.map f := by
  induction xs with
  | nil => rfl
  | cons x r ih =>
    rw [List.length_cons, List.range_succ_eq_map, List.map_cons, List.map_map, List.map_cons, ← ih]
    rfl
/-- over a list, each item gives f of it -/
theorem lc_l {K : PySem.W.Frag} {a : Addr} {xs : List V} {j : Nat} {te : TE} {vs : List Nat} {σ : L2.St} {H1 : Hp} {Q : VK} (f : V → V) (h : SqL K H1 a xs)
    (hs : ∀ (i : Nat) (x : V) (H2 : Hp), xs[i]? = some x → Gr H1 H2 → ∀ Qy : VK, (∀ H3, Gr H2 H3 → Qy (f x) H3) → te ((wipe σ vs).set j (some x)) H2 Qy)
    (hq : ∀ D H2, H1 D = none → Gr H1 H2 → H2 D = some (.lst (xs.map f)) → Q (.ref D) H2)
    (hn : xs.length ≤ 1000000) (hw : ∀ x, wipe ((wipe σ vs).set j (some x)) vs = wipe σ vs := by intro _; rfl) : LC (gName j) tYes te vs σ Q (Itl K a) H1 := by
  refine lc_gr (n := xs.length) (Y := fun i x => xs[i]? = some x) walk_list (fun H' g => g.l h) (fun i => some (f (xs.getD i .non))) (fun i x H2 hi y g Qy Qn q1 q2 => ?_) (fun D H2 hD g e => hq D H2 hD g ?_) hn hw
  · refine iteT (B := Qn H2) (hs i x H2 y g Qy fun H3 g3 => q1 _ H3 ?_ g3)
    rw [List.getD_eq_getElem?_getD, y] <;> rfl
  · rw [e, filterMap_some, range_map_get xs f .non]
/-- over a list, with a test: f of an item, where it is some *-/
theorem lc_lf {K : PySem.W.Frag} {a : Addr} {xs : List V} {j : Nat} {tt : TT} {te : TE} {vs : List Nat} {σ : L2.St} {H1 : Hp} {Q : VK} (f : V → Option V) (h : SqL K H1 a xs)
    (hs : ∀ (i : Nat) (x : V) (H2 : Hp), xs[i]? = some x → Gr H1 H2 → ∀ (Qy : VK) (Qn : Hp → Prop), (∀ v H3, f x = some v → Gr H2 H3 → Qy v H3) → (f x = none → ∀ H3, Gr H2 H3 → Qn H3) → tt ((wipe σ vs).set j (some x)) H2 fun b H3 => if b = true then te ((wipe σ vs).set j (some x)) H3 Qy else Qn H3)
    (hq : ∀ D H2, H1 D = none → Gr H1 H2 → H2 D = some (.lst (xs.filterMap f)) → Q (.ref D) H2)
    (hn : xs.length ≤ 1000000) (hw : ∀ x, wipe ((wipe σ vs).set j (some x)) vs = wipe σ vs := by intro _; rfl) : LC (gName j) tt te vs σ Q (Itl K a) H1 := by
  have e0 : ∀ (i : Nat) (x : V), xs[i]? = some x → f (xs.getD i .non) = f x := fun i x y => by rw [List.getD_eq_getElem?_getD, y] <;> rfl
  refine lc_gr (n := xs.length) (Y := fun i x => xs[i]? = some x) walk_list (fun H' g => g.l h) (fun i => f (xs.getD i .non)) (fun i x H2 hi y g Qy Qn q1 q2 => ?_) (fun D H2 hD g e => hq D H2 hD g ?_) hn hw
  · refine hs i x H2 y g Qy Qn (fun v H3 q => q1 v H3 ?_) (fun q => q2 ?_)
    · rw [e0 i x y]
      exact q
    · rw [e0 i x y]
      exact q
  · rw [e]
    have k : ∀ l : List V, (List.range l.length).filterMap (fun i => f (l.getD i .non)) = l.filterMap f := by
      intro l
      induction l with
      | nil => rfl
      | cons x r ih =>
        rw [List.length_cons, List.range_succ_eq_map, List.filterMap_cons, List.filterMap_cons, List.filterMap_map, ← ih]
        rfl
    rw [k]
theorem lc_r {n : Nat} {j : Nat} {te : TE} {vs : List Nat} {σ : L2.St} {H1 : Hp} {Q : VK} (f : Nat → V)
    (hs : ∀ (i : Nat) H2, i < n → Gr H1 H2 → ∀ Qy : VK, (∀ H3, Gr H2 H3 → Qy (f i) H3) → te ((wipe σ vs).set j (some (.int (i : Int)))) H2 Qy)
    (hq : ∀ D H2, H1 D = none → Gr H1 H2 → H2 D = some (.lst ((List.range n).map f)) → Q (.ref D) H2)
    (hn : n ≤ 1000000) (hw : ∀ x, wipe ((wipe σ vs).set j (some x)) vs = wipe σ vs := by intro _; rfl) : LC (gName j) tYes te vs σ Q (Itr 0 n) H1 := by
  refine lc_gr (n := n) (Y := fun i x => x = .int (0 + (i : Int))) walk_range (fun _ _ => True.intro) (fun i => some (f i)) (fun i x H2 hi y g Qy Qn q1 q2 => ?_) (fun D H2 hD g e => hq D H2 hD g ?_) hn hw
  · subst y
    rw [Int.zero_add]
    exact iteT (B := Qn H2) (hs i H2 hi g Qy fun H3 g3 => q1 _ H3 rfl g3)
  · rw [e, filterMap_some]
theorem lc_s {z : Str} {j : Nat} {te : TE} {vs : List Nat} {σ : L2.St} {H1 : Hp} {Q : VK} (f : Nat → V)
    (hs : ∀ (c : Nat) H2, c ∈ z.cps.toList → Gr H1 H2 → ∀ Qy : VK, (∀ H3, Gr H2 H3 → Qy (f c) H3) → te ((wipe σ vs).set j (some (.str ⟨#[c]⟩))) H2 Qy)
    (hq : ∀ D H2, H1 D = none → Gr H1 H2 → H2 D = some (.lst (z.cps.toList.map f)) → Q (.ref D) H2)
    (hn : z.length ≤ 1000000) (hw : ∀ x, wipe ((wipe σ vs).set j (some x)) vs = wipe σ vs := by intro _; rfl) : LC (gName j) tYes te vs σ Q (Its z) H1 := by
  refine lc_gr (n := z.cps.size) (Y := fun i v => ∃ c, z.cps[i]? = some c ∧ v = .str ⟨#[c]⟩) walk_str (fun _ _ => True.intro) (fun i => some (f (z.cps.toList.getD i 0))) (fun i x H2 hi y g Qy Qn q1 q2 => ?_) (fun D H2 hD g e => hq D H2 hD g ?_) hn hw
  · obtain ⟨c, e, rfl⟩ := y
    have e2 : z.cps.toList[i]? = some c := by rw [Array.getElem?_toList]; exact e
    refine iteT (B := Qn H2) (hs c H2 (List.mem_of_getElem? e2) g Qy fun H3 g3 => q1 _ H3 ?_ g3)
    rw [List.getD_eq_getElem?_getD, e2] <;> rfl
  · rw [e, filterMap_some]
    have k : ∀ l : List Nat, (List.range l.length).map (fun i => f (l.getD i 0)) = l.map f := by
      intro l
      induction l with
      | nil => rfl
      | cons x r ih =>
        rw [List.length_cons, List.range_succ_eq_map, List.map_cons, List.map_map, List.map_cons, ← ih]
        rfl
    rw [← Array.length_toList, k]

/-! ### a def of the module, called by its name -/
structure Df (P : Program) (w : World) (K : PySem.W.Frag) (mg : Str → Option Value) (base : Heap) (k : Nat) (x : Str) (ps : List Str) (sp : Sp) : Prop where
  ex : ∃ (f : Addr) (fd : FuncData), FnOk P w K mg base (L2.CX P w) k f fd ps sp ∧ mg x = some (.ref f) ∧ PySem.W.keepIn K (.ref f) = true ∧ Binds K fd ps []
section
variable {X : Cx} {k j : Nat} {ps : List Str} {x : Str} {sp : Sp} {p pos : Pos} {e : Expr} {es : List Expr} {t : TA}
theorem pe_d0 (c : Df X.prog X.w X.K X.mg X.base k x ps sp) (hr : Room k X.A) (hg : Gl X x) (ha : PA X (e :: es) t)
    (hdb : (x == ("__debug__" : Str)) = false := by decide) (he : starEach (e :: es) X.env = (false, eval e X.env) :: starEach es X.env := by rfl) (hpl : (backTo pos (starEach es X.env)).any (·.1) = false := by rfl) :
    PE X (.Call (.Name x p) (e :: es) [] pos) (tCall sp [] E0 t) := by
  obtain ⟨f, fd, F, hm, kp, b⟩ := c.ex
  exact pe_call F hr hg hm kp b .nil passL ha hdb he hpl
theorem pe_dE {E : XK} (c : Df X.prog X.w X.K X.mg X.base k x ps sp) (hr : Room k X.A) (hg : Gl X x) (tk : Takes X (fun cls d _ H => E cls d H)) (ha : PA X (e :: es) t)
    (hdb : (x == ("__debug__" : Str)) = false := by decide) (he : starEach (e :: es) X.env = (false, eval e X.env) :: starEach es X.env := by rfl) (hpl : (backTo pos (starEach es X.env)).any (·.1) = false := by rfl) :
    PE X (.Call (.Name x p) (e :: es) [] pos) (tCall sp [] E t) := by
  obtain ⟨f, fd, F, hm, kp, b⟩ := c.ex
  exact pe_call F hr hg hm kp b .nil (passes_call tk fun _ _ _ _ h => h) ha hdb he hpl
end
/-! ### a call of a local that holds a def which may raise; what is raised is wished for at the slots -/
def tCallLS (i : Nat) (S : Addr → Sp → Prop) (E : L2.St → XK) (t : TA) : TE := fun σ H Q => ∃ f sp, σ[i]? = some (some (.ref f)) ∧ S f sp ∧ t σ H fun vs H1 => sp vs H1 Q (E σ)
structure HeldX (P : Program) (w : World) (K : PySem.W.Frag) (mg : Str → Option Value) (base : Heap) (k : Nat) (f : Addr) (sp : Sp) : Prop where
  ex : ∃ (fd : FuncData) (ps : List Str), FnOk P w K mg base (L2.CX P w) k f fd ps sp ∧ PySem.W.keepIn K (.ref f) = true ∧ Binds K fd ps []
section
variable {X : Cx} {k i : Nat} {x : Str} {p pos : Pos} {e : Expr} {es : List Expr} {t : TA}
theorem pe_callLS {S : Addr → Sp → Prop} {E : L2.St → XK} (A : ∀ f sp, S f sp → HeldX X.prog X.w X.K X.mg X.base k f sp) (hr : Room k X.A) (hx : ∀ σ, PassesAt (L2.CX X.prog X.w) X σ (E σ)) (hN : X.N[i]? = some x) (hv : Vis X.env.scope x) (ha : PA X (e :: es) t)
    (hdb : (x == ("__debug__" : Str)) = false := by decide) (hcd : (x == ("__classdict__" : Str)) = false := by decide)
    (he : starEach (e :: es) X.env = (false, eval e X.env) :: starEach es X.env := by rfl) (hpl : (backTo pos (starEach es X.env)).any (·.1) = false := by rfl) : PE X (.Call (.Name x p) (e :: es) [] pos) (tCallLS i S E t) := by
  refine ⟨fun pins s σ H Q I h => ?_⟩
  obtain ⟨f, sp, hs, hS, ht⟩ := h
  obtain ⟨fd, ps, F, hk, hb⟩ := (A f sp hS).ex
  refine wpAny_Call_Name_kw (thn ((pe_var (pos := p) hN hv hdb hcd).run pins s σ H (fun v H1 => v = .ref f ∧ H1 = H) I ⟨.ref f, hs, rfl, rfl⟩) fun u s1 ⟨v, H1, I1, r1, q1⟩ => ?_)
  obtain ⟨rfl, rfl⟩ := q1
  cases r1
  refine PySem.W.callWith_K (h₀ := X.base) I.ok.mod.kin hk (thn (ha.run pos pins s1 σ _ _ I1 ht) fun us s2 ⟨vs, H2, I2, r, q⟩ => ⟨I2.kIn, ?_⟩) he hpl
  exact run_fnS F hr hb (hx σ) I2 r q
/-- a block whose rules stand on a fact: the fact is asked ahead of it -/
theorem pss_guard {sts : List Stmt} {ts : TS} {p : Prop} (h : p → PSs X sts ts) : PSs X sts (fun D σ H => p ∧ ts D σ H) :=
  ⟨fun pins s σ H D I q => (h q.1).run pins s σ H D I q.2⟩
end
theorem atI_getD {l : List Nat} {i : Int} (h0 : 0 ≤ i) (h1 : i < (l.length : Int)) : atI l i = some (l.getD i.toNat 0) := by
  have e : i = ((i.toNat : Nat) : Int) := (Int.toNat_of_nonneg h0).symm
  have hl : i.toNat < l.length := by omega
  rw [e]
  refine atI_nat ?_
  rw [List.getD_eq_getElem?_getD, Int.toNat_natCast, List.getElem?_eq_getElem hl] <;> rfl
theorem atI_getV {l : List V} {i : Int} (h0 : 0 ≤ i) (h1 : i < (l.length : Int)) : ∃ v, v ∈ l ∧ atI l i = some v := by
  obtain ⟨j, rfl⟩ : ∃ j : Nat, i = (j : Int) := ⟨i.toNat, (Int.toNat_of_nonneg h0).symm⟩
  have hl : j < l.length := by omega
  exact ⟨l[j], List.getElem_mem hl, atI_nat (List.getElem?_eq_getElem hl)⟩
end My

namespace My
open PySem PySem.Spec PyProof.Rows L2
local macro_rules | `(tactic| walk_at "v") => `(tactic| ((with_reducible show tVar _ _ _ _); (refine st_var (by rfl) ?_)))
local macro_rules | `(tactic| walk_at "sx") => `(tactic| first
  | walk_at "v"
  | with_reducible refine st_c ?_
  | with_reducible refine st_op ?_
  | with_reducible refine st_seq ?_
  | with_reducible refine st_asg ?_
  | with_reducible refine st_ifS ?_
  | with_reducible refine st_next ?_
  | with_reducible refine st_ret ?_
  | with_reducible refine st_drop ?_
  | with_reducible refine st_nil ?_
  | with_reducible refine st_cons ?_
  | with_reducible refine st_CB ?_
  | with_reducible refine st_call ?_
  | with_reducible refine st_test ?_
  | with_reducible refine st_tB ?_
  | with_reducible refine st_bl ?_
  | with_reducible refine st_and ?_
  | with_reducible refine st_or ?_
  | with_reducible refine st_not ?_
  | with_reducible refine st_yes ?_
  | with_reducible refine st_andV ?_
  | with_reducible refine st_orV ?_
  | with_reducible refine st_notV ?_
  | with_reducible refine st_ifE ?_
  | with_reducible refine st_chain ?_
  | with_reducible refine st_I0 ?_
  | with_reducible refine st_m1 ?_
  | with_reducible refine st_bm ?_
  | with_reducible refine st_lst ?_
  | with_reducible refine st_tup ?_
  | with_reducible refine st_sl ?_
  | with_reducible refine st_noPart ?_
  | with_reducible refine st_part ?_
  | with_reducible refine st_exi ?_
  | with_reducible refine st_asgSub ?_
  | with_reducible refine st_lc ?_
  | with_reducible refine st_for ?_
  | with_reducible refine st_iL ?_
  | with_reducible refine st_iT ?_
  | with_reducible refine st_iR ?_
  | with_reducible refine st_iS ?_
  | with_reducible refine st_exS ?_
  | with_reducible refine st_starts ?_
  | ((with_reducible refine st_eq ?hsc ?_); (case hsc => rfl))
  | ((with_reducible refine st_ne ?hsc ?_); (case hsc => rfl))
  | with_reducible refine st_inSign ?_
  | with_reducible refine st_isNo ?_
  | with_reducible refine st_strx ?_
  | with_reducible refine st_tAllS ?_
  | with_reducible refine iteT ?_
  | with_reducible refine iteNT ?_
  | with_reducible refine iteNF ?_
  | with_reducible refine iteF ?_)
local macro_rules | `(tactic| walk_at "sq") => `(tactic| first
  | assumption
  | (refine Gr.l (by assumption) ?_; walk_at "sq")
  | (refine Gr.t (by assumption) ?_; walk_at "sq")
  | (refine Gr.ty (by assumption) ?_; walk_at "sq")
  | (refine Gr.lst (by assumption) ?_; walk_at "sq")
  | (refine Gr.tab (by assumption) _ ?_; walk_at "sq"))
local macro_rules | `(tactic| walk_at "new") => `(tactic| (intro p hp; generalize hH : upd _ p _ = H2; have g := gr_of hp hH; have e := at_of hH; clear hH))
/-! ### the text by places -/
def top (i : Nat) : Stmt := PySem.Challenge.pw_snaptree_k01_paths_written.main.body.getD i (.Pass ⟨0, 0, 0, 0⟩)
abbrev sisName : Stmt := top 6
abbrev schecked : Stmt := top 7
abbrev swritten : Stmt := top 8
abbrev sread : Stmt := top 9
abbrev scell : Stmt := top 11
abbrev snameBy : Stmt := top 12
abbrev ssignBy : Stmt := top 13
abbrev sisNameL : Stmt := top 14
abbrev srefused : Stmt := top 15
abbrev snamesL : Stmt := top 16
abbrev stextDue : Stmt := top 17
abbrev scheckedL : Stmt := top 18
abbrev slineL : Stmt := top 19
abbrev slaw : Stmt := top 20
/-- what the top has written, by the names that the defs read -/
structure Txt (K : PySem.W.Frag) (mg : Str → Option Value) (S B fCh fWr fRe : Addr) : Prop where
  len : mg "len" = none
  isinstance : mg "isinstance" = none
  all : mg "all" = none
  range : mg "range" = none
  str : mg "str" = none
  list : mg "list" = none
  tuple : mg "tuple" = none
  bool : mg "bool" = none
  ValueError : mg "ValueError" = none
  mg_LONGEST_NAME : ∃ t, mg "LONGEST_NAME" = some (.int 8 t)
  mg_LONGEST_PATH : ∃ t, mg "LONGEST_PATH" = some (.int 8 t)
  mg_SnapError : mg "SnapError" = some (.ref S)
  mg_BadPath : mg "BadPath" = some (.ref B)
  mg_checked : mg "checked" = some (.ref fCh)
  mg_written : mg "written" = some (.ref fWr)
  mg_read : mg "read" = some (.ref fRe)
  x_BadPath : PySem.W.excIn K B [.type "ValueError", .type "Exception", .type "BaseException", .type "object"] "ValueError.__new__" = true
  k_BadPath : PySem.W.keepIn K (.ref B) = true
  b_BadPath : PySem.W.subIn K (.ref B) (.type "BaseException") = some true
  t_BadPath : PySem.W.typeIn K (.ref B) = some (.type "type")
  e_BadPath : PySem.W.exmOne K (.ref B) (.ref B) = some true
  c_BadPath : ExcC K B
  s_BadPath : PySem.W.kitOne K (.ref B) (.ref S) = some true
  v_BadPath : PySem.W.kitOne K (.ref B) (.type "ValueError") = some true
section
variable {P : Program} {w : World} {K : PySem.W.Frag} {mg : Str → Option Value} {base : Heap} {S B fCh fWr fRe : Addr}
theorem sccell : FnScope ["_law_script", "_law_k"] ["_law_script", "_law_k"] (defScope scell) := ⟨rfl, rfl, rfl, by decide +kernel, rfl, by decide +kernel, by decide +kernel⟩
theorem ok_cell {f : Addr} {fd : FuncData} (F : Fun K "_law_cell_at" "_law_cell_at" scell f fd) (T : Txt K mg S B fCh fWr fRe) : FnOk P w K mg base (L2.CX P w) 1 f fd ["_law_script", "_law_k"] (spCell K) := by
  refine F.okX sccell (fun vs H Q E h => ?_) (fun cdv A outer s H vs Q E hr h => ?_)
  · obtain ⟨l, ns, j, rfl, _⟩ := h
    rfl
  · obtain ⟨l, ns, j, rfl, hS, k⟩ := h
    refine ⟨_, (pss_cons (ps_if (pt_cmpR op_lt (pv 1) (pe_callB (cLenQ (K := K) rfl) (by rfl) T.len PySem.boot_len (pa_cons (pv 0) pa_nil)) (nomark _))
  (pss_one (ps_ret (pe_ix (ixL (K := K) rfl) (pv 0) (pv 1) (fun _ _ => rfl))))
  pss_nil)
  (pss_one (ps_ret pe_int))), ?_⟩
    repeat walk_at "sx"
    refine st_lenL hS ?_
    repeat walk_at "sx"
    refine ite3 (fun h => ?_) (fun h => ?_)
    · repeat walk_at "sx"
      rw [List.length_map] at h
      have hj : j < ns.length := by have := of_decide_eq_true h; omega
      exact st_ixL hS (atI_cell hj) k
    · repeat walk_at "sx"
      rw [List.length_map] at h
      have hj : ¬ j < ns.length := by have := of_decide_eq_false h; omega
      rw [cell_out hj] at k
      exact k
end
/-! ### things: names, other things -/
def isS : V → Bool
  | .str _ => true
  | _ => false
def kinds : List String := ["int", "NoneType", "bool", "list", "tuple", "dict"]
/-- a thing that a law hands in: a text, or a thing of another built-in kind -/
def Itm (K : PySem.W.Frag) (H : Hp) (x : V) : Prop := (∃ z : Str, x = .str z ∧ z.length ≤ 1000) ∨ (∃ m, isS x = false ∧ TyX K H x (.type m) ∧ m ∈ kinds)
theorem kit_no {m : String} (h : m ∈ kinds) : kitB m "str" = some false := by
  simp only [kinds, List.mem_cons, List.not_mem_nil, or_false] at h
  rcases h with h | h | h | h | h | h <;> subst h <;> decide +kernel
theorem kit_yes : kitB "str" "str" = some true := by decide +kernel
theorem Gr.itm {K : PySem.W.Frag} {H H' : Hp} {x : V} (g : Gr H H') (h : Itm K H x) : Itm K H' x := by
  rcases h with h | ⟨m, a, b, c⟩
  · exact .inl h
  · exact .inr ⟨m, a, g.ty b, c⟩
theorem st_isStr {K : PySem.W.Frag} {H : Hp} {Q : VK} {x : V} (h : Itm K H x) (q : Q (.bl (isS x)) H) : rIsi K [x, .ty "str"] H Q := by
  rcases h with ⟨z, rfl, _⟩ | ⟨m, a, b, c⟩
  · exact st_isi (.base (.str z)) kit_yes q
  · rw [a] at q
    exact st_isi b (kit_no c) q
def okC (c : Nat) : Bool := decide (97 ≤ c) && decide (c ≤ 122)
/-- is_name -/
def isNm : V → Bool
  | .str z => decide (1 ≤ z.length) && decide (z.length ≤ 8) && z.cps.toList.all okC
  | _ => false
theorem isNm_not {x : V} (h : isS x = false) : isNm x = false := by
  cases x <;> first | rfl | (cases h)
theorem lt_one (a b : Nat) : decide ([a] < [b]) = decide (a < b) := by
  rw [Bool.eq_iff_iff, decide_eq_true_iff, decide_eq_true_iff, List.cons_lt_cons_iff]
  simp
theorem tl_a : (Str.ofString "a").cps.toList = [97] := by decide +kernel
theorem tl_z : (Str.ofString "z").cps.toList = [122] := by decide +kernel
theorem pb_eq (c : Nat) : (!decide ([c] < (Str.ofString "a").cps.toList) && !decide ((Str.ofString "z").cps.toList < [c])) = okC c := by
  rw [tl_a, tl_z, lt_one, lt_one]
  unfold okC
  rw [Bool.eq_iff_iff]
  simp only [Bool.and_eq_true, Bool.not_eq_true', decide_eq_false_iff_not, decide_eq_true_eq]
  omega
/-- a <= x <= b over the signs of a text -/
theorem elt_range {prog : Program} {w : World} {scope : Scope} {x lo hi : Str} {j1 j2 : Nat} {p1 p2 p3 p4 : Pos} (hk : scope.kind = .function) (hl : scope.names.lookup x = some .local) (hd : (x == ("__debug__" : Str)) = false := by decide)
    (hm : lastMarks [.LtE, .LtE] [.Name x p2, .Constant (.str hi) j2 p3] = false := by with_unfolding_all rfl) :
    GxR.EltP prog w scope x (.Compare (.Constant (.str lo) j1 p1) [.LtE, .LtE] [.Name x p2, .Constant (.str hi) j2 p3] p4) (fun c => !decide ([c] < lo.cps.toList) && !decide (hi.cps.toList < [c])) := by
  intro cenv A' E' c t s₂ m₂ hs hn hmx
  refine Compare_chain (Calls.Constant_str ?_) hm
  refine chain_link ?_
  refine wpAny_Name (wpAny_loadName_local (by rw [hs]; exact hk) (show cenv.scope.names.lookup x = some .local by rw [hs]; exact hl) hn hmx ?_) hd
  refine PySem.P.le_str ?_
  refine wpAny_truthy_bool ?_
  by_cases h : [c] < lo.cps.toList
  · have e : (!decide ([c] < lo.cps.toList)) = false := by rw [decide_eq_true h] <;> rfl
    show if (!decide ((⟨#[c]⟩ : Str).cps.toList < lo.cps.toList)) = true then _ else _
    rw [show (!decide ((⟨#[c]⟩ : Str).cps.toList < lo.cps.toList)) = false from e, if_neg Bool.false_ne_true]
    refine ⟨?_, GxR.keeps_tok _ _⟩
    show Value.bool false = Value.bool (!decide ([c] < lo.cps.toList) && !decide (hi.cps.toList < [c]))
    rw [e] <;> rfl
  · have e : (!decide ([c] < lo.cps.toList)) = true := by rw [decide_eq_false h] <;> rfl
    show if (!decide ((⟨#[c]⟩ : Str).cps.toList < lo.cps.toList)) = true then _ else _
    rw [show (!decide ((⟨#[c]⟩ : Str).cps.toList < lo.cps.toList)) = true from e, if_pos rfl]
    refine chain_last (Calls.Constant_str ?_)
    refine PySem.P.le_str ⟨?_, GxR.keeps_tok _ _⟩
    show Value.bool (!decide (hi.cps.toList < [c])) = Value.bool (!decide ([c] < lo.cps.toList) && !decide (hi.cps.toList < [c]))
    rw [e] <;> rfl
def spIsName (K : PySem.W.Frag) (Pt : Addr) : Sp := fun vs H Q _ => ∃ x, vs = [x] ∧ Itm K H x ∧ GxR.TabG H Pt ∧ ∀ H', Gr H H' → Q (.bl (isNm x)) H'
section
variable {P : Program} {w : World} {K : PySem.W.Frag} {mg : Str → Option Value} {base : Heap} {S B fCh fWr fRe : Addr}
theorem scisName : FnScope ["thing"] ["thing"] (defScope sisName) := ⟨rfl, rfl, rfl, by decide +kernel, rfl, by decide +kernel, by decide +kernel⟩
theorem ok_isName {f c Pt : Addr} {oc kV doc pm ct : Value} {od an : Option Addr} {osl : Array (Option Value)} (lk : K.lookup f = some ⟨oc, od, .func (PySem.W.fnOf "is_name" "is_name" (defArgs sisName) (defBody sisName) (defScope sisName) .none kV doc pm an (.ref c) ct), osl⟩)
    (hcd : PySem.W.codeIn K (.ref c) "is_name" = true) (TB : GxR.TabB base mg c Pt) (T : Txt K mg S B fCh fWr fRe) :
    FnOk P w K mg base (L2.CX P w) 1 f (PySem.W.fnOf "is_name" "is_name" (defArgs sisName) (defBody sisName) (defScope sisName) .none kV doc pm an (.ref c) ct) ["thing"] (spIsName K Pt) := by
  refine fn_of lk hcd scisName (fun vs H Q E h => ?_) (fun A outer s H vs Q E hr h => ?_)
  · obtain ⟨x, rfl, _⟩ := h
    rfl
  · obtain ⟨x, rfl, hI, hT, k⟩ := h
    obtain ⟨tn, mgN⟩ := T.mg_LONGEST_NAME
    refine ⟨_, (pss_cons (ps_if (pt_not (pt_val (pe_callB (cIsi (K := K) rfl) (by rfl) T.isinstance boot_isinstance (pa_cons (pv 0) (pa_cons (pe_bltn (v := .ty "str") (by rfl) T.str PyProof.Rows.boot_str rfl) pa_nil)))))
      (pss_one (ps_ret pe_bl)) pss_nil)
      (pss_cons (ps_if (pt_not (pt_chain op_le op_le pe_int (pe_callB cLenS (by rfl) T.len PySem.boot_len (pa_cons (pv 0) pa_nil)) (pe_glob (v := .int 8) rfl mgN ⟨_, rfl⟩)))
      (pss_one (ps_ret pe_bl)) pss_nil)
      (pss_one (ps_ret (GxR.pe_allS hr rfl T.all boot_all TB rfl ⟨rfl, rfl, by decide +kernel, by rfl, by rfl, fun y hy e => absurd e ((show ∀ y ∈ ([((".0" : Str), NameKind.local), (("sign" : Str), NameKind.local)] : List (Str × NameKind)), y.2 ≠ NameKind.free by decide +kernel) y hy)⟩ (pv 0) (elt_range rfl (by rfl)) (fun _ => rfl)))))), ?_⟩
    repeat walk_at "sx"
    refine st_isStr hI ?_
    repeat walk_at "sx"
    refine ite3 (fun h => ?_) (fun h => ?_)
    · repeat walk_at "sx"
      have e : isNm x = false := isNm_not (by simpa using h)
      have k0 := k H (Gr.refl H)
      rw [e] at k0
      exact k0
    · have hs : isS x = true := by simpa using h
      obtain ⟨z, rfl, hz⟩ : ∃ z : Str, x = .str z ∧ z.length ≤ 1000 := by
        rcases hI with h1 | ⟨m, a, _⟩
        · exact h1
        · rw [a] at hs; cases hs
      repeat walk_at "sx"
      refine st_lenS (sz_of (by omega)) ?_
      repeat walk_at "sx"
      have done_ : ∀ b : Bool, isNm (.str z) = b → ∀ H', Gr H H' → Q (.bl b) H' := fun b e H' g => by
        have k0 := k H' g
        rw [e] at k0
        exact k0
      refine ite3 (fun h1 => ?_) (fun h1 => ?_)
      · repeat walk_at "sx"
        refine ite3 (fun h2 => ?_) (fun h2 => ?_)
        · repeat walk_at "sx"
          refine done_ _ ?_ H (Gr.refl H)
          have : ¬ z.length ≤ 8 := by simp at h2; omega
          show (decide (1 ≤ z.length) && decide (z.length ≤ 8) && z.cps.toList.all okC) = false
          rw [decide_eq_false this] <;> simp
        · repeat walk_at "sx"
          refine st_allS hT fun H2 g => ?_
          refine done_ _ ?_ H2 g
          have q1 : 1 ≤ z.length := by simp at h1; omega
          have q2 : z.length ≤ 8 := by simp at h2; omega
          show (decide (1 ≤ z.length) && decide (z.length ≤ 8) && z.cps.toList.all okC) = _
          rw [decide_eq_true q1, decide_eq_true q2, show (fun c => !decide ([c] < (Str.ofString "a").cps.toList) && !decide ((Str.ofString "z").cps.toList < [c])) = okC from funext pb_eq] <;> rfl
      · repeat walk_at "sx"
        refine done_ _ ?_ H (Gr.refl H)
        have : ¬ 1 ≤ z.length := by simp at h1; omega
        show (decide (1 ≤ z.length) && decide (z.length ≤ 8) && z.cps.toList.all okC) = false
        rw [decide_eq_false this] <;> simp
end
/-! ### paths -/
def namesOk (xs : List V) : Bool := decide (xs.length ≤ 8) && xs.all isNm
def odds : List String := ["int", "NoneType", "bool", "str", "dict"]
/-- what is handed in as a path: a list or a tuple of xs, or another thing -/
def PathIn (K : PySem.W.Frag) (H : Hp) (x : V) : Option (List V) → Prop
  | some xs => ∃ p, x = .ref p ∧ (SqL K H p xs ∨ SqT K H p xs) ∧ (∀ v ∈ xs, Itm K H v) ∧ xs.length ≤ 2000
  | none => ∃ m, TyX K H x (.type m) ∧ m ∈ odds
theorem Gr.path {K : PySem.W.Frag} {H H' : Hp} {x : V} {o : Option (List V)} (g : Gr H H') (h : PathIn K H x o) : PathIn K H' x o := by
  cases o with
  | none =>
    obtain ⟨m, a, b⟩ := h
    exact ⟨m, g.ty a, b⟩
  | some xs =>
    obtain ⟨p, a, b, c, d⟩ := h
    exact ⟨p, a, b.elim (fun z => .inl (g.l z)) (fun z => .inr (g.t z)), fun v hv => g.itm (c v hv), d⟩
theorem any_list {K : PySem.W.Frag} : PySem.W.kitAny K (.type "list") [.type "list", .type "tuple"] = some true :=
  kitAny_cons (b := true) (kit_ty (by decide +kernel)) (fun z => by cases z) (fun _ => rfl)
theorem any_tuple {K : PySem.W.Frag} : PySem.W.kitAny K (.type "tuple") [.type "list", .type "tuple"] = some true :=
  kitAny_cons (b := false) (kit_ty (by decide +kernel)) (fun _ => kitAny_cons (b := true) (kit_ty (by decide +kernel)) (fun z => by cases z) (fun _ => rfl)) (fun z => by cases z)
theorem any_odd {K : PySem.W.Frag} {m : String} (h : m ∈ odds) : PySem.W.kitAny K (.type m) [.type "list", .type "tuple"] = some false := by
  have h1 : kitB m "list" = some false := by
    simp only [odds, List.mem_cons, List.not_mem_nil, or_false] at h
    rcases h with h | h | h | h | h <;> subst h <;> decide +kernel
  have h2 : kitB m "tuple" = some false := by
    simp only [odds, List.mem_cons, List.not_mem_nil, or_false] at h
    rcases h with h | h | h | h | h <;> subst h <;> decide +kernel
  exact kitAny_cons (b := false) (kit_ty h1) (fun _ => kitAny_cons (b := false) (kit_ty h2) (fun _ => kitAny_nil) (fun z => by cases z)) (fun z => by cases z)
theorem st_isiLT {K : PySem.W.Frag} {H : Hp} {Q : VK} {x : V} {tp : Addr} {o : Option (List V)} (hT : H tp = some (.tup [.ty "list", .ty "tuple"])) (h : PathIn K H x o) (q : Q (.bl o.isSome) H) : rIsiT K [x, .ref tp] H Q := by
  have pc : Paired ClsV [.ty "list", .ty "tuple"] [.type "list", .type "tuple"] := .cons (.ty _) (.cons (.ty _) .nil)
  cases o with
  | none =>
    obtain ⟨m, a, b⟩ := h
    exact ⟨x, tp, _, _, _, false, rfl, hT, pc, a, any_odd b, q⟩
  | some xs =>
    obtain ⟨p, rfl, b, _⟩ := h
    rcases b with b | b
    · exact ⟨.ref p, tp, _, _, _, true, rfl, hT, pc, tyL b, any_list, q⟩
    · exact ⟨.ref p, tp, _, _, _, true, rfl, hT, pc, tyT b, any_tuple, q⟩
theorem st_len2 {K : PySem.W.Frag} {H : Hp} {Q : VK} {p : Addr} {ys : List V} (h : SqL K H p ys ∨ SqT K H p ys) (q : Q (.int ys.length) H) : rLenQ K [.ref p] H Q := ⟨p, ys, rfl, h, q⟩
theorem st_list2 {K : PySem.W.Frag} {H : Hp} {Q : VK} {p : Addr} {ys : List V} (h : SqL K H p ys ∨ SqT K H p ys) (q : ∀ l, H l = none → Q (.ref l) (upd H l (.lst ys))) : rListOf K [.ref p] H Q := ⟨p, ys, rfl, h, q⟩
theorem Gr.lt {K : PySem.W.Frag} {H H' : Hp} {p : Addr} {ys : List V} (g : Gr H H') (h : SqL K H p ys ∨ SqT K H p ys) : SqL K H' p ys ∨ SqT K H' p ys := h.elim (fun z => .inl (g.l z)) (fun z => .inr (g.t z))
/-- what comes of a path: its names in a new list, or the refusal -/
def outChecked (B : Addr) (H : Hp) (Q : VK) (E : XK) (o : Option (List V)) : Prop :=
  match o with
  | some xs => if namesOk xs = true then (∀ l H', H l = none → Gr H H' → H' l = some (.lst xs) → Q (.ref l) H') else ∀ H', Gr H H' → E (.ref B) none H'
  | none => ∀ H', Gr H H' → E (.ref B) none H'
theorem outChecked.ok {B : Addr} {H : Hp} {Q : VK} {E : XK} {xs : List V} (h : outChecked B H Q E (some xs)) (e : namesOk xs = true) : ∀ l H', H l = none → Gr H H' → H' l = some (.lst xs) → Q (.ref l) H' := by
  unfold outChecked at h
  dsimp only at h
  rw [if_pos e] at h
  exact h
theorem outChecked.no {B : Addr} {H : Hp} {Q : VK} {E : XK} {xs : List V} (h : outChecked B H Q E (some xs)) (e : namesOk xs = false) : ∀ H', Gr H H' → E (.ref B) none H' := by
  unfold outChecked at h
  dsimp only at h
  rw [if_neg (by rw [e]; exact Bool.false_ne_true)] at h
  exact h
def spChecked (K : PySem.W.Frag) (Pt B : Addr) : Sp := fun vs H Q E => ∃ x o, vs = [x] ∧ PathIn K H x o ∧ GxR.TabG H Pt ∧ outChecked B H Q E o
section
variable {P : Program} {w : World} {K : PySem.W.Frag} {mg : Str → Option Value} {base : Heap} {S B fCh fWr fRe Pt : Addr}
theorem scchecked : FnScope ["path", "name"] ["path"] (defScope schecked) := ⟨rfl, rfl, rfl, by decide +kernel, rfl, by decide +kernel, by decide +kernel⟩
theorem ok_checked {f : Addr} {fd : FuncData} (F : Fun K "checked" "checked" schecked f fd) (T : Txt K mg S B fCh fWr fRe) (cN : Df P w K mg base 1 "is_name" ["thing"] (spIsName K Pt)) : FnOk P w K mg base (L2.CX P w) 2 f fd ["path"] (spChecked K Pt B) := by
  refine F.okX scchecked (fun vs H Q E h => ?_) (fun cdv A outer s H vs Q E hr h => ?_)
  · obtain ⟨x, o, rfl, _⟩ := h
    rfl
  · obtain ⟨x, o, rfl, hp, hT, k⟩ := h
    obtain ⟨tn, mgN⟩ := T.mg_LONGEST_PATH
    cases o with
    | none =>
      refine ⟨_, pss_cons (ps_if (pt_not (pt_val (pe_callB (cIsiT (K := K) rfl) (by rfl) T.isinstance boot_isinstance (pa_cons (pv 0) (pa_cons (pe_tup (pa_cons (pe_bltn (v := .ty "list") (by rfl) T.list PyProof.Rows.boot_list rfl) (pa_cons (pe_bltn (v := .ty "tuple") (by rfl) T.tuple PyProof.Rows.boot_tuple rfl) pa_nil))) pa_nil)))))
        (pss_one (ps_raise rfl (takes_of rfl rfl rfl rfl) (pmk_own PySem.F.excBase_ValueError T.x_BadPath T.mg_BadPath T.k_BadPath (raises_own T.b_BadPath T.t_BadPath) rfl))) pss_nil) pss_never, ?_⟩
      repeat walk_at "sx"
      refine ⟨by decide, ?_⟩
      walk_at "new"; rename_i tp hn H2 g e
      repeat walk_at "sx"
      refine st_isiLT e (g.path hp) ?_
      repeat walk_at "sx"
      exact k H2 g
    | some xs =>
      obtain ⟨p, rfl, hs, hI, hl⟩ := hp
      rcases hs with hs | hs
      · refine ⟨_, (pss_cons (ps_if (pt_not (pt_val (pe_callB (cIsiT (K := K) rfl) (by rfl) T.isinstance boot_isinstance (pa_cons (pv 0) (pa_cons (pe_tup (pa_cons (pe_bltn (v := .ty "list") (by rfl) T.list PyProof.Rows.boot_list rfl) (pa_cons (pe_bltn (v := .ty "tuple") (by rfl) T.tuple PyProof.Rows.boot_tuple rfl) pa_nil))) pa_nil)))))
          (pss_one (ps_raise rfl (takes_of rfl rfl rfl rfl) (pmk_own PySem.F.excBase_ValueError T.x_BadPath T.mg_BadPath T.k_BadPath (raises_own T.b_BadPath T.t_BadPath) rfl))) pss_nil)
          (pss_cons (ps_if (pt_cmpR op_gt (pe_callB (cLenQ (K := K) rfl) (by rfl) T.len PySem.boot_len (pa_cons (pv 0) pa_nil)) (pe_glob (v := .int 8) rfl mgN ⟨_, rfl⟩) (nomark _))
          (pss_one (ps_raise rfl (takes_of rfl rfl rfl rfl) (pmk_own PySem.F.excBase_ValueError T.x_BadPath T.mg_BadPath T.k_BadPath (raises_own T.b_BadPath T.t_BadPath) rfl))) pss_nil)
          (pss_cons (ps_for (passes_of rfl) rfl (pi_list (pv 0)) (pg_name (i := 1) scchecked.nd rfl (Or.inl rfl))
          (pss_one (ps_if (pt_not (pt_val (pe_d0 cN (hr.mono (by decide)) rfl (pa_cons (pv 1) pa_nil))))
          (pss_one (ps_raise rfl (takes_of rfl rfl rfl rfl) (pmk_own PySem.F.excBase_ValueError T.x_BadPath T.mg_BadPath T.k_BadPath (raises_own T.b_BadPath T.t_BadPath) rfl))) pss_nil)))
          (pss_one (ps_ret (pe_callTy (cListOf (K := K) rfl) (by rfl) T.list PyProof.Rows.boot_list (pa_cons (pv 0) pa_nil))))))), ?_⟩
        repeat walk_at "sx"
        refine ⟨by decide, ?_⟩
        walk_at "new"; rename_i tp hn H2 g e
        repeat walk_at "sx"
        refine st_isiLT e (g.path (o := some xs) ⟨p, rfl, .inl hs, hI, hl⟩) ?_
        repeat walk_at "sx"
        refine iteF ?_
        repeat walk_at "sx"
        refine st_len2 (.inl (g.l hs)) ?_
        repeat walk_at "sx"
        refine ite3 (fun h => ?_) (fun h => ?_)
        · refine k.no ?_ H2 g
          have h8 : ¬ xs.length ≤ 8 := by have := of_decide_eq_true h; omega
          unfold namesOk
          rw [decide_eq_false h8] <;> rfl
        · have h8 : xs.length ≤ 8 := by have := of_decide_eq_false h; omega
          repeat walk_at "sx"
          refine st_exL (g.l hs) ?_
          refine st_loop (m := xs.length) (Y := fun i x => xs[i]? = some x) walk_list (fun i σ H' => Gr H2 H' ∧ (∃ z : Option V, σ = [some (.ref p), z]) ∧ (xs.take i).all isNm = true) ⟨Gr.refl _, ⟨none, rfl⟩, rfl⟩ (fun i σ H' _ q => q.1.l (g.l hs)) ?_ ?_
          · rintro i x σ H4 hi ⟨g3, ⟨z, rfl⟩, hall⟩ hx
            have hxI : Itm K H4 x := (g.trans g3).itm (hI x (List.mem_of_getElem? hx))
            have ht : GxR.TabG H4 Pt := (g.trans g3).tab _ hT
            repeat walk_at "sx"
            refine ⟨x, rfl, hxI, ht, fun H5 g5 => ?_⟩
            repeat walk_at "sx"
            refine ite3 (fun h => ?_) (fun h => ?_)
            · refine k.no ?_ H5 ((g.trans g3).trans g5)
              have hb : isNm x = false := by simpa using h
              unfold namesOk
              have : xs.all isNm = false := by
                rw [← Bool.not_eq_true, List.all_eq_true]
                intro q
                have := q x (List.mem_of_getElem? hx)
                rw [hb] at this
                cases this
              rw [this, Bool.and_false]
            · repeat walk_at "sx"
              have hb : isNm x = true := by simpa using h
              refine ⟨g3.trans g5, ⟨_, rfl⟩, ?_⟩
              rw [List.take_add_one, hx]
              show (xs.take i ++ [x]).all isNm = true
              rw [List.all_append, hall, List.all_cons, hb] <;> rfl
          · rintro σ H3 ⟨g3, ⟨z, rfl⟩, hall⟩
            repeat walk_at "sx"
            refine st_list2 (.inl ((g.trans g3).l hs)) ?_
            walk_at "new"; rename_i l hl4 H4 g4 e4
            refine k.ok ?_ l H4 ((g.trans g3).free hl4) ((g.trans g3).trans g4) e4
            rw [List.take_length] at hall
            unfold namesOk
            rw [decide_eq_true h8, hall] <;> rfl
      · refine ⟨_, (pss_cons (ps_if (pt_not (pt_val (pe_callB (cIsiT (K := K) rfl) (by rfl) T.isinstance boot_isinstance (pa_cons (pv 0) (pa_cons (pe_tup (pa_cons (pe_bltn (v := .ty "list") (by rfl) T.list PyProof.Rows.boot_list rfl) (pa_cons (pe_bltn (v := .ty "tuple") (by rfl) T.tuple PyProof.Rows.boot_tuple rfl) pa_nil))) pa_nil)))))
          (pss_one (ps_raise rfl (takes_of rfl rfl rfl rfl) (pmk_own PySem.F.excBase_ValueError T.x_BadPath T.mg_BadPath T.k_BadPath (raises_own T.b_BadPath T.t_BadPath) rfl))) pss_nil)
          (pss_cons (ps_if (pt_cmpR op_gt (pe_callB (cLenQ (K := K) rfl) (by rfl) T.len PySem.boot_len (pa_cons (pv 0) pa_nil)) (pe_glob (v := .int 8) rfl mgN ⟨_, rfl⟩) (nomark _))
          (pss_one (ps_raise rfl (takes_of rfl rfl rfl rfl) (pmk_own PySem.F.excBase_ValueError T.x_BadPath T.mg_BadPath T.k_BadPath (raises_own T.b_BadPath T.t_BadPath) rfl))) pss_nil)
          (pss_cons (ps_for (passes_of rfl) rfl (pi_tup (pv 0)) (pg_name (i := 1) scchecked.nd rfl (Or.inl rfl))
          (pss_one (ps_if (pt_not (pt_val (pe_d0 cN (hr.mono (by decide)) rfl (pa_cons (pv 1) pa_nil))))
          (pss_one (ps_raise rfl (takes_of rfl rfl rfl rfl) (pmk_own PySem.F.excBase_ValueError T.x_BadPath T.mg_BadPath T.k_BadPath (raises_own T.b_BadPath T.t_BadPath) rfl))) pss_nil)))
          (pss_one (ps_ret (pe_callTy (cListOf (K := K) rfl) (by rfl) T.list PyProof.Rows.boot_list (pa_cons (pv 0) pa_nil))))))), ?_⟩
        repeat walk_at "sx"
        refine ⟨by decide, ?_⟩
        walk_at "new"; rename_i tp hn H2 g e
        repeat walk_at "sx"
        refine st_isiLT e (g.path (o := some xs) ⟨p, rfl, .inr hs, hI, hl⟩) ?_
        repeat walk_at "sx"
        refine iteF ?_
        repeat walk_at "sx"
        refine st_len2 (.inr (g.t hs)) ?_
        repeat walk_at "sx"
        refine ite3 (fun h => ?_) (fun h => ?_)
        · refine k.no ?_ H2 g
          have h8 : ¬ xs.length ≤ 8 := by have := of_decide_eq_true h; omega
          unfold namesOk
          rw [decide_eq_false h8] <;> rfl
        · have h8 : xs.length ≤ 8 := by have := of_decide_eq_false h; omega
          repeat walk_at "sx"
          refine st_exT (g.t hs) ?_
          refine st_loop (m := xs.length) (Y := fun i x => xs[i]? = some x) walk_tup (fun i σ H' => Gr H2 H' ∧ (∃ z : Option V, σ = [some (.ref p), z]) ∧ (xs.take i).all isNm = true) ⟨Gr.refl _, ⟨none, rfl⟩, rfl⟩ (fun i σ H' _ q => q.1.t (g.t hs)) ?_ ?_
          · rintro i x σ H4 hi ⟨g3, ⟨z, rfl⟩, hall⟩ hx
            have hxI : Itm K H4 x := (g.trans g3).itm (hI x (List.mem_of_getElem? hx))
            have ht : GxR.TabG H4 Pt := (g.trans g3).tab _ hT
            repeat walk_at "sx"
            refine ⟨x, rfl, hxI, ht, fun H5 g5 => ?_⟩
            repeat walk_at "sx"
            refine ite3 (fun h => ?_) (fun h => ?_)
            · refine k.no ?_ H5 ((g.trans g3).trans g5)
              have hb : isNm x = false := by simpa using h
              unfold namesOk
              have : xs.all isNm = false := by
                rw [← Bool.not_eq_true, List.all_eq_true]
                intro q
                have := q x (List.mem_of_getElem? hx)
                rw [hb] at this
                cases this
              rw [this, Bool.and_false]
            · repeat walk_at "sx"
              have hb : isNm x = true := by simpa using h
              refine ⟨g3.trans g5, ⟨_, rfl⟩, ?_⟩
              rw [List.take_add_one, hx]
              show (xs.take i ++ [x]).all isNm = true
              rw [List.all_append, hall, List.all_cons, hb] <;> rfl
          · rintro σ H3 ⟨g3, ⟨z, rfl⟩, hall⟩
            repeat walk_at "sx"
            refine st_list2 (.inr ((g.trans g3).t hs)) ?_
            walk_at "new"; rename_i l hl4 H4 g4 e4
            refine k.ok ?_ l H4 ((g.trans g3).free hl4) ((g.trans g3).trans g4) e4
            rw [List.take_length] at hall
            unfold namesOk
            rw [decide_eq_true h8, hall] <;> rfl
end
open TL (tl joinL spl len_tl tl_join join_eq spl_nil spl_hit spl_miss split_spl kind_ok pre)
/-! ### texts: what is written, what is read -/
abbrev slash : Str := Str.ofString "/"
theorem tl_slash : slash.cps.toList = [47] := by decide +kernel
theorem len_slash : slash.length = 1 := by decide +kernel
def strOf : V → Option Str
  | .str z => some z
  | _ => none
def txts (xs : List V) : List Str := xs.filterMap strOf
theorem strs_map (ys : List Str) : txts (ys.map V.str) = ys := by
  unfold txts
  induction ys with
  | nil => rfl
  | cons y r ih => rw [List.map_cons, List.filterMap_cons_some (f := strOf) (b := y) rfl, ih]
theorem isNm_str {x : V} (h : isNm x = true) : ∃ z : Str, x = .str z ∧ z.length ≤ 8 := by
  cases x with
  | str z =>
    have h2 : (decide (1 ≤ z.length) && decide (z.length ≤ 8) && z.cps.toList.all okC) = true := h
    simp only [Bool.and_eq_true, decide_eq_true_eq] at h2
    exact ⟨z, rfl, h2.1.2⟩
  | _ => cases h
theorem all_strs : ∀ {xs : List V}, xs.all isNm = true → xs = (txts xs).map V.str ∧ ∀ y ∈ txts xs, y.length ≤ 8
  | [], _ => ⟨rfl, fun _ h => by cases h⟩
  | x :: r, h => by
    rw [List.all_cons, Bool.and_eq_true] at h
    obtain ⟨z, rfl, hz⟩ := isNm_str h.1
    obtain ⟨e, k⟩ := all_strs h.2
    have es : txts (V.str z :: r) = z :: txts r := List.filterMap_cons_some rfl
    rw [es, List.map_cons, ← e]
    refine ⟨rfl, fun y hy => ?_⟩
    rcases List.mem_cons.mp hy with q | q
    · rw [q]
      exact hz
    · exact k y q
theorem namesOk_strs {xs : List V} (h : namesOk xs = true) : xs = (txts xs).map V.str ∧ (txts xs).length ≤ 8 ∧ ∀ y ∈ txts xs, y.length ≤ 8 := by
  unfold namesOk at h
  rw [Bool.and_eq_true, decide_eq_true_eq] at h
  obtain ⟨e, k⟩ := all_strs h.2
  refine ⟨e, ?_, k⟩
  have : xs.length = (txts xs).length := by
    have := congrArg List.length e
    rwa [List.length_map] at this
  omega
theorem sum_le : ∀ {ys : List Str} {n : Nat}, (∀ y ∈ ys, y.length ≤ n) → (ys.map (·.length)).sum ≤ ys.length * n
  | [], n, _ => by simp
  | y :: r, n, h => by
    have h1 := h y List.mem_cons_self
    have h2 := sum_le (ys := r) (n := n) fun z hz => h z (List.mem_cons_of_mem _ hz)
    rw [List.map_cons, List.sum_cons, List.length_cons, Nat.succ_mul]
    omega
theorem joinL_len (S : List Nat) : ∀ ls : List (List Nat), (joinL S ls).length ≤ (ls.map (·.length)).sum + ls.length * S.length
  | [] => by simp [joinL]
  | [a] => by simp [joinL]
  | a :: b :: r => by
    have h := joinL_len S (b :: r)
    have e : joinL S (a :: b :: r) = a ++ (S ++ joinL S (b :: r)) := rfl
    rw [e, List.length_append, List.length_append, List.map_cons, List.sum_cons, List.length_cons, Nat.succ_mul]
    omega
theorem join_len (y : Str) (parts : List Str) : (Txt.join y parts).length ≤ (parts.map (·.length)).sum + parts.length * y.length := by
  have h := joinL_len (tl y) (parts.map tl)
  rw [join_eq, len_tl, tl_join]
  have e : (parts.map tl).map (·.length) = parts.map (·.length) := by
    rw [List.map_map]
    exact List.map_congr_left fun z _ => (len_tl z).symm
  rw [e, List.length_map] at h
  rw [← len_tl] at h
  exact h
theorem spl_le (S : List Nat) : ∀ (l : List Nat) (k : Nat) (acc : List Nat), (spl S k acc l).length ≤ l.length + 1 ∧ ∀ p ∈ spl S k acc l, p.length ≤ acc.length + l.length
  | [], k, acc => by
    rw [spl_nil]
    refine ⟨by simp, fun p hp => ?_⟩
    rw [List.mem_singleton.mp hp]
    simp
  | c :: r, 0, acc => by
    cases h : pre S (c :: r) with
    | true =>
      rw [spl_hit h]
      obtain ⟨h1, h2⟩ := spl_le S r (S.length - 1) []
      refine ⟨by rw [List.length_cons, List.length_cons]; omega, fun p hp => ?_⟩
      rcases List.mem_cons.mp hp with q | q
      · rw [q]
        omega
      · have := h2 p q
        rw [List.length_cons]
        simp at this
        omega
    | false =>
      rw [spl_miss h]
      obtain ⟨h1, h2⟩ := spl_le S r 0 (acc ++ [c])
      refine ⟨by rw [List.length_cons]; omega, fun p hp => ?_⟩
      have := h2 p hp
      rw [List.length_append, List.length_singleton] at this
      rw [List.length_cons]
      omega
  | c :: r, k + 1, acc => by
    have e : spl S (k + 1) acc (c :: r) = spl S k acc r := rfl
    rw [e]
    obtain ⟨h1, h2⟩ := spl_le S r k acc
    refine ⟨by rw [List.length_cons]; omega, fun p hp => ?_⟩
    have := h2 p hp
    rw [List.length_cons]
    omega
theorem split_le (x : Str) : (Txt.split x slash).length ≤ x.length + 1 ∧ ∀ p ∈ Txt.split x slash, p.length ≤ x.length := by
  have e := split_spl x slash (by rw [show tl slash = [47] from tl_slash]; simp) (kind_ok (by decide +kernel))
  obtain ⟨h1, h2⟩ := spl_le (tl slash) (tl x) 0 []
  rw [← e, List.length_map, ← len_tl] at h1
  refine ⟨h1, fun p hp => ?_⟩
  have q := h2 (tl p) (by rw [← e]; exact List.mem_map_of_mem hp)
  rw [← len_tl, ← len_tl] at q
  simpa using q
theorem starts_eq (z : Str) : Txt.startswith z slash = decide (V.str (cutS z none (some 1)) = V.str slash) := by
  have e1 : cutS z none (some 1) = ⟨(z.cps.toList.take (min 1 z.length)).toArray⟩ := by
    unfold cutS
    rw [HT.sIx_none, show (some (1 : Int)) = some ((1 : Nat) : Int) from rfl, HT.sIx_nat, List.drop_zero, Nat.sub_zero]
  have el : z.length = z.cps.toList.length := by simp [Str.length]
  rw [e1, el]
  unfold Txt.startswith
  rw [StrLaws.subAt_eq, tl_slash, len_slash, el, List.drop_zero]
  rw [Bool.eq_iff_iff, Bool.and_eq_true, decide_eq_true_eq, decide_eq_true_eq, beq_iff_eq, V.str.injEq]
  have es : slash = ⟨([47] : List Nat).toArray⟩ := by decide +kernel
  generalize z.cps.toList = l
  rw [es]
  cases l with
  | nil => simp
  | cons c r => simp
/-- what a text is read to -/
def parse : V → Option (List Str)
  | .str z => if z = slash then some [] else if Txt.startswith z slash = false then none else
      if namesOk ((Txt.split (cutS z (some 1) none) slash).map V.str) = true then some (Txt.split (cutS z (some 1) none) slash) else none
  | _ => none
def outWritten (B : Addr) (H : Hp) (Q : VK) (E : XK) (o : Option (List V)) : Prop :=
  match o with
  | some xs => if namesOk xs = true then (∀ H', Gr H H' → Q (.str (slash ++ Txt.join slash (txts xs))) H') else ∀ H', Gr H H' → E (.ref B) none H'
  | none => ∀ H', Gr H H' → E (.ref B) none H'
def spWritten (K : PySem.W.Frag) (Pt B : Addr) : Sp := fun vs H Q E => ∃ x o, vs = [x] ∧ PathIn K H x o ∧ GxR.TabG H Pt ∧ outWritten B H Q E o
def outRead (B : Addr) (H : Hp) (Q : VK) (E : XK) (o : Option (List Str)) : Prop :=
  match o with
  | some ys => ∀ l H', H l = none → Gr H H' → H' l = some (.lst (ys.map V.str)) → Q (.ref l) H'
  | none => ∀ H', Gr H H' → E (.ref B) none H'
def spRead (K : PySem.W.Frag) (Pt B : Addr) : Sp := fun vs H Q E => ∃ x, vs = [x] ∧ Itm K H x ∧ GxR.TabG H Pt ∧ outRead B H Q E (parse x)
theorem joined_le {xs : List V} (h : namesOk xs = true) : ((txts xs).map (·.length)).sum + (txts xs).length * slash.length ≤ 72 := by
  obtain ⟨e, h8, hk⟩ := namesOk_strs h
  have h1 := sum_le hk
  rw [len_slash]
  have : (txts xs).length * 8 ≤ 8 * 8 := Nat.mul_le_mul_right _ h8
  omega
section
variable {P : Program} {w : World} {K : PySem.W.Frag} {mg : Str → Option Value} {base : Heap} {S B fCh fWr fRe Pt : Addr}
theorem scwritten : FnScope ["path"] ["path"] (defScope swritten) := ⟨rfl, rfl, rfl, by decide +kernel, rfl, by decide +kernel, by decide +kernel⟩
theorem ok_written {f : Addr} {fd : FuncData} (F : Fun K "written" "written" swritten f fd) (T : Txt K mg S B fCh fWr fRe) (cC : Df P w K mg base 2 "checked" ["path"] (spChecked K Pt B)) : FnOk P w K mg base (L2.CX P w) 3 f fd ["path"] (spWritten K Pt B) := by
  refine F.okX scwritten (fun vs H Q E h => ?_) (fun cdv A outer s H vs Q E hr h => ?_)
  · obtain ⟨x, o, rfl, _⟩ := h
    rfl
  · obtain ⟨x, o, rfl, hp, hT, k⟩ := h
    refine ⟨_, (pss_one (ps_ret (pe_op oAddS pe_str (peJoin pe_str (pe_dE cC (hr.mono (by decide)) rfl (takes_of rfl rfl rfl rfl) (pa_cons (pv 0) pa_nil)))))), ?_⟩
    repeat walk_at "sx"
    refine ⟨x, o, rfl, hp, hT, ?_⟩
    cases o with
    | none => exact fun H' g => k H' g
    | some xs =>
      unfold outWritten at k
      dsimp only at k
      unfold outChecked
      dsimp only
      cases hn : namesOk xs with
      | true =>
        rw [if_pos hn] at k
        refine iteT fun l H1 hl g e => ?_
        obtain ⟨ex, h8, hk⟩ := namesOk_strs hn
        have hj : ((txts xs).map (·.length)).sum + (txts xs).length * (Str.ofString "/").length ≤ 72 := joined_le hn
        refine st_join (ys := txts xs) (.inl (SqL.of (by rw [← ex]; exact e))) (by omega) ?_
        refine st_addS ?_ (k H1 g)
        have h2 : (Txt.join (Str.ofString "/") (txts xs)).length ≤ _ := join_len (Str.ofString "/") (txts xs)
        have h1 : (Str.ofString "/").length = 1 := len_slash
        exact sz_of (by omega)
      | false =>
        rw [hn, if_neg Bool.false_ne_true] at k
        exact iteF k
theorem scread : FnScope ["line"] ["line"] (defScope sread) := ⟨rfl, rfl, rfl, by decide +kernel, rfl, by decide +kernel, by decide +kernel⟩
theorem ok_read {f : Addr} {fd : FuncData} (F : Fun K "read" "read" sread f fd) (T : Txt K mg S B fCh fWr fRe) (cC : Df P w K mg base 2 "checked" ["path"] (spChecked K Pt B)) : FnOk P w K mg base (L2.CX P w) 3 f fd ["line"] (spRead K Pt B) := by
  refine F.okX scread (fun vs H Q E h => ?_) (fun cdv A outer s H vs Q E hr h => ?_)
  · obtain ⟨x, rfl, _⟩ := h
    rfl
  · obtain ⟨x, rfl, hI, hT, k⟩ := h
    refine ⟨_, (pss_cons (ps_if (pt_not (pt_val (pe_callB (cIsi (K := K) rfl) (by rfl) T.isinstance boot_isinstance (pa_cons (pv 0) (pa_cons (pe_bltn (v := .ty "str") (by rfl) T.str PyProof.Rows.boot_str rfl) pa_nil)))))
      (pss_one (ps_raise rfl (takes_of rfl rfl rfl rfl) (pmk_own PySem.F.excBase_ValueError T.x_BadPath T.mg_BadPath T.k_BadPath (raises_own T.b_BadPath T.t_BadPath) rfl)))
      pss_nil)
      (pss_cons (ps_if (pt_cmpR op_eq (pv 0) pe_str (nomark _))
      (pss_one (ps_ret (pe_lst pa_nil)))
      pss_nil)
      (pss_cons (ps_if (pt_not (pt_val (peStarts (pv 0) pe_str)))
      (pss_one (ps_raise rfl (takes_of rfl rfl rfl rfl) (pmk_own PySem.F.excBase_ValueError T.x_BadPath T.mg_BadPath T.k_BadPath (raises_own T.b_BadPath T.t_BadPath) rfl)))
      pss_nil)
      (pss_one (ps_ret (pe_dE cC (hr.mono (by decide)) rfl (takes_of rfl rfl rfl rfl) (pa_cons (peSplit (pe_slice sl_str (pv 0) (po_some pe_int) po_none) pe_str) pa_nil))))))), ?_⟩
    repeat walk_at "sx"
    refine st_isStr hI ?_
    repeat walk_at "sx"
    refine ite3 (fun h => ?_) (fun h => ?_)
    · have e : parse x = none := by
        have hs : isS x = false := by simpa using h
        cases x <;> first | rfl | cases hs
      rw [e] at k
      exact k H (Gr.refl H)
    · have hs : isS x = true := by simpa using h
      obtain ⟨z, rfl, hz⟩ : ∃ z : Str, x = .str z ∧ z.length ≤ 1000 := by
        rcases hI with h1 | ⟨m, a, _⟩
        · exact h1
        · rw [a] at hs; cases hs
      repeat walk_at "sx"
      refine ite3 (fun h1 => ?_) (fun h1 => ?_)
      · repeat walk_at "sx"
        have ez : z = slash := V.str.inj (of_decide_eq_true h1)
        have ep : parse (.str z) = some [] := if_pos ez
        rw [ep] at k
        refine ⟨by decide, ?_⟩
        walk_at "new"; rename_i l hl H2 g e
        exact k l H2 hl g e
      · have nz : ¬ z = slash := fun q => of_decide_eq_false h1 (by rw [q])
        have ep : parse (.str z) = _ := if_neg nz
        rw [ep] at k
        repeat walk_at "sx"
        refine ite3 (fun h2 => ?_) (fun h2 => ?_)
        · have h3 : Txt.startswith z slash = false := by simpa using h2
          rw [if_pos h3] at k
          exact k H (Gr.refl H)
        · have h3 : Txt.startswith z slash = true := by simpa using h2
          rw [if_neg (by rw [h3]; decide)] at k
          repeat walk_at "sx"
          refine st_slS (sz_of (by omega)) ?_
          repeat walk_at "sx"
          have hc := cutS_length z (some 1) none
          refine st_split (by decide +kernel) (sz_of (by omega)) ?_
          walk_at "new"; rename_i l hl H2 g e
          repeat walk_at "sx"
          obtain ⟨q1, q2⟩ : (Txt.split (cutS z (some 1) none) (Str.ofString "/")).length ≤ _ ∧ ∀ p ∈ Txt.split (cutS z (some 1) none) (Str.ofString "/"), p.length ≤ _ := split_le (cutS z (some 1) none)
          refine ⟨.ref l, some _, rfl, ⟨l, rfl, .inl (SqL.of e), fun v hv => ?_, by rw [List.length_map]; omega⟩, g.tab _ hT, ?_⟩
          · obtain ⟨y, hy, rfl⟩ := List.mem_map.mp hv
            have := q2 y hy
            exact .inl ⟨y, rfl, by omega⟩
          · unfold outChecked
            dsimp only
            cases hn : namesOk ((Txt.split (cutS z (some 1) none) slash).map V.str) with
            | true =>
              rw [if_pos hn] at k
              exact iteT fun l3 H3 hl3 g3 e3 => k l3 H3 (g.free hl3) (g.trans g3) e3
            | false =>
              rw [if_neg (by rw [hn]; decide)] at k
              exact iteF fun H3 g3 => k H3 (g.trans g3)
end
/-! ### the law's helpers -/
/-- the signs of a drawn name, the name -/
def signsOf (n : Int) : List Str := (List.range (1 + n % 9).toNat).map fun (i : Nat) => (⟨#[([97, 98, 99, 100, 101, 102, 103, 104, 105, 106, 107, 108, 109, 110, 111, 112, 113, 114, 115, 116, 117, 118, 119, 120, 121, 122] : List Nat).getD ((n / 9 + (i : Int) * (1 + n / 234 % 25)) % 26).toNat 0]⟩ : Str)
def nameOf (n : Int) : Str := Txt.join (Str.ofString "") (signsOf n)
theorem signsOf_le (n : Int) : (signsOf n).length ≤ 9 ∧ ∀ y ∈ signsOf n, y.length ≤ 1 := by
  have h1 : 0 ≤ n % 9 := Int.emod_nonneg _ (by decide)
  have h2 : n % 9 < 9 := Int.emod_lt_of_pos _ (by decide)
  unfold signsOf
  refine ⟨by rw [List.length_map, List.length_range]; omega, fun y hy => ?_⟩
  obtain ⟨_, _, rfl⟩ := List.mem_map.mp hy
  exact Nat.le_refl _
theorem nameOf_le (n : Int) : (nameOf n).length ≤ 9 := by
  obtain ⟨h1, h2⟩ := signsOf_le n
  have hs := sum_le h2
  have he : (Str.ofString "").length = 0 := by decide +kernel
  have hj := join_len (Str.ofString "") (signsOf n)
  rw [he] at hj
  unfold nameOf
  omega
theorem joinL_mem {S : List Nat} {c : Nat} : ∀ {ls : List (List Nat)}, c ∈ TL.joinL S ls → c ∈ S ∨ ∃ l ∈ ls, c ∈ l
  | [], h => by cases h
  | [a], h => .inr ⟨a, List.mem_cons_self, h⟩
  | a :: d :: r, h => by
    have h2 : c ∈ a ++ (S ++ TL.joinL S (d :: r)) := h
    rcases List.mem_append.mp h2 with q | q
    · exact .inr ⟨a, List.mem_cons_self, q⟩
    · rcases List.mem_append.mp q with q | q
      · exact .inl q
      · rcases joinL_mem q with z | ⟨l, hl, z⟩
        · exact .inl z
        · exact .inr ⟨l, List.mem_cons_of_mem _ hl, z⟩
theorem nameOf_ok (n : Int) : PyData.strOk (nameOf n) = true := by
  unfold PyData.strOk
  rw [← Array.all_toList, List.all_eq_true]
  intro c hc
  have hc2 : c ∈ TL.tl (nameOf n) := hc
  unfold nameOf at hc2
  rw [TL.join_eq, TL.tl_join] at hc2
  rcases joinL_mem hc2 with z | ⟨l, hl, z⟩
  · have e0 : TL.tl (Str.ofString "") = [] := by decide +kernel
    rw [e0] at z
    cases z
  · obtain ⟨y, hy, rfl⟩ := List.mem_map.mp hl
    unfold signsOf at hy
    obtain ⟨i, _, rfl⟩ := List.mem_map.mp hy
    have z2 := List.mem_singleton.mp z
    rw [z2, List.getD_eq_getElem?_getD]
    generalize ((n / 9 + (i : Int) * (1 + n / 234 % 25)) % 26).toNat = j
    have hall : ∀ v ∈ ([97, 98, 99, 100, 101, 102, 103, 104, 105, 106, 107, 108, 109, 110, 111, 112, 113, 114, 115, 116, 117, 118, 119, 120, 121, 122] : List Nat), v < 1114112 := by decide
    cases e : ([97, 98, 99, 100, 101, 102, 103, 104, 105, 106, 107, 108, 109, 110, 111, 112, 113, 114, 115, 116, 117, 118, 119, 120, 121, 122] : List Nat)[j]? with
    | none => decide
    | some v => exact decide_eq_true (hall v (List.mem_of_getElem? e))
def spNameBy : Sp := fun vs H Q _ => ∃ i : Int, vs = [.int i] ∧ ∀ H', Gr H H' → Q (.str (nameOf i)) H'
def spSignBy : Sp := fun vs H Q _ => ∃ i : Int, vs = [.int i] ∧ ∀ (c : Nat) H', Gr H H' → Q (.str ⟨#[c]⟩) H'
def spIsNameL (K : PySem.W.Frag) : Sp := fun vs H Q _ => ∃ x, vs = [x] ∧ Itm K H x ∧ ∀ H', Gr H H' → Q (.bl (isNm x)) H'
def spNamesL (K : PySem.W.Frag) : Sp := fun vs H Q _ => ∃ (s d : Addr) (ys : List Str), vs = [.ref s, .ref d] ∧ SqL K H s (ys.map V.str) ∧ SqL K H d (ys.map V.str) ∧ ys.length ≤ 2000 ∧ ∀ H', Gr H H' → Q (.bl true) H'
def outDue (H : Hp) (Q : VK) (o : Option (List Str)) : Prop :=
  match o with
  | some ys => ∀ l H', H l = none → Gr H H' → H' l = some (.lst (ys.map V.str)) → Q (.ref l) H'
  | none => ∀ H', Gr H H' → Q .non H'
def spTextDue (K : PySem.W.Frag) : Sp := fun vs H Q _ => ∃ z : Str, vs = [.str z] ∧ z.length ≤ 1000 ∧ outDue H Q (parse (.str z))
def spRefused (B : Addr) (S : Addr → Sp → Prop) : Sp := fun vs H Q _ => ∃ f sp x, vs = [.ref f, x] ∧ S f sp ∧ sp [x] H (fun _ H' => Q (.bl false) H') (fun cls d H' => cls = .ref B ∧ d = none ∧ Q (.bl true) H')
def abc : List Nat := (Str.ofString "abcdefghijklmnopqrstuvwxyz").cps.toList
theorem abc_eq : abc = [97, 98, 99, 100, 101, 102, 103, 104, 105, 106, 107, 108, 109, 110, 111, 112, 113, 114, 115, 116, 117, 118, 119, 120, 121, 122] := by decide +kernel
theorem abc_mem (c : Nat) : decide (c ∈ abc) = okC c := by
  rw [abc_eq]
  unfold okC
  rw [Bool.eq_iff_iff]
  simp only [List.mem_cons, List.not_mem_nil, or_false, Bool.and_eq_true, decide_eq_true_eq]
  omega
section
variable {P : Program} {w : World} {K : PySem.W.Frag} {mg : Str → Option Value} {base : Heap} {S B fCh fWr fRe Pt : Addr}
theorem scnameBy : FnScope ["_law_cell", "_law_letters", "_law_k"] ["_law_cell"] (defScope snameBy) := ⟨rfl, rfl, rfl, by decide +kernel, rfl, by decide +kernel, by decide +kernel⟩
theorem ok_nameBy {f : Addr} {fd : FuncData} (F : Fun K "_law_name_by" "_law_name_by" snameBy f fd) (T : Txt K mg S B fCh fWr fRe) : FnOk P w K mg base (L2.CX P w) 1 f fd ["_law_cell"] spNameBy := by
  refine F.okX scnameBy (fun vs H Q E h => ?_) (fun cdv A outer s H vs Q E hr h => ?_)
  · obtain ⟨x, rfl, _⟩ := h
    rfl
  · obtain ⟨n, rfl, k⟩ := h
    refine ⟨_, (pss_cons (ps_set (i := 1) scnameBy.nd rfl (Or.inr rfl) pe_str)
      (pss_one (ps_ret (peJoin pe_str (pe_lc (own := [("_law_k", 2)]) (g := gName 2) (tt := tYes) rfl scnameBy.nd (pi_range1 rfl T.range (pa_cons (pe_op op_add pe_int (pe_op op_mod (pv 0) pe_int)) pa_nil)) (blkOk_by (N := ["_law_cell", "_law_letters", "_law_k"]) (sc := defScope snameBy) (by decide +kernel)) (fun _ _ _ _ _ => pg_name (i := 2) scnameBy.nd rfl (Or.inl rfl)) (fun _ _ _ _ _ => pts_nil)
        (fun _ _ _ _ _ => (pe_ix ix_str (pv 1) (pe_op op_mod (pe_op op_add (pe_op op_fdiv (pv 0) pe_int) (pe_op op_mul (pv 2) (pe_op op_add pe_int (pe_op op_mod (pe_op op_fdiv (pv 0) pe_int) pe_int)))) pe_int) (fun _ _ => rfl)))))))), ?_⟩
    repeat walk_at "sx"
    refine st_I (by show (0 : Int) < 9; decide) ?_
    repeat walk_at "sx"
    have h1 : 0 ≤ n % 9 := Int.emod_nonneg _ (by decide)
    have h2 : n % 9 < 9 := Int.emod_lt_of_pos _ (by decide)
    refine st_exR (by omega) (by omega) ?_
    refine lc_r (fun i => .str ⟨#[abc.getD ((n / 9 + (i : Int) * (1 + n / 234 % 25)) % 26).toNat 0]⟩) ?_ ?_ (by omega)
    · intro i H2 hi g Qy q
      have hi9 : i < 9 := by omega
      repeat walk_at "sx"
      refine st_I ⟨by decide, by decide⟩ ?_
      repeat walk_at "sx"
      refine st_I ⟨by decide, by decide⟩ ?_
      repeat walk_at "sx"
      refine st_I (by show (0 : Int) < 25; decide) ?_
      repeat walk_at "sx"
      refine st_I (.inl ⟨by omega, by omega⟩) ?_
      repeat walk_at "sx"
      refine st_I (by show (0 : Int) < 26; decide) ?_
      repeat walk_at "sx"
      have m0 := Int.emod_nonneg (n / 9 + (i : Int) * (1 + n / 234 % 25)) (b := 26) (by decide)
      have m1 := Int.emod_lt_of_pos (n / 9 + (i : Int) * (1 + n / 234 % 25)) (b := 26) (by decide)
      refine st_ixS (by decide +kernel) (atI_getD m0 ?_) (q H2 (Gr.refl _))
      show _ < ((abc.length : Nat) : Int)
      rw [abc_eq]
      exact m1
    · intro D H2 hD g e
      have e2 : H2 D = some (.lst ((signsOf n).map V.str)) := by
        rw [e]
        unfold signsOf
        rw [List.map_map, ← abc_eq] <;> rfl
      obtain ⟨h3, h4⟩ := signsOf_le n
      have hs := sum_le h4
      have he : (Str.ofString "").length = 0 := by decide +kernel
      refine st_join (ys := signsOf n) (.inl (SqL.of e2)) (by rw [he]; omega) ?_
      exact k H2 g
end
section
variable {P : Program} {w : World} {K : PySem.W.Frag} {mg : Str → Option Value} {base : Heap} {S B fCh fWr fRe Pt : Addr}
theorem scsignBy : FnScope ["_law_cell", "_law_some"] ["_law_cell"] (defScope ssignBy) := ⟨rfl, rfl, rfl, by decide +kernel, rfl, by decide +kernel, by decide +kernel⟩
theorem ok_signBy {f : Addr} {fd : FuncData} (F : Fun K "_law_sign_by" "_law_sign_by" ssignBy f fd) (T : Txt K mg S B fCh fWr fRe) : FnOk P w K mg base (L2.CX P w) 1 f fd ["_law_cell"] spSignBy := by
  refine F.okX scsignBy (fun vs H Q E h => ?_) (fun cdv A outer s H vs Q E hr h => ?_)
  · obtain ⟨x, rfl, _⟩ := h
    rfl
  · obtain ⟨n, rfl, k⟩ := h
    refine ⟨_, (pss_cons (ps_set (i := 1) scsignBy.nd rfl (Or.inl rfl) pe_str)
      (pss_cons (ps_set (i := 1) scsignBy.nd rfl (Or.inl rfl) (pe_op oAddS (pv 1) pe_str))
      (pss_one (ps_ret (pe_ix ix_str (pv 1) (pe_op op_mod (pv 0) pe_int) (fun _ _ => rfl)))))), ?_⟩
    repeat walk_at "sx"
    refine st_addS (by decide +kernel) ?_
    repeat walk_at "sx"
    refine st_I (by show (0 : Int) < 96; decide) ?_
    have m0 := Int.emod_nonneg n (b := 96) (by decide)
    have m1 := Int.emod_lt_of_pos n (b := 96) (by decide)
    refine st_ixS (by decide +kernel) (atI_getD m0 ?_) (k _ H (Gr.refl _))
    refine Int.lt_of_lt_of_le m1 ?_
    decide +kernel
theorem scisNameL : FnScope ["_law_thing", "_law_sign"] ["_law_thing"] (defScope sisNameL) := ⟨rfl, rfl, rfl, by decide +kernel, rfl, by decide +kernel, by decide +kernel⟩
theorem ok_isNameL {f : Addr} {fd : FuncData} (F : Fun K "_law_is_name" "_law_is_name" sisNameL f fd) (T : Txt K mg S B fCh fWr fRe) : FnOk P w K mg base (L2.CX P w) 1 f fd ["_law_thing"] (spIsNameL K) := by
  refine F.okX scisNameL (fun vs H Q E h => ?_) (fun cdv A outer s H vs Q E hr h => ?_)
  · obtain ⟨x, rfl, _⟩ := h
    rfl
  · obtain ⟨x, rfl, hI, k⟩ := h
    refine ⟨_, (pss_cons (ps_if (PW.pt (pw_or (pt_not (pt_val (pe_callB (cIsi (K := K) rfl) (by rfl) T.isinstance boot_isinstance (pa_cons (pv 0) (pa_cons (pe_bltn (v := .ty "str") (by rfl) T.str PyProof.Rows.boot_str rfl) pa_nil))))) (pw_or (pt_cmpR op_lt (pe_callB cLenS (by rfl) T.len PySem.boot_len (pa_cons (pv 0) pa_nil)) pe_int (nomark _)) (pw_or1 (pt_cmpR op_gt (pe_callB cLenS (by rfl) T.len PySem.boot_len (pa_cons (pv 0) pa_nil)) pe_int (nomark _))))))
      (pss_one (ps_ret pe_bl))
      pss_nil)
      (pss_one (ps_ret (pe_callB (cAll (K := K) rfl rfl) (by rfl) T.all boot_all (pa_cons (pe_lc (own := [("_law_sign", 1)]) (g := gName 1) (tt := tYes) rfl scisNameL.nd (pi_str (pv 0)) (blkOk_by (N := ["_law_thing", "_law_sign"]) (sc := defScope sisNameL) (by decide +kernel)) (fun _ _ _ _ _ => pg_name (i := 1) scisNameL.nd rfl (Or.inl rfl)) (fun _ _ _ _ _ => pts_nil) (fun _ _ _ _ _ => (pe_cmpR oInSign (pv 1) pe_str (by rfl)))) pa_nil))))), ?_⟩
    have done_ : ∀ b : Bool, isNm x = b → ∀ H', Gr H H' → Q (.bl b) H' := fun b e H' g => by
      have k0 := k H' g
      rw [e] at k0
      exact k0
    repeat walk_at "sx"
    refine st_isStr hI ?_
    repeat walk_at "sx"
    refine ite3 (fun h => ?_) (fun h => ?_)
    · repeat walk_at "sx"
      exact done_ _ (isNm_not (by simpa using h)) H (Gr.refl H)
    · have hs : isS x = true := by simpa using h
      obtain ⟨z, rfl, hz⟩ : ∃ z : Str, x = .str z ∧ z.length ≤ 1000 := by
        rcases hI with h1 | ⟨m, a, _⟩
        · exact h1
        · rw [a] at hs; cases hs
      repeat walk_at "sx"
      refine st_lenS (sz_of (by omega)) ?_
      repeat walk_at "sx"
      refine ite3 (fun h1 => ?_) (fun h1 => ?_)
      · repeat walk_at "sx"
        refine done_ _ ?_ H (Gr.refl H)
        have : ¬ 1 ≤ z.length := by have := of_decide_eq_true h1; omega
        show (decide (1 ≤ z.length) && decide (z.length ≤ 8) && z.cps.toList.all okC) = false
        rw [decide_eq_false this] <;> simp
      · repeat walk_at "sx"
        refine st_lenS (sz_of (by omega)) ?_
        repeat walk_at "sx"
        refine ite3 (fun h2 => ?_) (fun h2 => ?_)
        · repeat walk_at "sx"
          refine done_ _ ?_ H (Gr.refl H)
          have : ¬ z.length ≤ 8 := by have := of_decide_eq_true h2; omega
          show (decide (1 ≤ z.length) && decide (z.length ≤ 8) && z.cps.toList.all okC) = false
          rw [decide_eq_false this] <;> simp
        · repeat walk_at "sx"
          have q1 : 1 ≤ z.length := by have := of_decide_eq_false h1; omega
          have q2 : z.length ≤ 8 := by have := of_decide_eq_false h2; omega
          refine lc_s (fun c => .bl (okC c)) ?_ ?_ (by omega)
          · intro c H2 hc g Qy q
            repeat walk_at "sx"
            have e : decide (c ∈ (Str.ofString "abcdefghijklmnopqrstuvwxyz").cps.toList) = okC c := abc_mem c
            rw [e]
            exact q H2 (Gr.refl _)
          · intro D H2 hD g e
            repeat walk_at "sx"
            refine st_all (bs := z.cps.toList.map okC) (SqL.of (by rw [e, List.map_map] <;> rfl)) ?_
            refine done_ _ ?_ H2 g
            show (decide (1 ≤ z.length) && decide (z.length ≤ 8) && z.cps.toList.all okC) = _
            rw [decide_eq_true q1, decide_eq_true q2, List.all_map] <;> rfl
theorem scnamesL : FnScope ["_law_seen", "_law_due", "_law_k"] ["_law_seen", "_law_due"] (defScope snamesL) := ⟨rfl, rfl, rfl, by decide +kernel, rfl, by decide +kernel, by decide +kernel⟩
theorem ok_namesL {f : Addr} {fd : FuncData} (F : Fun K "_law_names" "_law_names" snamesL f fd) (T : Txt K mg S B fCh fWr fRe) : FnOk P w K mg base (L2.CX P w) 1 f fd ["_law_seen", "_law_due"] (spNamesL K) := by
  refine F.okX scnamesL (fun vs H Q E h => ?_) (fun cdv A outer s H vs Q E hr h => ?_)
  · obtain ⟨s, d, ys, rfl, _⟩ := h
    rfl
  · obtain ⟨sa, da, ys, rfl, hs, hd, hl, k⟩ := h
    refine ⟨_, (pss_cons (ps_if (PW.pt (pw_or (pt_not (pt_val (pe_callB (cIsi (K := K) rfl) (by rfl) T.isinstance boot_isinstance (pa_cons (pv 0) (pa_cons (pe_bltn (v := .ty "list") (by rfl) T.list PyProof.Rows.boot_list rfl) pa_nil))))) (pw_or1 (pt_cmpR op_ne (pe_callB (cLenQ (K := K) rfl) (by rfl) T.len PySem.boot_len (pa_cons (pv 0) pa_nil)) (pe_callB (cLenQ (K := K) rfl) (by rfl) T.len PySem.boot_len (pa_cons (pv 1) pa_nil)) (nomark _)))))
      (pss_one (ps_ret pe_bl))
      pss_nil)
      (pss_one (ps_ret (pe_callB (cAll (K := K) rfl rfl) (by rfl) T.all boot_all (pa_cons (pe_lc (own := [("_law_k", 2)]) (g := gName 2) (tt := tYes) rfl scnamesL.nd (pi_range1 rfl T.range (pa_cons (pe_callB (cLenQ (K := K) rfl) (by rfl) T.len PySem.boot_len (pa_cons (pv 1) pa_nil)) pa_nil)) (blkOk_by (N := ["_law_seen", "_law_due", "_law_k"]) (sc := defScope snamesL) (by decide +kernel)) (fun _ _ _ _ _ => pg_name (i := 2) scnamesL.nd rfl (Or.inl rfl)) (fun _ _ _ _ _ => pts_nil)
        (fun _ _ _ _ _ => (pe_and (pe_callB (cIsi (K := K) rfl) (by rfl) T.isinstance boot_isinstance (pa_cons (pe_ix (ixL (K := K) rfl) (pv 0) (pv 2) (fun _ _ => rfl)) (pa_cons (pe_bltn (v := .ty "str") (by rfl) T.str PyProof.Rows.boot_str rfl) pa_nil))) (pe_one (pe_cmpR op_eq (pe_ix (ixL (K := K) rfl) (pv 0) (pv 2) (fun _ _ => rfl)) (pe_ix (ixL (K := K) rfl) (pv 1) (pv 2) (fun _ _ => rfl)) (nomark _)))))) pa_nil))))), ?_⟩
    repeat walk_at "sx"
    refine st_isi (tyL hs) (b := true) (by decide +kernel) ?_
    repeat walk_at "sx"
    refine st_lenL hs ?_
    repeat walk_at "sx"
    refine st_lenL hd ?_
    repeat walk_at "sx"
    refine ite3 (fun h => ?_) (fun h => ?_)
    · simp at h
    · repeat walk_at "sx"
      refine st_lenL hd ?_
      repeat walk_at "sx"
      refine st_exR (by omega) (by rw [List.length_map]; omega) ?_
      refine lc_r (fun _ => .bl true) ?_ ?_ (by rw [List.length_map, Int.toNat_natCast]; omega)
      · intro i H2 hi g Qy q
        rw [List.length_map, Int.toNat_natCast] at hi
        have hi2 : (ys.map V.str)[i]? = some (.str ys[i]) := by rw [List.getElem?_map, List.getElem?_eq_getElem hi] <;> rfl
        repeat walk_at "sx"
        refine st_ixL (g.l hs) (atI_nat hi2) ?_
        repeat walk_at "sx"
        refine st_isi (.base (.str _)) kit_yes ?_
        repeat walk_at "sx"
        refine st_ixL (g.l hs) (atI_nat hi2) ?_
        repeat walk_at "sx"
        refine st_ixL (g.l hd) (atI_nat hi2) ?_
        repeat walk_at "sx"
        rw [decide_eq_true rfl]
        exact q H2 (Gr.refl _)
      · intro D H2 hD g e
        repeat walk_at "sx"
        refine st_all (bs := (List.range (((ys.map V.str).length : Nat) : Int).toNat).map fun _ => true) (SqL.of (by rw [e, List.map_map] <;> rfl)) ?_
        have ea : ((List.range (((ys.map V.str).length : Nat) : Int).toNat).map fun _ => true).all id = true := by
          rw [List.all_eq_true]
          intro b hb
          obtain ⟨_, _, rfl⟩ := List.mem_map.mp hb
          rfl
        rw [ea]
        exact k H2 g
theorem sctextDue : FnScope ["_law_line_here", "_law_names_here", "_law_name"] ["_law_line_here"] (defScope stextDue) := ⟨rfl, rfl, rfl, by decide +kernel, rfl, by decide +kernel, by decide +kernel⟩
theorem ok_textDue {f : Addr} {fd : FuncData} (F : Fun K "_law_text_due" "_law_text_due" stextDue f fd) (T : Txt K mg S B fCh fWr fRe) (cN : Df P w K mg base 1 "_law_is_name" ["_law_thing"] (spIsNameL K)) : FnOk P w K mg base (L2.CX P w) 2 f fd ["_law_line_here"] (spTextDue K) := by
  refine F.okX sctextDue (fun vs H Q E h => ?_) (fun cdv A outer s H vs Q E hr h => ?_)
  · obtain ⟨z, rfl, _⟩ := h
    rfl
  · obtain ⟨z, rfl, hz, k⟩ := h
    refine ⟨_, (pss_cons (ps_if (pt_cmpR op_eq (pv 0) pe_str (nomark _))
      (pss_one (ps_ret (pe_lst pa_nil)))
      pss_nil)
      (pss_cons (ps_if (pt_cmpR op_ne (pe_slice sl_str (pv 0) po_none (po_some pe_int)) pe_str (nomark _))
      (pss_one (ps_ret pe_non))
      pss_nil)
      (pss_cons (ps_set (i := 1) sctextDue.nd rfl (Or.inl rfl) (peSplit (pe_slice sl_str (pv 0) (po_some pe_int) po_none) pe_str))
      (pss_cons (ps_if (PW.pt (pw_or (pt_cmpR op_gt (pe_callB (cLenQ (K := K) rfl) (by rfl) T.len PySem.boot_len (pa_cons (pv 1) pa_nil)) pe_int (nomark _)) (pw_or1 (pt_not (pt_val (pe_callB (cAll (K := K) rfl rfl) (by rfl) T.all boot_all (pa_cons (pe_lc (own := [("_law_name", 2)]) (g := gName 2) (tt := tYes) rfl sctextDue.nd (pi_list (pv 1)) (blkOk_by (N := ["_law_line_here", "_law_names_here", "_law_name"]) (sc := defScope stextDue) (by decide +kernel)) (fun _ _ _ _ _ => pg_name (i := 2) sctextDue.nd rfl (Or.inl rfl)) (fun _ _ _ _ _ => pts_nil) (fun _ _ _ _ _ => (pe_d0 cN (hr.mono (by decide)) rfl (pa_cons (pv 2) pa_nil)))) pa_nil)))))))
      (pss_one (ps_ret pe_non))
      pss_nil)
      (pss_one (ps_ret (pv 1))))))), ?_⟩
    repeat walk_at "sx"
    refine ite3 (fun h1 => ?_) (fun h1 => ?_)
    · repeat walk_at "sx"
      have ez : z = slash := V.str.inj (of_decide_eq_true h1)
      have ep : parse (.str z) = some [] := if_pos ez
      rw [ep] at k
      refine ⟨by decide, ?_⟩
      walk_at "new"; rename_i l hl H2 g e
      exact k l H2 hl g e
    · have nz : ¬ z = slash := fun q => of_decide_eq_false h1 (by rw [q])
      have ep : parse (.str z) = _ := if_neg nz
      rw [ep, starts_eq] at k
      repeat walk_at "sx"
      refine st_slS (sz_of (by omega)) ?_
      repeat walk_at "sx"
      refine ite3 (fun h2 => ?_) (fun h2 => ?_)
      · repeat walk_at "sx"
        have h3 : decide (V.str (cutS z none (some 1)) = V.str slash) = false := by simpa using h2
        rw [if_pos h3] at k
        exact k H (Gr.refl H)
      · have h3 : decide (V.str (cutS z none (some 1)) = V.str slash) = true := by simpa using h2
        rw [if_neg (by rw [h3]; decide)] at k
        repeat walk_at "sx"
        refine st_slS (sz_of (by omega)) ?_
        repeat walk_at "sx"
        have hc := cutS_length z (some 1) none
        refine st_split (by decide +kernel) (sz_of (by omega)) ?_
        walk_at "new"; rename_i l hl H2 g e
        obtain ⟨q1, q2⟩ : (Txt.split (cutS z (some 1) none) (Str.ofString "/")).length ≤ _ ∧ ∀ p ∈ Txt.split (cutS z (some 1) none) (Str.ofString "/"), p.length ≤ _ := split_le (cutS z (some 1) none)
        have k2 : (if namesOk ((Txt.split (cutS z (some 1) none) (Str.ofString "/")).map V.str) = true then some (Txt.split (cutS z (some 1) none) (Str.ofString "/")) else none) = _ := rfl
        generalize Txt.split (cutS z (some 1) none) (Str.ofString "/") = ys at *
        have k : outDue H Q (if namesOk (ys.map V.str) = true then some ys else none) := k
        repeat walk_at "sx"
        refine st_lenL (SqL.of e) ?_
        repeat walk_at "sx"
        refine ite3 (fun h4 => ?_) (fun h4 => ?_)
        · repeat walk_at "sx"
          have h8 : ¬ (ys.map V.str).length ≤ 8 := by have := of_decide_eq_true h4; omega
          have hn : namesOk (ys.map V.str) = false := by unfold namesOk; rw [decide_eq_false h8] <;> rfl
          rw [hn, if_neg Bool.false_ne_true] at k
          exact k H2 g
        · repeat walk_at "sx"
          have h8 : (ys.map V.str).length ≤ 8 := by have := of_decide_eq_false h4; omega
          have hn : namesOk (ys.map V.str) = (ys.map V.str).all isNm := by unfold namesOk; rw [decide_eq_true h8] <;> rfl
          refine st_exL (SqL.of e) ?_
          refine lc_l (fun x => .bl (isNm x)) (SqL.of e) ?_ ?_ (by omega)
          · intro i x H3 hx g3 Qy q
            repeat walk_at "sx"
            have hm := List.mem_of_getElem? hx
            obtain ⟨y, hy, rfl⟩ := List.mem_map.mp hm
            have := q2 y hy
            exact ⟨_, rfl, .inl ⟨y, rfl, by omega⟩, q⟩
          · intro D H3 hD g3 e3
            repeat walk_at "sx"
            refine st_all (bs := (ys.map V.str).map isNm) (SqL.of (by rw [e3]; simp only [List.map_map]; rfl)) ?_
            repeat walk_at "sx"
            have ea : ((ys.map V.str).map isNm).all id = namesOk (ys.map V.str) := by rw [hn, List.all_map] <;> rfl
            rw [ea]
            refine ite3 (fun h5 => ?_) (fun h5 => ?_)
            · repeat walk_at "sx"
              have h6 : namesOk (ys.map V.str) = false := by simpa using h5
              rw [h6, if_neg Bool.false_ne_true] at k
              exact k H3 (g.trans g3)
            · repeat walk_at "sx"
              have h6 : namesOk (ys.map V.str) = true := by simpa using h5
              rw [h6, if_pos rfl] at k
              exact k l H3 hl (g.trans g3) (g3.lst e)
end
/-- a def that is asked whether it refuses: f, what it promises, what is handed in -/
def spRefusedX (B : Addr) (S : Addr → Sp → Prop) : Sp := fun vs H Q _ => ∃ f sp x, vs = [.ref f, x] ∧ S f sp ∧
  ∀ (Q' : VK) (E' : XK), (∀ v H', Q (.bl false) H' → Q' v H') → (∀ H', Q (.bl true) H' → E' (.ref B) none H') → sp [x] H Q' E'
/-- the three that are asked -/
def Asked (K : PySem.W.Frag) (Pt B fCh fWr fRe : Addr) (f : Addr) (sp : Sp) : Prop := (f = fCh ∧ sp = spChecked K Pt B) ∨ (f = fWr ∧ sp = spWritten K Pt B) ∨ (f = fRe ∧ sp = spRead K Pt B)
def spCheckedL (K : PySem.W.Frag) (Pt : Addr) : Sp := fun vs H Q _ => ∃ a x xs, vs = [.ref a, x] ∧ SqL K H a xs ∧ PathIn K H x (some xs) ∧ GxR.TabG H Pt ∧ ∀ H', Gr H H' → Q (.bl true) H'
def spLineL (K : PySem.W.Frag) : Sp := fun vs H Q _ => ∃ (a : Addr) (xs : List V) (c p : Int), vs = [.ref a, .int c, .int p] ∧ SqL K H a xs ∧ (∀ v ∈ xs, Itm K H v) ∧ (∀ z, V.str z ∈ xs → z.length ≤ 20) ∧ xs.length ≤ 10 ∧
  ∀ (z : Str) H', Gr H H' → z.length ≤ 700 → Q (.str z) H'
section
variable {P : Program} {w : World} {K : PySem.W.Frag} {mg : Str → Option Value} {base : Heap} {S B fCh fWr fRe Pt : Addr}
theorem screfused : FnScope ["_law_ask", "_law_thing", "e"] ["_law_ask", "_law_thing"] (defScope srefused) := ⟨rfl, rfl, rfl, by decide +kernel, rfl, by decide +kernel, by decide +kernel⟩
theorem ok_refused {f : Addr} {fd : FuncData} (F : Fun K "_law_refused" "_law_refused" srefused f fd) (T : Txt K mg S B fCh fWr fRe) (A : ∀ f sp, Asked K Pt B fCh fWr fRe f sp → HeldX P w K mg base 3 f sp) :
    FnOk P w K mg base (L2.CX P w) 4 f fd ["_law_ask", "_law_thing"] (spRefusedX B (Asked K Pt B fCh fWr fRe)) := by
  refine F.okX screfused (fun vs H Q E h => ?_) (fun cdv A' outer s H vs Q E hr h => ?_)
  · obtain ⟨f, sp, x, rfl, _⟩ := h
    rfl
  · obtain ⟨g, sp, x, rfl, hS, k⟩ := h
    refine ⟨_, pss_cons (ps_try_as (i := 2) (tb := fun W => tDrop (tCallLS 0 (Asked K Pt B fCh fWr fRe) (WE W) (tCons (tVar 1) tNil)))
        (ts := fun a cls d => fun D σ H => (cls = .ref B ∧ d = none) ∧ tRet (tAndV (tCB (rIsE K B a) (tCons (tVar 2) (tCons (tC (.ref S)) tNil))) (tCB (rIsE K B a) (tCons (tVar 2) (tCons (tC (.ty "ValueError")) tNil)))) D σ H) (Wout := fun _ _ _ _ => False)
        rfl rfl screfused.nd rfl rfl ⟨rfl, by decide, .inl T.mg_BadPath⟩ takes0
        (fun W pn xe tk _ => pss_one (ps_expr (pe_callLS A hr (fun σ => passAt tk σ) rfl (.inl rfl) (pa_cons (pv 1) pa_nil))))
        (fun a oe cls d pn hz hf => pss_guard fun q => by
          obtain ⟨rfl, rfl⟩ := q
          exact pss_one (ps_ret (pe_and (pe_callB (call_isE T.c_BadPath hz hf) (by rfl) T.isinstance boot_isinstance (pa_cons (pv 2) (pa_cons (pe_glob (v := .ref S) rfl T.mg_SnapError rfl) pa_nil)))
            (pe_one (pe_callB (call_isE T.c_BadPath hz hf) (by rfl) T.isinstance boot_isinstance (pa_cons (pv 2) (pa_cons (pe_bltn (v := .ty "ValueError") (by rfl) T.ValueError (by decide +kernel) rfl) pa_nil))))))))
      (pss_one (ps_ret pe_bl)), ?_⟩
    refine st_seq ?_
    show tDrop _ ⟨_, _, _, _⟩ _ _
    refine st_drop ?_
    refine ⟨g, sp, rfl, hS, ?_⟩
    repeat walk_at "sx"
    refine k _ _ (fun v H' q => ?_) (fun H' q => ?_)
    · repeat walk_at "sx"
      exact q
    · refine ⟨true, T.e_BadPath, fun _ a na => ⟨⟨rfl, rfl⟩, ?_⟩, fun z => by cases z⟩
      repeat walk_at "sx"
      refine ⟨.ref S, .ref S, true, rfl, fun u r => r, T.s_BadPath, ?_⟩
      repeat walk_at "sx"
      refine ⟨.ty "ValueError", .type "ValueError", true, rfl, fun u r => r, T.v_BadPath, ?_⟩
      exact q
end
def badPath : Option (List V) → Bool
  | some xs => !namesOk xs
  | none => true
/-- what comes of it, asked thrice -/
theorem ask_checked {K : PySem.W.Frag} {Pt B fCh fWr fRe : Addr} {H : Hp} {Q : VK} {x : V} {o : Option (List V)} {b : Bool} (hp : PathIn K H x o) (hT : GxR.TabG H Pt) (hb : badPath o = b) (q : ∀ H', Gr H H' → Q (.bl b) H') :
    spRefusedX B (Asked K Pt B fCh fWr fRe) [.ref fCh, x] H Q E0 := by
  refine ⟨fCh, _, x, rfl, .inl ⟨rfl, rfl⟩, fun Q' E' q1 q2 => ⟨x, o, rfl, hp, hT, ?_⟩⟩
  cases o with
  | none =>
    subst hb
    exact fun H' g => q2 H' (q H' g)
  | some xs =>
    unfold outChecked
    dsimp only [badPath] at hb ⊢
    cases hn : namesOk xs with
    | true =>
      rw [hn] at hb
      subst hb
      exact iteT fun l H' _ g _ => q1 _ H' (q H' g)
    | false =>
      rw [hn] at hb
      subst hb
      exact iteF fun H' g => q2 H' (q H' g)
theorem ask_written {K : PySem.W.Frag} {Pt B fCh fWr fRe : Addr} {H : Hp} {Q : VK} {x : V} {o : Option (List V)} {b : Bool} (hp : PathIn K H x o) (hT : GxR.TabG H Pt) (hb : badPath o = b) (q : ∀ H', Gr H H' → Q (.bl b) H') :
    spRefusedX B (Asked K Pt B fCh fWr fRe) [.ref fWr, x] H Q E0 := by
  refine ⟨fWr, _, x, rfl, .inr (.inl ⟨rfl, rfl⟩), fun Q' E' q1 q2 => ⟨x, o, rfl, hp, hT, ?_⟩⟩
  cases o with
  | none =>
    subst hb
    exact fun H' g => q2 H' (q H' g)
  | some xs =>
    unfold outWritten
    dsimp only [badPath] at hb ⊢
    cases hn : namesOk xs with
    | true =>
      rw [hn] at hb
      subst hb
      exact iteT fun H' g => q1 _ H' (q H' g)
    | false =>
      rw [hn] at hb
      subst hb
      exact iteF fun H' g => q2 H' (q H' g)
theorem ask_read {K : PySem.W.Frag} {Pt B fCh fWr fRe : Addr} {H : Hp} {Q : VK} {x : V} {b : Bool} (hp : Itm K H x) (hT : GxR.TabG H Pt) (hb : (parse x).isNone = b) (q : ∀ H', Gr H H' → Q (.bl b) H') :
    spRefusedX B (Asked K Pt B fCh fWr fRe) [.ref fRe, x] H Q E0 := by
  refine ⟨fRe, _, x, rfl, .inr (.inr ⟨rfl, rfl⟩), fun Q' E' q1 q2 => ⟨x, rfl, hp, hT, ?_⟩⟩
  cases ho : parse x with
  | none =>
    rw [ho] at hb
    subst hb
    exact fun H' g => q2 H' (q H' g)
  | some ys =>
    rw [ho] at hb
    subst hb
    exact fun l H' _ g _ => q1 _ H' (q H' g)
section
variable {P : Program} {w : World} {K : PySem.W.Frag} {mg : Str → Option Value} {base : Heap} {S B fCh fWr fRe Pt : Addr}
theorem sccheckedL : FnScope ["_law_names_here", "_law_handed", "_law_good", "_law_name", "_law_seen", "_law_line_here"] ["_law_names_here", "_law_handed"] (defScope scheckedL) := ⟨rfl, rfl, rfl, by decide +kernel, rfl, by decide +kernel, by decide +kernel⟩
theorem ok_checkedL {f : Addr} {fd : FuncData} (F : Fun K "_law_checked" "_law_checked" scheckedL f fd) (T : Txt K mg S B fCh fWr fRe) (cN : Df P w K mg base 1 "_law_is_name" ["_law_thing"] (spIsNameL K)) (cR : Df P w K mg base 4 "_law_refused" ["_law_ask", "_law_thing"] (spRefusedX B (Asked K Pt B fCh fWr fRe)))
    (cC : Df P w K mg base 2 "checked" ["path"] (spChecked K Pt B)) (cW : Df P w K mg base 3 "written" ["path"] (spWritten K Pt B)) (cL : Df P w K mg base 1 "_law_names" ["_law_seen", "_law_due"] (spNamesL K)) :
    FnOk P w K mg base (L2.CX P w) 5 f fd ["_law_names_here", "_law_handed"] (spCheckedL K Pt) := by
  refine F.okX sccheckedL (fun vs H Q E h => ?_) (fun cdv A' outer s H vs Q E hr h => ?_)
  · obtain ⟨a, x, xs, rfl, _⟩ := h
    rfl
  · obtain ⟨a, x, xs, rfl, ha, hp, hT, k⟩ := h
    obtain ⟨px, rfl, hx, hI, hl⟩ := id hp
    refine ⟨_, (pss_cons (ps_set (i := 2) sccheckedL.nd rfl (Or.inl rfl) (pe_and (pe_cmpR op_le (pe_callB (cLenQ (K := K) rfl) (by rfl) T.len PySem.boot_len (pa_cons (pv 0) pa_nil)) pe_int (nomark _)) (pe_one (pe_callB (cAll (K := K) rfl rfl) (by rfl) T.all boot_all (pa_cons (pe_lc (own := [("_law_name", 3)]) (g := gName 3) (tt := tYes) rfl sccheckedL.nd (pi_list (pv 0)) (blkOk_by (N := ["_law_names_here", "_law_handed", "_law_good", "_law_name", "_law_seen", "_law_line_here"]) (sc := defScope scheckedL) (by decide +kernel)) (fun _ _ _ _ _ => pg_name (i := 3) sccheckedL.nd rfl (Or.inl rfl)) (fun _ _ _ _ _ => pts_nil) (fun _ _ _ _ _ => (pe_d0 cN (hr.mono (by decide)) rfl (pa_cons (pv 3) pa_nil)))) pa_nil)))))
        (pss_cons (ps_if (pt_not (pt_val (pv 2)))
        (pss_one (ps_ret (pe_and (pe_d0 cR (hr.mono (by decide)) rfl (pa_cons (pe_glob (v := .ref fCh) rfl T.mg_checked rfl) (pa_cons (pv 1) pa_nil))) (pe_one (pe_d0 cR (hr.mono (by decide)) rfl (pa_cons (pe_glob (v := .ref fWr) rfl T.mg_written rfl) (pa_cons (pv 1) pa_nil)))))))
        pss_nil)
        (pss_cons (ps_if (PW.pt (pw_or (pt_val (pe_d0 cR (hr.mono (by decide)) rfl (pa_cons (pe_glob (v := .ref fCh) rfl T.mg_checked rfl) (pa_cons (pv 1) pa_nil)))) (pw_or1 (pt_val (pe_d0 cR (hr.mono (by decide)) rfl (pa_cons (pe_glob (v := .ref fWr) rfl T.mg_written rfl) (pa_cons (pv 1) pa_nil)))))))
        (pss_one (ps_ret pe_bl))
        pss_nil)
        (pss_cons (ps_set (i := 4) sccheckedL.nd rfl (Or.inl rfl) (pe_d0 cC (hr.mono (by decide)) rfl (pa_cons (pv 1) pa_nil)))
        (pss_cons (ps_set (i := 5) sccheckedL.nd rfl (Or.inl rfl) (pe_d0 cW (hr.mono (by decide)) rfl (pa_cons (pv 1) pa_nil)))
        (pss_cons (ps_if (PW.pt (pw_or (pt_not (pt_val (pe_d0 cL (hr.mono (by decide)) rfl (pa_cons (pv 4) (pa_cons (pv 0) pa_nil))))) (pw_or (pt_not (pt_val (pe_callB (cIsi (K := K) rfl) (by rfl) T.isinstance boot_isinstance (pa_cons (pv 5) (pa_cons (pe_bltn (v := .ty "str") (by rfl) T.str PyProof.Rows.boot_str rfl) pa_nil))))) (pw_or1 (pt_cmpR op_ne (pv 5) (pe_op oAddS pe_str (peJoin pe_str (pv 0))) (nomark _))))))
        (pss_one (ps_ret pe_bl))
        pss_nil)
        (pss_cons (ps_expr (pe_bm PySem.F.plainAttrs_list PySem.F.slot_list_append PySem.F.type_list_append mt_append (pv 4) (pa_cons pe_str pa_nil)))
        (pss_one (ps_ret (pe_and (pe_cmpR op_eq (pe_callB (cLenQ (K := K) rfl) (by rfl) T.len PySem.boot_len (pa_cons (pv 1) pa_nil)) (pe_callB (cLenQ (K := K) rfl) (by rfl) T.len PySem.boot_len (pa_cons (pv 0) pa_nil)) (nomark _)) (pe_one (pe_d0 cL (hr.mono (by decide)) rfl (pa_cons (pe_callTy (cListOf (K := K) rfl) (by rfl) T.list PyProof.Rows.boot_list (pa_cons (pv 1) pa_nil)) (pa_cons (pv 0) pa_nil)))))))))))))), ?_⟩
    repeat walk_at "sx"
    refine st_lenL ha ?_
    repeat walk_at "sx"
    refine st_meet (b := namesOk xs) (fun h R' q => ?_) (fun h => ?_) (fun H2 g => ?_)
    · have h8 : xs.length ≤ 8 := by have := of_decide_eq_true h; omega
      repeat walk_at "sx"
      refine st_exL ha ?_
      refine lc_l (fun x => .bl (isNm x)) ha ?_ ?_ (by omega)
      · intro i x H3 hx g3 Qy q
        repeat walk_at "sx"
        exact ⟨_, rfl, g3.itm (hI x (List.mem_of_getElem? hx)), q⟩
      · intro D H3 hD g3 e3
        repeat walk_at "sx"
        refine st_all (bs := xs.map isNm) (SqL.of (by rw [e3]; simp only [List.map_map]; rfl)) ?_
        have ea : (xs.map isNm).all id = namesOk xs := by
          unfold namesOk
          rw [decide_eq_true h8, List.all_map] <;> rfl
        rw [ea]
        exact q H3 g3
    · have h8 : ¬ xs.length ≤ 8 := by have := of_decide_eq_false h; omega
      unfold namesOk
      rw [decide_eq_false h8] <;> rfl
    · repeat walk_at "sx"
      cases hn : namesOk xs with
      | false =>
        repeat walk_at "sx"
        refine ask_checked (b := true) (g.path hp) (g.tab _ hT) (by unfold badPath; dsimp only; rw [hn] <;> rfl) fun H3 g3 => ?_
        repeat walk_at "sx"
        refine ask_written (b := true) ((g.trans g3).path hp) ((g.trans g3).tab _ hT) (by unfold badPath; dsimp only; rw [hn] <;> rfl) fun H4 g4 => ?_
        exact k H4 ((g.trans g3).trans g4)
      | true =>
        repeat walk_at "sx"
        refine ask_checked (b := false) (g.path hp) (g.tab _ hT) (by unfold badPath; dsimp only; rw [hn] <;> rfl) fun H3 g3 => ?_
        repeat walk_at "sx"
        refine ask_written (b := false) ((g.trans g3).path hp) ((g.trans g3).tab _ hT) (by unfold badPath; dsimp only; rw [hn] <;> rfl) fun H4 g4 => ?_
        repeat walk_at "sx"
        have G4 := (g.trans g3).trans g4
        refine ⟨_, some xs, rfl, G4.path hp, G4.tab _ hT, ?_⟩
        unfold outChecked
        dsimp only
        rw [if_pos hn]
        intro l H5 hl5 g5 e5
        repeat walk_at "sx"
        have G5 := G4.trans g5
        refine ⟨_, some xs, rfl, G5.path hp, G5.tab _ hT, ?_⟩
        unfold outWritten
        dsimp only
        rw [if_pos hn]
        intro H6 g6
        repeat walk_at "sx"
        have G6 := G5.trans g6
        have e6 : H6 l = some (.lst xs) := g6.lst e5
        obtain ⟨ex, h8, hk⟩ := namesOk_strs hn
        have ln : (txts xs).length ≤ 2000 := by omega
        refine ⟨l, a, txts xs, rfl, SqL.of (by rw [← ex]; exact e6), (by rw [← ex]; exact G6.l ha), ln, fun H7 g7 => ?_⟩
        repeat walk_at "sx"
        have G7 := G6.trans g7
        refine st_isi (.base (.str _)) kit_yes ?_
        repeat walk_at "sx"
        have hj : ((txts xs).map (·.length)).sum + (txts xs).length * (Str.ofString "/").length ≤ 72 := joined_le hn
        refine st_join (ys := txts xs) (.inl (by rw [← ex]; exact G7.l ha)) (by omega) ?_
        have h2 : (Txt.join (Str.ofString "/") (txts xs)).length ≤ _ := join_len (Str.ofString "/") (txts xs)
        have h1 : (Str.ofString "/").length = 1 := len_slash
        refine st_addS (sz_of (by omega)) ?_
        repeat walk_at "sx"
        rw [decide_eq_true rfl]
        repeat walk_at "sx"
        have e7 : H7 l = some (.lst xs) := g7.lst e6
        refine st_tyL (SqL.of e7) ?_
        repeat walk_at "sx"
        refine st_append e7 (sz_lt (by omega)) ?_
        have hl0 : H l = none := G4.free hl5
        have G8 : Gr H (upd H7 l (.lst (xs ++ [.str (Str.ofString "more")]))) := G7.mut hl0
        generalize upd H7 l (.lst (xs ++ [.str (Str.ofString "more")])) = H8 at G8 ⊢
        repeat walk_at "sx"
        refine st_len2 (G8.lt hx) ?_
        repeat walk_at "sx"
        refine st_lenL (G8.l ha) ?_
        repeat walk_at "sx"
        rw [decide_eq_true rfl]
        repeat walk_at "sx"
        refine st_list2 (G8.lt hx) ?_
        walk_at "new"; rename_i l9 hl9 H9 g9 e9
        repeat walk_at "sx"
        exact ⟨l9, a, txts xs, rfl, SqL.of (by rw [← ex]; exact e9), (by rw [← ex]; exact (G8.trans g9).l ha), ln, fun H10 g10 => k H10 ((G8.trans g9).trans g10)⟩
end
theorem txts_fm (xs : List V) : xs.filterMap (fun x => (strOf x).map V.str) = (txts xs).map V.str := by
  unfold txts
  induction xs with
  | nil => rfl
  | cons x r ih =>
    cases e : strOf x with
    | none => rw [List.filterMap_cons_none (by rw [e] <;> rfl), List.filterMap_cons_none e, ih]
    | some z => rw [List.filterMap_cons_some (b := V.str z) (by rw [e] <;> rfl), List.filterMap_cons_some e, List.map_cons, ih]
theorem txts_len (xs : List V) : (txts xs).length ≤ xs.length := List.length_filterMap_le _ _
theorem txts_mem {xs : List V} {z : Str} (h : z ∈ txts xs) : V.str z ∈ xs := by
  obtain ⟨x, hx, e⟩ := List.mem_filterMap.mp h
  cases x with
  | str y =>
    have : y = z := Option.some.inj e
    rw [← this]
    exact hx
  | _ => cases e
section
variable {P : Program} {w : World} {K : PySem.W.Frag} {mg : Str → Option Value} {base : Heap} {S B fCh fWr fRe Pt : Addr}
theorem sclineL : FnScope ["_law_names_here", "_law_cell", "_law_place", "_law_line_here", "_law_name", "_law_at"] ["_law_names_here", "_law_cell", "_law_place"] (defScope slineL) := ⟨rfl, rfl, rfl, by decide +kernel, rfl, by decide +kernel, by decide +kernel⟩
theorem ok_lineL {f : Addr} {fd : FuncData} (F : Fun K "_law_line" "_law_line" slineL f fd) (T : Txt K mg S B fCh fWr fRe) (cS : Df P w K mg base 1 "_law_sign_by" ["_law_cell"] spSignBy) : FnOk P w K mg base (L2.CX P w) 2 f fd ["_law_names_here", "_law_cell", "_law_place"] (spLineL K) := by
  refine F.okX sclineL (fun vs H Q E h => ?_) (fun cdv A' outer s H vs Q E hr h => ?_)
  · obtain ⟨a, xs, c, p, rfl, _⟩ := h
    rfl
  · obtain ⟨a, xs, c, p, rfl, ha, hI, hZ, hl, k⟩ := h
    refine ⟨_, (pss_cons (ps_set (i := 3) sclineL.nd rfl (Or.inl rfl) (pe_op oAddS pe_str (peJoin pe_str (pe_lc (own := [("_law_name", 4)]) (g := gName 4) rfl sclineL.nd (pi_list (pv 0)) (blkOk_by (N := ["_law_names_here", "_law_cell", "_law_place", "_law_line_here", "_law_name", "_law_at"]) (sc := defScope slineL) (by decide +kernel)) (fun _ _ _ _ _ => pg_name (i := 4) sclineL.nd rfl (Or.inl rfl)) (fun _ _ _ _ _ => (pts_one (pt_val (pe_callB (cIsi (K := K) rfl) (by rfl) T.isinstance boot_isinstance (pa_cons (pv 4) (pa_cons (pe_bltn (v := .ty "str") (by rfl) T.str PyProof.Rows.boot_str rfl) pa_nil)))))) (fun _ _ _ _ _ => (pv 4))))))
        (pss_cons (ps_set (i := 5) sclineL.nd rfl (Or.inl rfl) (pe_op op_mod (pv 2) (pe_op op_add (pe_callB cLenS (by rfl) T.len PySem.boot_len (pa_cons (pv 3) pa_nil)) pe_int)))
        (pss_cons (ps_if (pt_cmpR op_eq (pe_op op_mod (pv 1) pe_int) pe_int (nomark _))
        (pss_one (ps_ret (pe_op oAddS (pe_op oAddS (pe_slice sl_str (pv 3) po_none (po_some (pv 5))) (pe_ix (ixL (K := K) rfl) (pe_lst (pa_cons (pe_d0 cS (hr.mono (by decide)) rfl (pa_cons (pe_op op_fdiv (pv 1) pe_int) pa_nil)) (pa_cons pe_str pa_nil))) (pe_op op_mod (pe_op op_fdiv (pv 1) pe_int) pe_int) (fun _ _ => rfl))) (pe_slice sl_str (pv 3) (po_some (pv 5)) po_none))))
        pss_nil)
        (pss_cons (ps_if (pt_cmpR op_eq (pe_op op_mod (pv 1) pe_int) pe_int (nomark _))
        (pss_one (ps_ret (pe_op oAddS (pe_slice sl_str (pv 3) po_none (po_some (pv 5))) (pe_slice sl_str (pv 3) (po_some (pe_op op_add (pv 5) pe_int)) po_none))))
        pss_nil)
        (pss_one (ps_ret (pv 3))))))), ?_⟩
    repeat walk_at "sx"
    refine st_exL ha ?_
    refine lc_lf (fun x => (strOf x).map V.str) ha ?_ ?_ (by omega)
    · intro i x H2 hx g Qy Qn q1 q2
      have hI2 := g.itm (hI x (List.mem_of_getElem? hx))
      repeat walk_at "sx"
      refine st_isStr hI2 ?_
      repeat walk_at "sx"
      cases x with
      | str z =>
        refine iteT ?_
        repeat walk_at "sx"
        exact q1 _ H2 rfl (Gr.refl _)
      | _ => exact iteF (q2 rfl H2 (Gr.refl _))
    · intro D H2 hD g e
      rw [txts_fm] at e
      have hs : ∀ y ∈ txts xs, y.length ≤ 20 := fun y hy => hZ y (txts_mem hy)
      have hsum := sum_le hs
      have hcount := txts_len xs
      have h1 : (Str.ofString "/").length = 1 := len_slash
      have hj := join_len (Str.ofString "/") (txts xs)
      rw [h1] at hj
      have hm : (txts xs).length * 20 ≤ 10 * 20 := Nat.mul_le_mul_right _ (by omega)
      refine st_join (ys := txts xs) (.inl (SqL.of e)) (by rw [h1]; omega) ?_
      refine st_addS (sz_of (by omega)) ?_
      have hline : (Str.ofString "/" ++ Txt.join (Str.ofString "/") (txts xs)).length ≤ 300 := by
        rw [Str.length_append]
        omega
      generalize Str.ofString "/" ++ Txt.join (Str.ofString "/") (txts xs) = z at hline ⊢
      repeat walk_at "sx"
      refine st_lenS (sz_of (by omega)) ?_
      repeat walk_at "sx"
      refine st_I (by show (0 : Int) < (z.length : Int) + 1; omega) ?_
      have m0 := Int.emod_nonneg p (b := (z.length : Int) + 1) (by omega)
      generalize p % ((z.length : Int) + 1) = at_ at m0 ⊢
      repeat walk_at "sx"
      refine st_I (by show (0 : Int) < 3; decide) ?_
      repeat walk_at "sx"
      have c1 := cutS_length z none (some at_)
      have c2 := cutS_length z (some at_) none
      have c3 := cutS_length z (some (at_ + 1)) none
      refine ite3 (fun h => ?_) (fun h => ?_)
      · repeat walk_at "sx"
        refine st_slS (sz_of (by omega)) ?_
        repeat walk_at "sx"
        refine st_I ⟨by decide, by decide⟩ ?_
        repeat walk_at "sx"
        refine ⟨_, rfl, fun sg H3 g3 => ?_⟩
        repeat walk_at "sx"
        refine ⟨by show 2 ≤ sizeLine; decide, ?_⟩
        walk_at "new"; rename_i l hl4 H4 g4 e4
        repeat walk_at "sx"
        refine st_I ⟨by decide, by decide⟩ ?_
        repeat walk_at "sx"
        refine st_I (by show (0 : Int) < 2; decide) ?_
        have n0 := Int.emod_nonneg (c / 3) (b := 2) (by decide)
        have n1 := Int.emod_lt_of_pos (c / 3) (b := 2) (by decide)
        obtain ⟨v, hv, hat⟩ := atI_getV (l := [V.str ⟨#[sg]⟩, V.str (Str.ofString "/")]) n0 (by show c / 3 % 2 < (2 : Int); exact n1)
        refine st_ixL (SqL.of e4) hat ?_
        obtain ⟨y, rfl, hy⟩ : ∃ y : Str, v = .str y ∧ y.length = 1 := by
          rcases List.mem_cons.mp hv with q | q
          · exact ⟨_, q, rfl⟩
          · exact ⟨_, List.mem_singleton.mp q, h1⟩
        refine st_addS (sz_of (by omega)) ?_
        repeat walk_at "sx"
        refine st_slS (sz_of (by omega)) ?_
        refine st_addS (sz_of (by rw [Str.length_append]; omega)) ?_
        refine k _ H4 ((g.trans g3).trans g4) ?_
        rw [Str.length_append, Str.length_append]
        omega
      · repeat walk_at "sx"
        refine st_I (by show (0 : Int) < 3; decide) ?_
        repeat walk_at "sx"
        refine ite3 (fun h => ?_) (fun h => ?_)
        · repeat walk_at "sx"
          refine st_slS (sz_of (by omega)) ?_
          repeat walk_at "sx"
          refine st_slS (sz_of (by omega)) ?_
          refine st_addS (sz_of (by omega)) ?_
          refine k _ H2 g ?_
          rw [Str.length_append]
          omega
        · repeat walk_at "sx"
          exact k _ H2 g (by omega)
end
/-! ### the law -/
theorem dp_strs {K : PySem.W.Frag} {H : Hp} : ∀ ys : List Str, DpAll K H (ys.map V.str) (ys.map PyData.str)
  | [] => .nil
  | y :: r => .cons (.str y) (dp_strs r)
theorem lay_strs : ∀ {ys : List Str}, (∀ y ∈ ys, PyData.strOk y = true) → PyData.canLayAll0 (ys.map PyData.str) = true
  | [], _ => rfl
  | y :: r, h => by
    rw [List.map_cons, PyData.canLayAll0, lay_strs fun z hz => h z (List.mem_cons_of_mem _ hz), Bool.and_true]
    show PyData.strOk y = true
    exact h y List.mem_cons_self
theorem depth_strs : ∀ ys : List Str, PyData.depthAll (ys.map PyData.str) = 0
  | [] => rfl
  | y :: r => by
    rw [List.map_cons, PyData.depthAll, depth_strs r]
    rfl
theorem shaped_strs {ys : List Str} (h : ∀ y ∈ ys, PyData.strOk y = true) : SeqAt.shaped (.list (ys.map PyData.str)) = true := by
  unfold SeqAt.shaped
  rw [PyData.depth, depth_strs]
  show (PyData.canLayAll0 _ && _) = true
  rw [lay_strs h] <;> rfl
theorem st_neNil {K : PySem.W.Frag} {H : Hp} {Q : VK} {p q : Addr} {ys : List Str} (h : SqL K H p (ys.map V.str)) (hq : SqL K H q []) (hok : ∀ y ∈ ys, PyData.strOk y = true) (k : Q (.bl (!ys.isEmpty)) H) : rNeD K (.ref p) (.ref q) H Q := by
  refine ⟨.list (ys.map PyData.str), .list [], .lst h (dp_strs ys), .lst hq .nil, shaped_strs hok, by decide, ?_⟩
  have e : PyData.eqv (.list (ys.map PyData.str)) (.list []) = ys.isEmpty := by
    cases ys with
    | nil => simp [PyData.eqv, PyData.eqvAll]
    | cons y r => simp [PyData.eqv, PyData.eqvAll]
  rw [e]
  exact k
theorem st_disp1 {σ : L2.St} {H : Hp} {Q : VK} {k : Str} {v : V} (q : ∀ p H2, H p = none → Gr H H2 → (∃ kvs, H2 p = some (.dK kvs)) → Q (.ref p) H2) : tDisp [(tC (.str k), tC v)] σ H Q := fun p hp =>
  ⟨upd_same, [(.inr k, v)], rfl, by show 1 ≤ 15; decide, by rw [upd_upd]; exact q p _ hp (Gr.new hp) ⟨_, upd_same⟩⟩
theorem st_dnew {σ : L2.St} {H : Hp} {Q : VK} (q : ∀ p H2, H p = none → Gr H H2 → (∃ kvs, H2 p = some (.dK kvs)) → Q (.ref p) H2) : tDNewK σ H Q := fun p hp => q p _ hp (Gr.new hp) ⟨_, upd_same⟩
theorem st_cut {t u : TS} {n : L2.St → Hp → Prop} {rt : VK} {b c : L2.St → Hp → Prop} {σ : L2.St} {H : Hp} (Mid : L2.St → Hp → Prop) (h : t ⟨Mid, rt, b, c⟩ σ H) (k : ∀ σ' H', Mid σ' H' → u ⟨n, rt, b, c⟩ σ' H') : C8.tCut t u ⟨n, rt, b, c⟩ σ H := ⟨Mid, h, k⟩
/-- the kinds of things at hand -/
theorem itm_str {K : PySem.W.Frag} {H : Hp} {z : Str} (h : z.length ≤ 1000) : Itm K H (.str z) := .inl ⟨z, rfl, h⟩
theorem itm_int {K : PySem.W.Frag} {H : Hp} {i : Int} : Itm K H (.int i) := .inr ⟨_, rfl, .base (.int i), by decide⟩
theorem itm_bl {K : PySem.W.Frag} {H : Hp} {b : Bool} : Itm K H (.bl b) := .inr ⟨_, rfl, .base (.bl b), by decide⟩
theorem itm_non {K : PySem.W.Frag} {H : Hp} : Itm K H .non := .inr ⟨_, rfl, .base .non, by decide⟩
theorem itm_lst {K : PySem.W.Frag} {H : Hp} {p : Addr} {xs : List V} (h : H p = some (.lst xs)) : Itm K H (.ref p) := .inr ⟨_, rfl, .base (.lst h), by decide⟩
theorem itm_tup {K : PySem.W.Frag} {H : Hp} {p : Addr} {xs : List V} (h : H p = some (.tup xs)) : Itm K H (.ref p) := .inr ⟨_, rfl, .base (.tup h), by decide⟩
theorem itm_dK {K : PySem.W.Frag} {H : Hp} {p : Addr} (h : ∃ kvs, H p = some (.dK kvs)) : Itm K H (.ref p) := by
  obtain ⟨kvs, h⟩ := h
  exact .inr ⟨_, rfl, .base (.dK h), by decide⟩
theorem odd_str {K : PySem.W.Frag} {H : Hp} {z : Str} : PathIn K H (.str z) none := ⟨_, .base (.str z), by decide⟩
theorem odd_int {K : PySem.W.Frag} {H : Hp} {i : Int} : PathIn K H (.int i) none := ⟨_, .base (.int i), by decide⟩
theorem odd_bl {K : PySem.W.Frag} {H : Hp} {b : Bool} : PathIn K H (.bl b) none := ⟨_, .base (.bl b), by decide⟩
theorem odd_non {K : PySem.W.Frag} {H : Hp} : PathIn K H .non none := ⟨_, .base .non, by decide⟩
theorem odd_dK {K : PySem.W.Frag} {H : Hp} {p : Addr} (h : ∃ kvs, H p = some (.dK kvs)) : PathIn K H (.ref p) none := by
  obtain ⟨kvs, h⟩ := h
  exact ⟨_, .base (.dK h), by decide⟩
theorem Gr.dx {H H' : Hp} {p : Addr} (g : Gr H H') (h : ∃ kvs, H p = some (.dK kvs)) : ∃ kvs, H' p = some (.dK kvs) := by
  obtain ⟨kvs, h⟩ := h
  exact ⟨kvs, g.dK h⟩
/-- the things that stand in a list of names, or may -/
def Okay (K : PySem.W.Frag) (H : Hp) (xs : List V) : Prop := ∀ v ∈ xs, Itm K H v ∧ ∀ z, v = V.str z → z.length ≤ 20
theorem Gr.okay {K : PySem.W.Frag} {H H' : Hp} {xs : List V} (g : Gr H H') (h : Okay K H xs) : Okay K H' xs := fun v hv => ⟨g.itm (h v hv).1, (h v hv).2⟩
theorem okay_nil {K : PySem.W.Frag} {H : Hp} : Okay K H [] := fun _ h => by cases h
theorem okay_cons {K : PySem.W.Frag} {H : Hp} {v : V} {xs : List V} (a : Itm K H v) (b : ∀ z, v = V.str z → z.length ≤ 20) (h : Okay K H xs) : Okay K H (v :: xs) := fun u hu => by
  rcases List.mem_cons.mp hu with q | q
  · rw [q]
    exact ⟨a, b⟩
  · exact h u q
theorem okay_str {K : PySem.W.Frag} {H : Hp} {y : Str} {xs : List V} (b : y.length ≤ 20) (h : Okay K H xs) : Okay K H (.str y :: xs) := okay_cons (itm_str (by omega)) (fun z q => by cases q; exact b) h
theorem okay_app {K : PySem.W.Frag} {H : Hp} {xs ys : List V} (a : Okay K H xs) (b : Okay K H ys) : Okay K H (xs ++ ys) := fun v hv => by
  rcases List.mem_append.mp hv with q | q
  · exact a v q
  · exact b v q
theorem okay_strs {K : PySem.W.Frag} {H : Hp} {ys : List Str} (h : ∀ y ∈ ys, y.length ≤ 20) : Okay K H (ys.map V.str) := fun v hv => by
  obtain ⟨y, hy, rfl⟩ := List.mem_map.mp hv
  have h1 := h y hy
  exact ⟨itm_str (by omega), fun z q => by cases q; exact h1⟩
theorem okay_set {K : PySem.W.Frag} {H : Hp} {xs : List V} {v : V} {j : Nat} (h : Okay K H xs) (a : Itm K H v ∧ ∀ z, v = V.str z → z.length ≤ 20) : Okay K H (xs.set j v) := fun u hu => by
  rcases List.mem_or_eq_of_mem_set hu with q | q
  · exact h u q
  · rw [q]
    exact a
theorem ixN_of {n : Nat} {i : Int} (h0 : 0 ≤ i) (h1 : i < (n : Int)) : ixN n i = some i.toNat := by
  unfold ixN
  rw [if_pos h0, if_pos h1]
theorem parse_len {x : V} {ys : List Str} (h : parse x = some ys) : ys.length ≤ 8 := by
  cases x with
  | str z =>
    by_cases h1 : z = slash
    · have e : parse (.str z) = _ := if_pos h1
      rw [e] at h
      cases h
      decide
    · have e : parse (.str z) = _ := if_neg h1
      rw [e] at h
      by_cases h2 : Txt.startswith z slash = false
      · rw [if_pos h2] at h
        cases h
      · rw [if_neg h2] at h
        cases hn : namesOk ((Txt.split (cutS z (some 1) none) slash).map V.str) with
        | true =>
          rw [if_pos hn] at h
          cases h
          obtain ⟨_, h8, _⟩ := namesOk_strs hn
          rw [strs_map] at h8
          exact h8
        | false =>
          rw [if_neg (by rw [hn]; decide)] at h
          cases h
  | _ => cases h
theorem lone (c : Nat) : (⟨#[c]⟩ : Str).length = 1 := rfl
theorem la : (Str.ofString "a").length = 1 := by decide +kernel
theorem lb : (Str.ofString "b").length = 1 := by decide +kernel
theorem ld : (Str.ofString "d").length = 1 := by decide +kernel
theorem labc : (Str.ofString "abc").length = 3 := by decide +kernel
def spLaw (K : PySem.W.Frag) (Pt : Addr) : Sp := fun vs H Q _ => ∃ (a : Addr) (ns : List Int), vs = [.ref a] ∧ SqL K H a (ns.map V.int) ∧ GxR.TabG H Pt ∧ ∀ H', Q (.bl true) H'
section
variable {P : Program} {w : World} {K : PySem.W.Frag} {mg : Str → Option Value} {base : Heap} {S B fCh fWr fRe Pt : Addr}
theorem sclaw : FnScope ["_law_script", "_law_odd", "_law_sign", "_law_names_here", "_law_k", "_law_way", "_law_name", "_law_told", "_law_handed", "_law_other", "_law_line_here", "_law_due", "_law_refused_here"] ["_law_script"] (defScope slaw) := ⟨rfl, rfl, rfl, by decide +kernel, rfl, by decide +kernel, by decide +kernel⟩
structure Cals (P : Program) (w : World) (K : PySem.W.Frag) (mg : Str → Option Value) (base : Heap) (Pt B fCh fWr fRe : Addr) : Prop where
  cell : Df P w K mg base 1 "_law_cell_at" ["_law_script", "_law_k"] (spCell K)
  nameBy : Df P w K mg base 1 "_law_name_by" ["_law_cell"] spNameBy
  signBy : Df P w K mg base 1 "_law_sign_by" ["_law_cell"] spSignBy
  isName : Df P w K mg base 1 "is_name" ["thing"] (spIsName K Pt)
  isNameL : Df P w K mg base 1 "_law_is_name" ["_law_thing"] (spIsNameL K)
  refused : Df P w K mg base 4 "_law_refused" ["_law_ask", "_law_thing"] (spRefusedX B (Asked K Pt B fCh fWr fRe))
  checkedL : Df P w K mg base 5 "_law_checked" ["_law_names_here", "_law_handed"] (spCheckedL K Pt)
  lineL : Df P w K mg base 2 "_law_line" ["_law_names_here", "_law_cell", "_law_place"] (spLineL K)
  textDue : Df P w K mg base 2 "_law_text_due" ["_law_line_here"] (spTextDue K)
  read : Df P w K mg base 3 "read" ["line"] (spRead K Pt B)
  namesL : Df P w K mg base 1 "_law_names" ["_law_seen", "_law_due"] (spNamesL K)
theorem ok_law {f : Addr} {fd : FuncData} (F : Fun K "law" "law" slaw f fd) (T : Txt K mg S B fCh fWr fRe) (C : Cals P w K mg base Pt B fCh fWr fRe) : FnOk P w K mg base (L2.CX P w) 6 f fd ["_law_script"] (spLaw K Pt) := by
  refine F.okX sclaw (fun vs H Q E h => ?_) (fun cdv A' outer s H vs Q E hr h => ?_)
  · obtain ⟨a, ns, rfl, _⟩ := h
    rfl
  · obtain ⟨a, ns, rfl, hS, hT, k⟩ := h
    refine ⟨_, (pss_cons (ps_set (i := 1) sclaw.nd rfl (Or.inl rfl) (pe_lst (pa_cons pe_str (pa_cons pe_str (pa_cons pe_str (pa_cons pe_int (pa_cons pe_non (pa_cons pe_bl (pa_cons (pe_lst (pa_cons pe_str pa_nil)) (pa_cons (pe_tup (pa_cons pe_str (pa_cons pe_str pa_nil))) (pa_cons (pe_disp (pps_cons pe_str pe_bl pps_nil) rfl rfl (by simp) (by decide)) pa_nil)))))))))))
        (pss_cons (ps_set (i := 2) sclaw.nd rfl (Or.inl rfl) (pe_d0 C.signBy (hr.mono (by decide)) rfl (pa_cons (pe_op op_fdiv (pe_d0 C.cell (hr.mono (by decide)) rfl (pa_cons (pv 0) (pa_cons pe_int pa_nil))) pe_int) pa_nil)))
        (pss_cons (ps_set (i := 1) sclaw.nd rfl (Or.inl rfl) (pe_op op_cat (pv 1) (pe_lst (pa_cons (pv 2) (pa_cons (pe_op oAddS pe_str (pv 2)) (pa_cons (pe_op oAddS (pv 2) pe_str) (pa_cons (pe_op oAddS (pe_op oAddS pe_str (pv 2)) pe_str) pa_nil)))))))
        (pss_cons (ps_setLc (i := 3) (own := [("_law_k", 4)]) (g := gName 4) (tt := tYes) rfl sclaw.nd rfl rfl (sw_true rfl rfl rfl (by decide +kernel)) (pi_range1 rfl T.range (pa_cons (pe_op op_mod (pe_d0 C.cell (hr.mono (by decide)) rfl (pa_cons (pv 0) (pa_cons pe_int pa_nil))) pe_int) pa_nil)) (blkOk_by (N := ["_law_script", "_law_odd", "_law_sign", "_law_names_here", "_law_k", "_law_way", "_law_name", "_law_told", "_law_handed", "_law_other", "_law_line_here", "_law_due", "_law_refused_here"]) (sc := defScope slaw) (by decide +kernel)) (fun _ _ _ _ _ => pg_name (i := 4) sclaw.nd rfl (Or.inl rfl)) (fun _ _ _ _ _ => pts_nil) (fun _ _ _ _ _ => (pe_d0 C.nameBy (hr.mono (by decide)) rfl (pa_cons (pe_d0 C.cell (hr.mono (by decide)) rfl (pa_cons (pv 0) (pa_cons (pe_op op_add pe_int (pv 4)) pa_nil))) pa_nil))))
        (pss_cons (ps_set (i := 5) sclaw.nd rfl (Or.inl rfl) (pe_op op_fdiv (pe_d0 C.cell (hr.mono (by decide)) rfl (pa_cons (pv 0) (pa_cons pe_int pa_nil))) pe_int))
        (C8.pss_cut (ps_if (PW.pt (pw_and (pt_cmpR op_eq (pe_op op_mod (pv 5) pe_int) pe_int (nomark _)) (pw_and1 (pt_cmpR (oNeD (K := K) rfl hr.units) (pv 3) (pe_lst pa_nil) (nomark _)))))
        (pss_one (ps_asg (pe_ix (ixL (K := K) rfl) (pv 1) (pe_op op_mod (pe_op op_fdiv (pe_d0 C.cell (hr.mono (by decide)) rfl (pa_cons (pv 0) (pa_cons pe_int pa_nil))) pe_int) pe_int) (fun _ _ => rfl)) (pg_sub (pv 3) (pe_op op_mod (pe_d0 C.cell (hr.mono (by decide)) rfl (pa_cons (pv 0) (pa_cons pe_int pa_nil))) (pe_callB (cLenQ (K := K) rfl) (by rfl) T.len PySem.boot_len (pa_cons (pv 3) pa_nil))) set_list)))
        pss_nil)
        (pss_cons (ps_for (passes_of rfl) rfl (pi_list (pe_op op_cat (pv 3) (pe_lst (pa_cons (pe_ix (ixL (K := K) rfl) (pv 1) (pe_op op_mod (pe_d0 C.cell (hr.mono (by decide)) rfl (pa_cons (pv 0) (pa_cons pe_int pa_nil))) pe_int) (fun _ _ => rfl)) pa_nil)))) (pg_name (i := 6) sclaw.nd rfl (Or.inl rfl))
        (pss_cons (ps_set (i := 7) sclaw.nd rfl (Or.inl rfl) (pe_d0 C.isName (hr.mono (by decide)) rfl (pa_cons (pv 6) pa_nil)))
        (pss_one (ps_if (PW.pt (pw_or (pt_not (pt_val (pe_callB (cIsi (K := K) rfl) (by rfl) T.isinstance boot_isinstance (pa_cons (pv 7) (pa_cons (pe_bltn (v := .ty "bool") (by rfl) T.bool PyProof.Rows.boot_bool rfl) pa_nil))))) (pw_or1 (pt_cmpR op_ne (pv 7) (pe_d0 C.isNameL (hr.mono (by decide)) rfl (pa_cons (pv 6) pa_nil)) (nomark _)))))
        (pss_one (ps_ret pe_bl))
        pss_nil))))
        (pss_cons (ps_set (i := 8) sclaw.nd rfl (Or.inl rfl) (pe_callTy (cListOf (K := K) rfl) (by rfl) T.list PyProof.Rows.boot_list (pa_cons (pv 3) pa_nil)))
        (C8.pss_cut (ps_if (pt_cmpR op_eq (pe_op op_mod (pe_op op_fdiv (pv 5) pe_int) pe_int) pe_int (nomark _))
        (pss_one (ps_set (i := 8) sclaw.nd rfl (Or.inl rfl) (pe_callTy (cTupOf (K := K) rfl) (by rfl) T.tuple PyProof.Rows.boot_tuple (pa_cons (pv 3) pa_nil))))
        pss_nil)
        (pss_cons (ps_if (pt_not (pt_val (pe_d0 C.checkedL (hr.mono (by decide)) rfl (pa_cons (pv 3) (pa_cons (pv 8) pa_nil)))))
        (pss_one (ps_ret pe_bl))
        pss_nil)
        (pss_cons (ps_set (i := 9) sclaw.nd rfl (Or.inl rfl) (pe_ix (ixL (K := K) rfl) (pe_lst (pa_cons pe_non (pa_cons pe_str (pa_cons pe_int (pa_cons (pe_disp (pps_cons pe_str pe_bl pps_nil) rfl rfl (by simp) (by decide)) (pa_cons pe_dnewK (pa_cons pe_bl pa_nil))))))) (pe_op op_mod (pe_d0 C.cell (hr.mono (by decide)) rfl (pa_cons (pv 0) (pa_cons pe_int pa_nil))) pe_int) (fun _ _ => rfl)))
        (pss_cons (ps_if (PW.pt (pw_or (pt_not (pt_val (pe_d0 C.refused (hr.mono (by decide)) rfl (pa_cons (pe_glob (v := .ref fCh) rfl T.mg_checked rfl) (pa_cons (pv 9) pa_nil))))) (pw_or1 (pt_not (pt_val (pe_d0 C.refused (hr.mono (by decide)) rfl (pa_cons (pe_glob (v := .ref fWr) rfl T.mg_written rfl) (pa_cons (pv 9) pa_nil))))))))
        (pss_one (ps_ret pe_bl))
        pss_nil)
        (pss_cons (ps_if (pt_not (pt_val (pe_d0 C.refused (hr.mono (by decide)) rfl (pa_cons (pe_glob (v := .ref fRe) rfl T.mg_read rfl) (pa_cons (pe_ix (ixL (K := K) rfl) (pe_lst (pa_cons pe_int (pa_cons pe_non (pa_cons (pe_lst (pa_cons pe_str pa_nil)) (pa_cons (pe_tup (pa_cons pe_str (pa_cons pe_str pa_nil))) (pa_cons pe_bl (pa_cons pe_dnewK pa_nil))))))) (pe_op op_mod (pe_d0 C.cell (hr.mono (by decide)) rfl (pa_cons (pv 0) (pa_cons pe_int pa_nil))) pe_int) (fun _ _ => rfl)) pa_nil)))))
        (pss_one (ps_ret pe_bl))
        pss_nil)
        (pss_cons (ps_set (i := 10) sclaw.nd rfl (Or.inl rfl) (pe_d0 C.lineL (hr.mono (by decide)) rfl (pa_cons (pv 3) (pa_cons (pe_op op_fdiv (pe_d0 C.cell (hr.mono (by decide)) rfl (pa_cons (pv 0) (pa_cons pe_int pa_nil))) pe_int) (pa_cons (pe_d0 C.cell (hr.mono (by decide)) rfl (pa_cons (pv 0) (pa_cons pe_int pa_nil))) pa_nil)))))
        (pss_cons (ps_set (i := 11) sclaw.nd rfl (Or.inl rfl) (pe_d0 C.textDue (hr.mono (by decide)) rfl (pa_cons (pv 10) pa_nil)))
        (pss_cons (ps_set (i := 12) sclaw.nd rfl (Or.inl rfl) (pe_d0 C.refused (hr.mono (by decide)) rfl (pa_cons (pe_glob (v := .ref fRe) rfl T.mg_read rfl) (pa_cons (pv 10) pa_nil))))
        (pss_cons (ps_if (pt_cmpR oIsNo (pv 11) pe_non (nomark _))
        (pss_one (ps_ret (pv 12)))
        pss_nil)
        (pss_one (ps_ret (pe_and (pe_not (pv 12)) (pe_one (pe_d0 C.namesL (hr.mono (by decide)) rfl (pa_cons (pe_d0 C.read (hr.mono (by decide)) rfl (pa_cons (pv 10) pa_nil)) (pa_cons (pv 11) pa_nil)))))))))))))))))))))))), ?_⟩
    repeat walk_at "sx"
    refine ⟨by show 1 ≤ sizeLine; decide, ?_⟩
    walk_at "new"; rename_i p1 n1 H1 g1 e1
    repeat walk_at "sx"
    refine ⟨by show 2 ≤ sizeLine; decide, ?_⟩
    walk_at "new"; rename_i p2 n2 H2 g2 e2
    repeat walk_at "sx"
    refine st_disp1 fun p3 H3 n3 g3 e3 => ?_
    repeat walk_at "sx"
    refine ⟨by show 9 ≤ sizeLine; decide, ?_⟩
    walk_at "new"; rename_i l4 n4 H4 g4 e4
    have G4 := ((g1.trans g2).trans g3).trans g4
    have ok4 : Okay K H4 [V.str (Str.ofString ""), V.str (Str.ofString "A"), V.str (Str.ofString "abcdefghi"), V.int 7, V.non, V.bl true, V.ref p1, V.ref p2, V.ref p3] :=
      okay_str (by decide +kernel) (okay_str (by decide +kernel) (okay_str (by decide +kernel) (okay_cons itm_int (fun _ q => by cases q) (okay_cons itm_non (fun _ q => by cases q) (okay_cons itm_bl (fun _ q => by cases q)
        (okay_cons (itm_lst (((g2.trans g3).trans g4).lst e1)) (fun _ q => by cases q) (okay_cons (itm_tup ((g3.trans g4).tup e2)) (fun _ q => by cases q) (okay_cons (itm_dK (g4.dx e3)) (fun _ q => by cases q) okay_nil))))))))
    repeat walk_at "sx"
    refine ⟨a, ns, 2, rfl, G4.l hS, ?_⟩
    repeat walk_at "sx"
    refine st_I ⟨by decide, by decide⟩ ?_
    repeat walk_at "sx"
    refine ⟨_, rfl, fun sg H5 g5 => ?_⟩
    repeat walk_at "sx"
    refine st_addS (sz_of (by rw [la, lone]; decide)) ?_
    repeat walk_at "sx"
    refine st_addS (sz_of (by rw [lb, lone]; decide)) ?_
    repeat walk_at "sx"
    refine st_addS (sz_of (by rw [labc, lone]; decide)) ?_
    repeat walk_at "sx"
    refine st_addS (sz_of (by rw [Str.length_append, labc, lone, ld]; decide)) ?_
    repeat walk_at "sx"
    refine ⟨by show 4 ≤ sizeLine; decide, ?_⟩
    walk_at "new"; rename_i l6 n6 H6 g6 e6
    repeat walk_at "sx"
    have ok6 : Okay K H6 [V.str ⟨#[sg]⟩, V.str (Str.ofString "a" ++ ⟨#[sg]⟩), V.str (⟨#[sg]⟩ ++ Str.ofString "b"), V.str (Str.ofString "abc" ++ ⟨#[sg]⟩ ++ Str.ofString "d")] :=
      okay_str (by rw [lone]; decide) (okay_str (by rw [Str.length_append, la, lone]; decide) (okay_str (by rw [Str.length_append, lb, lone]; decide) (okay_str (by rw [Str.length_append, Str.length_append, labc, lone, ld]; decide) okay_nil)))
    refine st_cat ((g5.trans g6).lst e4) e6 (by show 9 + 4 ≤ sizeLine; decide) ?_
    walk_at "new"; rename_i l7 n7 H7 g7 e7
    have G7 := ((G4.trans g5).trans g6).trans g7
    have ok7 := okay_app (((g5.trans g6).trans g7).okay ok4) (g7.okay ok6)
    have len7 : ([V.str (Str.ofString ""), V.str (Str.ofString "A"), V.str (Str.ofString "abcdefghi"), V.int 7, V.non, V.bl true, V.ref p1, V.ref p2, V.ref p3] ++ [V.str ⟨#[sg]⟩, V.str (Str.ofString "a" ++ ⟨#[sg]⟩), V.str (⟨#[sg]⟩ ++ Str.ofString "b"), V.str (Str.ofString "abc" ++ ⟨#[sg]⟩ ++ Str.ofString "d")] : List V).length = 13 := rfl
    generalize ([V.str (Str.ofString ""), V.str (Str.ofString "A"), V.str (Str.ofString "abcdefghi"), V.int 7, V.non, V.bl true, V.ref p1, V.ref p2, V.ref p3] ++ [V.str ⟨#[sg]⟩, V.str (Str.ofString "a" ++ ⟨#[sg]⟩), V.str (⟨#[sg]⟩ ++ Str.ofString "b"), V.str (Str.ofString "abc" ++ ⟨#[sg]⟩ ++ Str.ofString "d")] : List V) = od at e7 ok7 len7
    repeat walk_at "sx"
    refine ⟨a, ns, 0, rfl, G7.l hS, ?_⟩
    repeat walk_at "sx"
    refine st_I (by show (0 : Int) < 11; decide) ?_
    have c0 := Int.emod_nonneg (cellOf ns 0) (b := 11) (by decide)
    have c1 := Int.emod_lt_of_pos (cellOf ns 0) (b := 11) (by decide)
    repeat walk_at "sx"
    refine st_exR c0 (by omega) ?_
    refine lc_r (fun i => .str (nameOf (cellOf ns (3 + i)))) ?_ ?_ (by omega)
    · intro i H8 hi g8 Qy q
      repeat walk_at "sx"
      refine ⟨a, ns, 3 + i, (by rw [Int.natCast_add] <;> rfl), (G7.trans g8).l hS, ?_⟩
      repeat walk_at "sx"
      exact ⟨_, rfl, fun H9 g9 => q H9 g9⟩
    · intro D H8 n8 g8 e8
      repeat walk_at "sx"
      have e8' : H8 D = some (.lst (((List.range (cellOf ns 0 % 11).toNat).map fun i => nameOf (cellOf ns (3 + i))).map V.str)) := by
        rw [e8, List.map_map] <;> rfl
      have ly : ((List.range (cellOf ns 0 % 11).toNat).map fun i => nameOf (cellOf ns (3 + i))).length ≤ 10 := by
        rw [List.length_map, List.length_range]
        omega
      have hy : ∀ y ∈ ((List.range (cellOf ns 0 % 11).toNat).map fun i => nameOf (cellOf ns (3 + i))), y.length ≤ 20 ∧ PyData.strOk y = true := fun y hy => by
        obtain ⟨i, _, rfl⟩ := List.mem_map.mp hy
        have := nameOf_le (cellOf ns (3 + i))
        exact ⟨by omega, nameOf_ok _⟩
      generalize ((List.range (cellOf ns 0 % 11).toNat).map fun i => nameOf (cellOf ns (3 + i))) = ys at e8' ly hy
      have G8 := G7.trans g8
      refine ⟨a, ns, 0, rfl, G8.l hS, ?_⟩
      repeat walk_at "sx"
      refine st_I ⟨by decide, by decide⟩ ?_
      generalize cellOf ns 0 / 11 = wy
      refine st_cut (fun σ' H' => σ' = [some (.ref a), some (.ref l7), some (.str ⟨#[sg]⟩), some (.ref D), none, some (.int wy), none, none, none, none, none, none, none] ∧ ∃ xs, Gr H7 H' ∧ H' D = some (.lst xs) ∧ Okay K H' xs ∧ xs.length ≤ 10) ?_ ?_
      · repeat walk_at "sx"
        refine st_I (by show (0 : Int) < 3; decide) ?_
        repeat walk_at "sx"
        have stay : ∀ H9, Gr H8 H9 → ∃ xs, Gr H7 H9 ∧ H9 D = some (.lst xs) ∧ Okay K H9 xs ∧ xs.length ≤ 10 := fun H9 g9 =>
          ⟨_, g8.trans g9, g9.lst e8', okay_strs fun y q => (hy y q).1, by rw [List.length_map]; exact ly⟩
        refine ite3 (fun h => ?_) (fun h => ?_)
        · repeat walk_at "sx"
          refine ⟨by show 0 ≤ sizeLine; decide, ?_⟩
          walk_at "new"; rename_i l9 n9 H9 g9 e9
          refine st_neNil (SqL.of (g9.lst e8')) (SqL.of e9) (fun y q => (hy y q).2) ?_
          repeat walk_at "sx"
          refine ite3 (fun h2 => ?_) (fun h2 => ?_)
          · repeat walk_at "sx"
            have G9 := G8.trans g9
            refine ⟨a, ns, 1, rfl, G9.l hS, ?_⟩
            repeat walk_at "sx"
            refine st_I ⟨by decide, by decide⟩ ?_
            repeat walk_at "sx"
            refine st_I (by show (0 : Int) < 13; decide) ?_
            obtain ⟨v, hv, hat⟩ := atI_getV (l := od) (i := cellOf ns 1 / 11 % 13) (Int.emod_nonneg _ (by decide)) (by rw [len7]; exact Int.emod_lt_of_pos _ (by decide))
            refine st_ixL (SqL.of ((g8.trans g9).lst e7)) hat ?_
            repeat walk_at "sx"
            refine ⟨a, ns, 1, rfl, G9.l hS, ?_⟩
            repeat walk_at "sx"
            refine st_lenL (SqL.of (g9.lst e8')) ?_
            have hpos : 0 < (ys.map V.str).length := by
              cases ys with
              | nil => simp at h2
              | cons y r => simp
            refine st_I (by show (0 : Int) < ((ys.map V.str).length : Int); omega) ?_
            have i0 := Int.emod_nonneg (cellOf ns 1) (b := ((ys.map V.str).length : Int)) (by omega)
            have i1 := Int.emod_lt_of_pos (cellOf ns 1) (b := ((ys.map V.str).length : Int)) (by omega)
            refine st_setL (g9.lst e8') (ixN_of i0 i1) ?_
            have gm := (g8.trans g9).mut (o := .lst ((ys.map V.str).set (cellOf ns 1 % ((ys.map V.str).length : Int)).toNat v)) n8
            exact ⟨rfl, _, gm, upd_same, okay_set (okay_strs fun y q => (hy y q).1) (gm.okay ok7 v hv), by rw [List.length_set, List.length_map]; exact ly⟩
          · repeat walk_at "sx"
            exact ⟨rfl, stay H9 g9⟩
        · repeat walk_at "sx"
          exact ⟨rfl, stay H8 (Gr.refl _)⟩
      · rintro σ' H9 ⟨rfl, xs, g9, e9, ok9, l9⟩
        have G9 := G7.trans g9
        have e7' := g9.lst e7
        repeat walk_at "sx"
        refine ⟨a, ns, 2, rfl, G9.l hS, ?_⟩
        repeat walk_at "sx"
        refine st_I (by show (0 : Int) < 13; decide) ?_
        obtain ⟨v, hv, hat⟩ := atI_getV (l := od) (i := cellOf ns 2 % 13) (Int.emod_nonneg _ (by decide)) (by rw [len7]; exact Int.emod_lt_of_pos _ (by decide))
        refine st_ixL (SqL.of e7') hat ?_
        repeat walk_at "sx"
        refine ⟨by show 1 ≤ sizeLine; decide, ?_⟩
        walk_at "new"; rename_i l10 n10 H10 g10 e10
        refine st_cat (g10.lst e9) e10 (by show _ + 1 ≤ sizeLine; exact sz_of (by omega)) ?_
        walk_at "new"; rename_i l11 n11 H11 g11 e11
        have g911 := g10.trans g11
        have G11 := G9.trans g911
        have okv : Okay K H9 (xs ++ [v]) := okay_app ok9 (okay_cons ((g9.okay ok7) v hv).1 ((g9.okay ok7) v hv).2 okay_nil)
        refine st_exL (SqL.of e11) ?_
        refine st_loop (m := (xs ++ [v]).length) (Y := fun i x => (xs ++ [v])[i]? = some x) walk_list (fun i σ H' => Gr H11 H' ∧ ∃ z6 z7 : Option V, σ = [some (.ref a), some (.ref l7), some (.str ⟨#[sg]⟩), some (.ref D), none, some (.int wy), z6, z7, none, none, none, none, none])
          ⟨Gr.refl _, none, none, rfl⟩ (fun i σ H' _ q => SqL.of (q.1.lst e11)) ?_ ?_
        · rintro i x σ H12 hi ⟨g12, z6, z7, rfl⟩ hx
          have hxm := List.mem_of_getElem? hx
          repeat walk_at "sx"
          refine ⟨x, rfl, ((g911.trans g12).okay okv x hxm).1, (G11.trans g12).tab _ hT, fun H13 g13 => ?_⟩
          repeat walk_at "sx"
          refine st_isi (.base (.bl _)) (b := true) (by decide +kernel) ?_
          repeat walk_at "sx"
          refine ⟨x, rfl, (((g911.trans g12).trans g13).okay okv x hxm).1, fun H14 g14 => ?_⟩
          repeat walk_at "sx"
          rw [decide_eq_true rfl]
          repeat walk_at "sx"
          exact ⟨(g12.trans g13).trans g14, _, _, rfl⟩
        · rintro σ H12 ⟨g12, z6, z7, rfl⟩
          have g912 := g911.trans g12
          have G12 := G11.trans g12
          have e9' := g912.lst e9
          have ok12 := g912.okay ok9
          clear e10 e11 e7' hat
          repeat walk_at "sx"
          refine st_listL (SqL.of e9') ?_
          walk_at "new"; rename_i l13 n13 H13 g13 e13
          have G13 := G12.trans g13
          refine st_cut (fun σ' H' => ∃ x, σ' = [some (.ref a), some (.ref l7), some (.str ⟨#[sg]⟩), some (.ref D), none, some (.int wy), z6, z7, some x, none, none, none, none] ∧ Gr H13 H' ∧ PathIn K H' x (some xs)) ?_ ?_
          · repeat walk_at "sx"
            refine st_I ⟨by decide, by decide⟩ ?_
            repeat walk_at "sx"
            refine st_I (by show (0 : Int) < 2; decide) ?_
            repeat walk_at "sx"
            refine ite3 (fun h => ?_) (fun h => ?_)
            · repeat walk_at "sx"
              refine st_tupL (SqL.of (g13.lst e9')) ?_
              walk_at "new"; rename_i l14 n14 H14 g14 e14
              exact ⟨_, rfl, g14, l14, rfl, .inr (SqT.of e14), fun u hu => ((g13.trans g14).okay ok12 u hu).1, by omega⟩
            · repeat walk_at "sx"
              exact ⟨_, rfl, Gr.refl _, l13, rfl, .inl (SqL.of e13), fun u hu => (g13.okay ok12 u hu).1, by omega⟩
          · rintro σ' H14 ⟨x, rfl, g14, hp⟩
            have G14 := G13.trans g14
            have g1214 := g13.trans g14
            repeat walk_at "sx"
            refine ⟨D, x, xs, rfl, SqL.of (g1214.lst e9'), hp, G14.tab _ hT, fun H15 g15 => ?_⟩
            have G15 := G14.trans g15
            repeat walk_at "sx"
            -- a thing that is no path
            refine st_disp1 fun p16 H16 n16 g16 e16 => ?_
            repeat walk_at "sx"
            refine st_dnew fun p17 H17 n17 g17 e17 => ?_
            repeat walk_at "sx"
            refine ⟨by show 6 ≤ sizeLine; decide, ?_⟩
            walk_at "new"; rename_i l18 n18 H18 g18 e18
            have G18 := ((G15.trans g16).trans g17).trans g18
            have no18 : ∀ u ∈ ([V.non, V.str (Str.ofString "a"), V.int 5, V.ref p16, V.ref p17, V.bl true] : List V), PathIn K H18 u none :=
              List.forall_mem_cons.2 ⟨odd_non, List.forall_mem_cons.2 ⟨odd_str, List.forall_mem_cons.2 ⟨odd_int, List.forall_mem_cons.2 ⟨odd_dK ((g17.trans g18).dx e16), List.forall_mem_cons.2 ⟨odd_dK (g18.dx e17), List.forall_mem_cons.2 ⟨odd_bl, fun _ q => by cases q⟩⟩⟩⟩⟩⟩
            repeat walk_at "sx"
            refine ⟨a, ns, 2, rfl, G18.l hS, ?_⟩
            repeat walk_at "sx"
            refine st_I (by show (0 : Int) < 6; decide) ?_
            obtain ⟨u, hu, hat⟩ := atI_getV (l := [V.non, V.str (Str.ofString "a"), V.int 5, V.ref p16, V.ref p17, V.bl true]) (i := cellOf ns 2 % 6) (Int.emod_nonneg _ (by decide)) (Int.emod_lt_of_pos _ (by decide))
            refine st_ixL (SqL.of e18) hat ?_
            have hpu := no18 u hu
            repeat walk_at "sx"
            refine ask_checked (b := true) hpu (G18.tab _ hT) rfl fun H19 g19 => ?_
            repeat walk_at "sx"
            refine ask_written (b := true) (g19.path hpu) ((G18.trans g19).tab _ hT) rfl fun H20 g20 => ?_
            have G20 := (G18.trans g19).trans g20
            repeat walk_at "sx"
            -- a thing that is no text
            refine ⟨by show 1 ≤ sizeLine; decide, ?_⟩
            walk_at "new"; rename_i p21 n21 H21 g21 e21
            repeat walk_at "sx"
            refine ⟨by show 2 ≤ sizeLine; decide, ?_⟩
            walk_at "new"; rename_i p22 n22 H22 g22 e22
            repeat walk_at "sx"
            refine st_dnew fun p23 H23 n23 g23 e23 => ?_
            repeat walk_at "sx"
            refine ⟨by show 6 ≤ sizeLine; decide, ?_⟩
            walk_at "new"; rename_i l24 n24 H24 g24 e24
            have G24 := (((G20.trans g21).trans g22).trans g23).trans g24
            have no24 : ∀ u ∈ ([V.int 5, V.non, V.ref p21, V.ref p22, V.bl true, V.ref p23] : List V), Itm K H24 u ∧ parse u = none :=
              List.forall_mem_cons.2 ⟨⟨itm_int, rfl⟩, List.forall_mem_cons.2 ⟨⟨itm_non, rfl⟩, List.forall_mem_cons.2 ⟨⟨itm_lst (((g22.trans g23).trans g24).lst e21), rfl⟩, List.forall_mem_cons.2 ⟨⟨itm_tup ((g23.trans g24).tup e22), rfl⟩, List.forall_mem_cons.2 ⟨⟨itm_bl, rfl⟩, List.forall_mem_cons.2 ⟨⟨itm_dK (g24.dx e23), rfl⟩, fun _ q => by cases q⟩⟩⟩⟩⟩⟩
            repeat walk_at "sx"
            refine ⟨a, ns, 2, rfl, G24.l hS, ?_⟩
            repeat walk_at "sx"
            refine st_I (by show (0 : Int) < 6; decide) ?_
            obtain ⟨u2, hu2, hat2⟩ := atI_getV (l := [V.int 5, V.non, V.ref p21, V.ref p22, V.bl true, V.ref p23]) (i := cellOf ns 2 % 6) (Int.emod_nonneg _ (by decide)) (Int.emod_lt_of_pos _ (by decide))
            refine st_ixL (SqL.of e24) hat2 ?_
            obtain ⟨hi2, hp2⟩ := no24 u2 hu2
            repeat walk_at "sx"
            refine ask_read (b := true) hi2 (G24.tab _ hT) (by rw [hp2] <;> rfl) fun H25 g25 => ?_
            repeat walk_at "sx"
            -- the text
            have g1225 : Gr H12 H25 := ((((((((((g1214.trans g15).trans g16).trans g17).trans g18).trans g19).trans g20).trans g21).trans g22).trans g23).trans g24).trans g25
            have G25 := G24.trans g25
            refine ⟨a, ns, 2, rfl, G25.l hS, ?_⟩
            repeat walk_at "sx"
            refine st_I ⟨by decide, by decide⟩ ?_
            repeat walk_at "sx"
            refine ⟨a, ns, 1, rfl, G25.l hS, ?_⟩
            repeat walk_at "sx"
            refine ⟨D, xs, _, _, rfl, SqL.of (g1225.lst e9'), fun u hu => (g1225.okay ok12 u hu).1, fun z hz => (ok12 _ hz).2 z rfl, l9, fun z H26 g26 hz => ?_⟩
            have G26 := G25.trans g26
            repeat walk_at "sx"
            refine ⟨z, rfl, by omega, ?_⟩
            cases ho : parse (.str z) with
            | none =>
              intro H27 g27
              have G27 := G26.trans g27
              repeat walk_at "sx"
              refine ask_read (b := true) (itm_str (by omega)) (G27.tab _ hT) (by rw [ho] <;> rfl) fun H28 g28 => ?_
              repeat walk_at "sx"
              rw [decide_eq_true rfl]
              repeat walk_at "sx"
              exact k _
            | some zs =>
              intro l27 H27 n27 g27 e27
              have G27 := G26.trans g27
              repeat walk_at "sx"
              refine ask_read (b := false) (itm_str (by omega)) (G27.tab _ hT) (by rw [ho] <;> rfl) fun H28 g28 => ?_
              repeat walk_at "sx"
              rw [show decide (V.ref l27 = V.non) = false from decide_eq_false (by intro q; cases q)]
              repeat walk_at "sx"
              refine ⟨_, rfl, itm_str (by omega), (G27.trans g28).tab _ hT, ?_⟩
              rw [ho]
              intro l29 H29 n29 g29 e29
              repeat walk_at "sx"
              have := parse_len ho
              exact ⟨l29, l27, zs, rfl, SqL.of e29, SqL.of ((g28.trans g29).lst e27), by omega, fun H30 _ => k H30⟩
end
theorem walk_tabs {l : PySem.W.OpenLaw} {n k : Nat} {q : Program} {loose : List Str} {XP : (Str → Option Value) → Heap → Prop} {YP : World → Heap → Prop} {d : DefRec} {K : Params → PySem.W.Frag} {CX : World → CXT} {x : Str}
    (hn : l.most = some n) (hn2 : n ≤ sizeLine) (hdf : d.params.defaults = []) (hr : Room k callerA) (hY : ∀ (w : World) (h : Heap), YP w h → (K w.params).In h)
    (F : ∀ (w : World) (mg : Str → Option Value) (fa : Addr) (h : Heap), (K w.params).In h → h.Ns mainGlobals mg → mg d.name = some (.ref fa) →
      (∀ (y : Str) (d' : DefRec) (c P : Addr), (recsOf q).find? (fun e => e.name == y) = some d' → PySem.W.tabIn (K w.params) y = some (c, P) → PySem.W.CodeHd h c P ∧ h.get? P = some { cls := .none, data := .fields #[] }) → LamX.LawAtS l w (K w.params) (CX w) k n x mg fa h)
    (hCX : ∀ (w : World) (H : Hp) (s : Shared) (e : Value) (s' : Shared), CX w [] H s (fun _ _ _ => False) e s' → False) : PySem.W.WalkO q loose XP YP l.row.toRowW d [] (fun f vs => PySem.call f vs) := by
  refine Att.attach_callB hn hdf fun w s₀ s₁ mg mb fa o pm cd doc a vs ns G Y ho hd hcd hmg hobj hints hlen hbits hg => ?_
  obtain ⟨fd, cs, sp, hT, nT, C, hb, hsp, hF⟩ := F w mg fa _ (hY w _ Y) G.T.g hmg (fun y d' c P h1 h2 => PySem.W.tab_of G.T (hY w _ Y) h1 h2)
  exact LamX.law_callTs (hY w _ Y) G.T.g G.T.b G.T.builtins G.T.nolimit hg hT nT C G.T.bmain hobj hints (Nat.le_trans hlen hn2) hr hF hb (fun H hH hS => hsp H a ns hlen hbits hH hS) fun H e s' => hCX w H s₁ e s'
theorem all_mk {l : PySem.W.OpenLaw} {q : Program} {w : World} {K : PySem.W.Frag} {h : Heap} {mg : Str → Option Value} {fa S B Cd Pt : Addr} {f0 f1 f2 f3 f4 f5 f6 f7 f8 f9 f10 f11 f12 f13 : Addr} (X : K.In h) (G : h.Ns mainGlobals mg) (hfa : mg "law" = some (.ref fa))
    (Tb : ∀ (y : Str) (d' : DefRec) (c P : Addr), (recsOf q).find? (fun e => e.name == y) = some d' → PySem.W.tabIn K y = some (c, P) → PySem.W.CodeHd h c P ∧ h.get? P = some { cls := .none, data := .fields #[] }) (hq : ((recsOf q).find? (fun e => e.name == ("is_name" : Str))).isSome = true)
    {od0 an0 od1 an1 od2 an2 od3 an3 od4 an4 od5 an5 od6 an6 od7 an7 od8 an8 od9 an9 od10 an10 od11 an11 od12 an12 od13 an13 : Option Addr} {sl0 sl1 sl2 sl3 sl4 sl5 sl6 sl7 sl8 sl9 sl10 sl11 sl12 sl13 : Array (Option Value)} {oc0 kV0 dc0 pm0 ct0 cd0 oc1 kV1 dc1 pm1 ct1 cd1 oc2 kV2 dc2 pm2 ct2 cd2 oc3 kV3 dc3 pm3 ct3 oc4 kV4 dc4 pm4 ct4 cd4 oc5 kV5 dc5 pm5 ct5 cd5 oc6 kV6 dc6 pm6 ct6 cd6 oc7 kV7 dc7 pm7 ct7 cd7 oc8 kV8 dc8 pm8 ct8 cd8 oc9 kV9 dc9 pm9 ct9 cd9 oc10 kV10 dc10 pm10 ct10 cd10 oc11 kV11 dc11 pm11 ct11 cd11 oc12 kV12 dc12 pm12 ct12 cd12 oc13 kV13 dc13 pm13 ct13 cd13 : Value}
    (a0 : PySem.W.nsIn K mainGlobals "_law_cell_at" = some (some (.ref f0))) (l0 : K.lookup f0 = some ⟨oc0, od0, .func (PySem.W.fnOf "_law_cell_at" "_law_cell_at" (defArgs scell) (defBody scell) (defScope scell) .none kV0 dc0 pm0 an0 cd0 ct0), sl0⟩) (c0 : PySem.W.codeIn K cd0 "_law_cell_at" = true) (k0 : PySem.W.keepIn K (.ref f0) = true)
    (a1 : PySem.W.nsIn K mainGlobals "_law_name_by" = some (some (.ref f1))) (l1 : K.lookup f1 = some ⟨oc1, od1, .func (PySem.W.fnOf "_law_name_by" "_law_name_by" (defArgs snameBy) (defBody snameBy) (defScope snameBy) .none kV1 dc1 pm1 an1 cd1 ct1), sl1⟩) (c1 : PySem.W.codeIn K cd1 "_law_name_by" = true) (k1 : PySem.W.keepIn K (.ref f1) = true)
    (a2 : PySem.W.nsIn K mainGlobals "_law_sign_by" = some (some (.ref f2))) (l2 : K.lookup f2 = some ⟨oc2, od2, .func (PySem.W.fnOf "_law_sign_by" "_law_sign_by" (defArgs ssignBy) (defBody ssignBy) (defScope ssignBy) .none kV2 dc2 pm2 an2 cd2 ct2), sl2⟩) (c2 : PySem.W.codeIn K cd2 "_law_sign_by" = true) (k2 : PySem.W.keepIn K (.ref f2) = true)
    (a3 : PySem.W.nsIn K mainGlobals "is_name" = some (some (.ref f3))) (l3 : K.lookup f3 = some ⟨oc3, od3, .func (PySem.W.fnOf "is_name" "is_name" (defArgs sisName) (defBody sisName) (defScope sisName) .none kV3 dc3 pm3 an3 (.ref Cd) ct3), sl3⟩) (c3 : PySem.W.codeIn K (.ref Cd) "is_name" = true) (k3 : PySem.W.keepIn K (.ref f3) = true)
    (a4 : PySem.W.nsIn K mainGlobals "checked" = some (some (.ref f4))) (l4 : K.lookup f4 = some ⟨oc4, od4, .func (PySem.W.fnOf "checked" "checked" (defArgs schecked) (defBody schecked) (defScope schecked) .none kV4 dc4 pm4 an4 cd4 ct4), sl4⟩) (c4 : PySem.W.codeIn K cd4 "checked" = true) (k4 : PySem.W.keepIn K (.ref f4) = true)
    (a5 : PySem.W.nsIn K mainGlobals "written" = some (some (.ref f5))) (l5 : K.lookup f5 = some ⟨oc5, od5, .func (PySem.W.fnOf "written" "written" (defArgs swritten) (defBody swritten) (defScope swritten) .none kV5 dc5 pm5 an5 cd5 ct5), sl5⟩) (c5 : PySem.W.codeIn K cd5 "written" = true) (k5 : PySem.W.keepIn K (.ref f5) = true)
    (a6 : PySem.W.nsIn K mainGlobals "read" = some (some (.ref f6))) (l6 : K.lookup f6 = some ⟨oc6, od6, .func (PySem.W.fnOf "read" "read" (defArgs sread) (defBody sread) (defScope sread) .none kV6 dc6 pm6 an6 cd6 ct6), sl6⟩) (c6 : PySem.W.codeIn K cd6 "read" = true) (k6 : PySem.W.keepIn K (.ref f6) = true)
    (a7 : PySem.W.nsIn K mainGlobals "_law_is_name" = some (some (.ref f7))) (l7 : K.lookup f7 = some ⟨oc7, od7, .func (PySem.W.fnOf "_law_is_name" "_law_is_name" (defArgs sisNameL) (defBody sisNameL) (defScope sisNameL) .none kV7 dc7 pm7 an7 cd7 ct7), sl7⟩) (c7 : PySem.W.codeIn K cd7 "_law_is_name" = true) (k7 : PySem.W.keepIn K (.ref f7) = true)
    (a8 : PySem.W.nsIn K mainGlobals "_law_refused" = some (some (.ref f8))) (l8 : K.lookup f8 = some ⟨oc8, od8, .func (PySem.W.fnOf "_law_refused" "_law_refused" (defArgs srefused) (defBody srefused) (defScope srefused) .none kV8 dc8 pm8 an8 cd8 ct8), sl8⟩) (c8 : PySem.W.codeIn K cd8 "_law_refused" = true) (k8 : PySem.W.keepIn K (.ref f8) = true)
    (a9 : PySem.W.nsIn K mainGlobals "_law_names" = some (some (.ref f9))) (l9 : K.lookup f9 = some ⟨oc9, od9, .func (PySem.W.fnOf "_law_names" "_law_names" (defArgs snamesL) (defBody snamesL) (defScope snamesL) .none kV9 dc9 pm9 an9 cd9 ct9), sl9⟩) (c9 : PySem.W.codeIn K cd9 "_law_names" = true) (k9 : PySem.W.keepIn K (.ref f9) = true)
    (a10 : PySem.W.nsIn K mainGlobals "_law_text_due" = some (some (.ref f10))) (l10 : K.lookup f10 = some ⟨oc10, od10, .func (PySem.W.fnOf "_law_text_due" "_law_text_due" (defArgs stextDue) (defBody stextDue) (defScope stextDue) .none kV10 dc10 pm10 an10 cd10 ct10), sl10⟩) (c10 : PySem.W.codeIn K cd10 "_law_text_due" = true) (k10 : PySem.W.keepIn K (.ref f10) = true)
    (a11 : PySem.W.nsIn K mainGlobals "_law_checked" = some (some (.ref f11))) (l11 : K.lookup f11 = some ⟨oc11, od11, .func (PySem.W.fnOf "_law_checked" "_law_checked" (defArgs scheckedL) (defBody scheckedL) (defScope scheckedL) .none kV11 dc11 pm11 an11 cd11 ct11), sl11⟩) (c11 : PySem.W.codeIn K cd11 "_law_checked" = true) (k11 : PySem.W.keepIn K (.ref f11) = true)
    (a12 : PySem.W.nsIn K mainGlobals "_law_line" = some (some (.ref f12))) (l12 : K.lookup f12 = some ⟨oc12, od12, .func (PySem.W.fnOf "_law_line" "_law_line" (defArgs slineL) (defBody slineL) (defScope slineL) .none kV12 dc12 pm12 an12 cd12 ct12), sl12⟩) (c12 : PySem.W.codeIn K cd12 "_law_line" = true) (k12 : PySem.W.keepIn K (.ref f12) = true)
    (a13 : PySem.W.nsIn K mainGlobals "law" = some (some (.ref f13))) (l13 : K.lookup f13 = some ⟨oc13, od13, .func (PySem.W.fnOf "law" "law" (defArgs slaw) (defBody slaw) (defScope slaw) .none kV13 dc13 pm13 an13 cd13 ct13), sl13⟩) (c13 : PySem.W.codeIn K cd13 "law" = true) (k13 : PySem.W.keepIn K (.ref f13) = true)
    (z_len : PySem.W.nsIn K mainGlobals "len" = some none) (z_isinstance : PySem.W.nsIn K mainGlobals "isinstance" = some none) (z_all : PySem.W.nsIn K mainGlobals "all" = some none) (z_range : PySem.W.nsIn K mainGlobals "range" = some none) (z_str : PySem.W.nsIn K mainGlobals "str" = some none) (z_list : PySem.W.nsIn K mainGlobals "list" = some none) (z_tuple : PySem.W.nsIn K mainGlobals "tuple" = some none) (z_bool : PySem.W.nsIn K mainGlobals "bool" = some none) (z_ValueError : PySem.W.nsIn K mainGlobals "ValueError" = some none)
    {t1 t2 : Tok} (cN : PySem.W.nsIn K mainGlobals "LONGEST_NAME" = some (some (.int 8 t1))) (cP : PySem.W.nsIn K mainGlobals "LONGEST_PATH" = some (some (.int 8 t2))) (aS : PySem.W.nsIn K mainGlobals "SnapError" = some (some (.ref S))) (aB : PySem.W.nsIn K mainGlobals "BadPath" = some (some (.ref B)))
    {ocd : Value} {odd : Option Addr} {vcd : Array Value} {slc : Array (Option Value)} (lC : K.lookup Cd = some ⟨ocd, odd, .fields vcd, slc⟩) (vC : vcd[11]? = some (.ref Pt)) (nP : K.lookup Pt = none)
    (xB : PySem.W.excIn K B [.type "ValueError", .type "Exception", .type "BaseException", .type "object"] "ValueError.__new__" = true) (kB : PySem.W.keepIn K (.ref B) = true) (bB : PySem.W.subIn K (.ref B) (.type "BaseException") = some true) (tB : PySem.W.typeIn K (.ref B) = some (.type "type"))
    (sB : PySem.W.subIn K (.ref B) (.ref B) = some true) (g1 : PySem.W.findIn K (.ref B) "__getattribute__" = some (some (.builtin "BaseException.__getattribute__"))) (g2 : PySem.W.findIn K (.ref B) "__getattr__" = some none) (g3 : PySem.W.hasDictIn K B = true) (g4 : PySem.W.findIn K (.ref B) "__class__" = some (some (.builtin "object.__class__")))
    (g5 : PySem.W.specialIn K (.builtin "object.__class__") "__get__" = some (some (.builtin "getset_descriptor.__get__"))) (g6 : PySem.W.takesIn K (.builtin "object.__class__") = some true) (g7 : PySem.W.mroIn K B (.type "object") = some true) (i1 : PySem.W.kitOne K (.ref B) (.ref S) = some true) (i2 : PySem.W.kitOne K (.ref B) (.type "ValueError") = some true) :
    LamX.LawAtS l w K (L2.CX l.prog w) 6 63 "_law_script" mg fa h := by
  have e := hfa.symm.trans (PySem.W.mg_of X G a13)
  cases e
  obtain ⟨dN, hdN⟩ := Option.isSome_iff_exists.mp hq
  have ht : PySem.W.tabIn K "is_name" = some (Cd, Pt) := by
    unfold PySem.W.tabIn
    rw [a3]; dsimp only; rw [l3]; dsimp only [PySem.W.fnOf]; rw [lC]; dsimp only; rw [vC]
  obtain ⟨hC, hP⟩ := Tb "is_name" dN Cd Pt hdN ht
  have T : Txt K mg S B f4 f5 f6 :=
    { len := PySem.W.mg_none_of X G z_len, isinstance := PySem.W.mg_none_of X G z_isinstance, all := PySem.W.mg_none_of X G z_all, range := PySem.W.mg_none_of X G z_range, str := PySem.W.mg_none_of X G z_str, list := PySem.W.mg_none_of X G z_list, tuple := PySem.W.mg_none_of X G z_tuple, bool := PySem.W.mg_none_of X G z_bool, ValueError := PySem.W.mg_none_of X G z_ValueError, mg_LONGEST_NAME := ⟨_, PySem.W.mg_of X G cN⟩, mg_LONGEST_PATH := ⟨_, PySem.W.mg_of X G cP⟩, mg_SnapError := PySem.W.mg_of X G aS, mg_BadPath := PySem.W.mg_of X G aB,
      mg_checked := PySem.W.mg_of X G a4, mg_written := PySem.W.mg_of X G a5, mg_read := PySem.W.mg_of X G a6, x_BadPath := xB, k_BadPath := kB, b_BadPath := bB, t_BadPath := tB, e_BadPath := PySem.W.exm_ref bB g3 tB sB, c_BadPath := ⟨g1, g2, bB, g3, g4, g5, g6, g7⟩, s_BadPath := i1, v_BadPath := i2 }
  refine ⟨PySem.W.fnOf "law" "law" (defArgs slaw) (defBody slaw) (defScope slaw) .none kV13 dc13 pm13 an13 cd13 ct13, [(Cd, Pt)], spLaw K Pt, fun p hp => ?_, fun p hp => ?_, fun p hp => ?_, fun s u => .of_eq rfl, fun H a ns _ _ hH hS => ⟨a, ns, rfl, hS, ⟨#[], hH _ List.mem_cons_self, True.intro⟩, fun _ => rfl⟩, fun base KB GB TB => ?_⟩
  · rw [List.mem_singleton.mp hp]
    exact hP
  · rw [List.mem_singleton.mp hp]
    exact nP
  · rw [List.mem_singleton.mp hp]
    exact hC
  · have tb := TB _ List.mem_cons_self
    have tb : GxR.TabB base mg Cd Pt := ⟨tb.code, tb.bm, tb.gP⟩
    have F0 := fun_mk (st := scell) l0 c0 k0
    have b0 := F0.binds (ps := ["_law_script", "_law_k"]) fun _ _ _ _ _ _ us hl => match us, hl with | [_, _], _ => rfl
    have F1 := fun_mk (st := snameBy) l1 c1 k1
    have b1 := F1.binds (ps := ["_law_cell"]) fun _ _ _ _ _ _ us hl => match us, hl with | [_], _ => rfl
    have F2 := fun_mk (st := ssignBy) l2 c2 k2
    have b2 := F2.binds (ps := ["_law_cell"]) fun _ _ _ _ _ _ us hl => match us, hl with | [_], _ => rfl
    have F3 := fun_mk (st := sisName) l3 c3 k3
    have b3 := F3.binds (ps := ["thing"]) fun _ _ _ _ _ _ us hl => match us, hl with | [_], _ => rfl
    have F4 := fun_mk (st := schecked) l4 c4 k4
    have b4 := F4.binds (ps := ["path"]) fun _ _ _ _ _ _ us hl => match us, hl with | [_], _ => rfl
    have F5 := fun_mk (st := swritten) l5 c5 k5
    have b5 := F5.binds (ps := ["path"]) fun _ _ _ _ _ _ us hl => match us, hl with | [_], _ => rfl
    have F6 := fun_mk (st := sread) l6 c6 k6
    have b6 := F6.binds (ps := ["line"]) fun _ _ _ _ _ _ us hl => match us, hl with | [_], _ => rfl
    have F7 := fun_mk (st := sisNameL) l7 c7 k7
    have b7 := F7.binds (ps := ["_law_thing"]) fun _ _ _ _ _ _ us hl => match us, hl with | [_], _ => rfl
    have F8 := fun_mk (st := srefused) l8 c8 k8
    have b8 := F8.binds (ps := ["_law_ask", "_law_thing"]) fun _ _ _ _ _ _ us hl => match us, hl with | [_, _], _ => rfl
    have F9 := fun_mk (st := snamesL) l9 c9 k9
    have b9 := F9.binds (ps := ["_law_seen", "_law_due"]) fun _ _ _ _ _ _ us hl => match us, hl with | [_, _], _ => rfl
    have F10 := fun_mk (st := stextDue) l10 c10 k10
    have b10 := F10.binds (ps := ["_law_line_here"]) fun _ _ _ _ _ _ us hl => match us, hl with | [_], _ => rfl
    have F11 := fun_mk (st := scheckedL) l11 c11 k11
    have b11 := F11.binds (ps := ["_law_names_here", "_law_handed"]) fun _ _ _ _ _ _ us hl => match us, hl with | [_, _], _ => rfl
    have F12 := fun_mk (st := slineL) l12 c12 k12
    have b12 := F12.binds (ps := ["_law_names_here", "_law_cell", "_law_place"]) fun _ _ _ _ _ _ us hl => match us, hl with | [_, _, _], _ => rfl
    have F13 := fun_mk (st := slaw) l13 c13 k13
    have cCell : Df l.prog w K mg base 1 "_law_cell_at" ["_law_script", "_law_k"] (spCell K) := ⟨⟨_, _, ok_cell F0 T, PySem.W.mg_of X G a0, k0, b0⟩⟩
    have cNameBy : Df l.prog w K mg base 1 "_law_name_by" ["_law_cell"] spNameBy := ⟨⟨_, _, ok_nameBy F1 T, PySem.W.mg_of X G a1, k1, b1⟩⟩
    have cSignBy : Df l.prog w K mg base 1 "_law_sign_by" ["_law_cell"] spSignBy := ⟨⟨_, _, ok_signBy F2 T, PySem.W.mg_of X G a2, k2, b2⟩⟩
    have cIsName : Df l.prog w K mg base 1 "is_name" ["thing"] (spIsName K Pt) := ⟨⟨_, _, ok_isName l3 c3 tb T, PySem.W.mg_of X G a3, k3, b3⟩⟩
    have cChecked : Df l.prog w K mg base 2 "checked" ["path"] (spChecked K Pt B) := ⟨⟨_, _, ok_checked F4 T cIsName, PySem.W.mg_of X G a4, k4, b4⟩⟩
    have cWritten : Df l.prog w K mg base 3 "written" ["path"] (spWritten K Pt B) := ⟨⟨_, _, ok_written F5 T cChecked, PySem.W.mg_of X G a5, k5, b5⟩⟩
    have cRead : Df l.prog w K mg base 3 "read" ["line"] (spRead K Pt B) := ⟨⟨_, _, ok_read F6 T cChecked, PySem.W.mg_of X G a6, k6, b6⟩⟩
    have cIsNameL : Df l.prog w K mg base 1 "_law_is_name" ["_law_thing"] (spIsNameL K) := ⟨⟨_, _, ok_isNameL F7 T, PySem.W.mg_of X G a7, k7, b7⟩⟩
    have cNamesL : Df l.prog w K mg base 1 "_law_names" ["_law_seen", "_law_due"] (spNamesL K) := ⟨⟨_, _, ok_namesL F9 T, PySem.W.mg_of X G a9, k9, b9⟩⟩
    have cTextDue : Df l.prog w K mg base 2 "_law_text_due" ["_law_line_here"] (spTextDue K) := ⟨⟨_, _, ok_textDue F10 T cIsNameL, PySem.W.mg_of X G a10, k10, b10⟩⟩
    have cLineL : Df l.prog w K mg base 2 "_law_line" ["_law_names_here", "_law_cell", "_law_place"] (spLineL K) := ⟨⟨_, _, ok_lineL F12 T cSignBy, PySem.W.mg_of X G a12, k12, b12⟩⟩
    have held : ∀ f sp, Asked K Pt B f4 f5 f6 f sp → HeldX l.prog w K mg base 3 f sp := by
      rintro f sp (⟨rfl, rfl⟩ | ⟨rfl, rfl⟩ | ⟨rfl, rfl⟩)
      · exact ⟨_, _, (ok_checked F4 T cIsName).mono (by decide), k4, b4⟩
      · exact ⟨_, _, ok_written F5 T cChecked, k5, b5⟩
      · exact ⟨_, _, ok_read F6 T cChecked, k6, b6⟩
    have cRefused : Df l.prog w K mg base 4 "_law_refused" ["_law_ask", "_law_thing"] (spRefusedX B (Asked K Pt B f4 f5 f6)) := ⟨⟨_, _, ok_refused F8 T held, PySem.W.mg_of X G a8, k8, b8⟩⟩
    have cCheckedL : Df l.prog w K mg base 5 "_law_checked" ["_law_names_here", "_law_handed"] (spCheckedL K Pt) := ⟨⟨_, _, ok_checkedL F11 T cIsNameL cRefused cChecked cWritten cNamesL, PySem.W.mg_of X G a11, k11, b11⟩⟩
    exact ok_law F13 T ⟨cCell, cNameBy, cSignBy, cIsName, cIsNameL, cRefused, cCheckedL, cLineL, cTextDue, cRead, cNamesL⟩
end My
open PySem PySem.W PyProof.Rows in
set_option maxRecDepth 100000 in
set_option maxHeartbeats 0 in
theorem PySem.Challenge.cw_snaptree_k01_paths_written_holds : PySem.Challenge.rw_snaptree_k01_paths_written.Holds := by
  w_on; o_law; k_head; (case hw => w_witness2)
  k_fill
  refine My.walk_tabs (n := 63) (k := 6) (x := "_law_script") (CX := fun w => L2.CX PySem.Challenge.rw_snaptree_k01_paths_written.prog w) rfl (by decide) rfl ⟨rfl, by decide, by decide⟩ (fun w h Y => PySem.W.kIn_of Y) ?F ?CX
  case CX =>
    intro w H s e s' h
    obtain ⟨_, _, _, _, _, _, _, _, _, _, _, _, z⟩ := h
    exact z.elim
  case F =>
    intro w mg fa h KX G hmg Tb
    refine' My.all_mk KX G hmg Tb ?hq ?a0 ?l0 ?c0 ?k0 ?a1 ?l1 ?c1 ?k1 ?a2 ?l2 ?c2 ?k2 ?a3 ?l3 ?c3 ?k3 ?a4 ?l4 ?c4 ?k4 ?a5 ?l5 ?c5 ?k5 ?a6 ?l6 ?c6 ?k6 ?a7 ?l7 ?c7 ?k7 ?a8 ?l8 ?c8 ?k8 ?a9 ?l9 ?c9 ?k9 ?a10 ?l10 ?c10 ?k10 ?a11 ?l11 ?c11 ?k11 ?a12 ?l12 ?c12 ?k12 ?a13 ?l13 ?c13 ?k13 ?z_len ?z_isinstance ?z_all ?z_range ?z_str ?z_list ?z_tuple ?z_bool ?z_ValueError ?cN ?cP ?aS ?aB ?lC ?vC ?nP ?xB ?kB ?bB ?tB ?sB ?g1 ?g2 ?g3 ?g4 ?g5 ?g6 ?g7 ?i1 ?i2
    (case hq => decide +kernel)
    (case a0 => k_is)
    (case l0 => k_is)
    (case c0 => k_is)
    (case k0 => k_is)
    (case a1 => k_is)
    (case l1 => k_is)
    (case c1 => k_is)
    (case k1 => k_is)
    (case a2 => k_is)
    (case l2 => k_is)
    (case c2 => k_is)
    (case k2 => k_is)
    (case a3 => k_is)
    (case l3 => k_is)
    (case c3 => k_is)
    (case k3 => k_is)
    (case a4 => k_is)
    (case l4 => k_is)
    (case c4 => k_is)
    (case k4 => k_is)
    (case a5 => k_is)
    (case l5 => k_is)
    (case c5 => k_is)
    (case k5 => k_is)
    (case a6 => k_is)
    (case l6 => k_is)
    (case c6 => k_is)
    (case k6 => k_is)
    (case a7 => k_is)
    (case l7 => k_is)
    (case c7 => k_is)
    (case k7 => k_is)
    (case a8 => k_is)
    (case l8 => k_is)
    (case c8 => k_is)
    (case k8 => k_is)
    (case a9 => k_is)
    (case l9 => k_is)
    (case c9 => k_is)
    (case k9 => k_is)
    (case a10 => k_is)
    (case l10 => k_is)
    (case c10 => k_is)
    (case k10 => k_is)
    (case a11 => k_is)
    (case l11 => k_is)
    (case c11 => k_is)
    (case k11 => k_is)
    (case a12 => k_is)
    (case l12 => k_is)
    (case c12 => k_is)
    (case k12 => k_is)
    (case a13 => k_is)
    (case l13 => k_is)
    (case c13 => k_is)
    (case k13 => k_is)
    (case z_len => k_is)
    (case z_isinstance => k_is)
    (case z_all => k_is)
    (case z_range => k_is)
    (case z_str => k_is)
    (case z_list => k_is)
    (case z_tuple => k_is)
    (case z_bool => k_is)
    (case z_ValueError => k_is)
    (case cN => k_is)
    (case cP => k_is)
    (case aS => k_is)
    (case aB => k_is)
    (case lC => k_is)
    (case vC => rfl)
    (case nP => first | rfl | kernel_rfl | decide +kernel)
    (case xB => k_exc)
    (case kB => k_is)
    (case bB => k_is)
    (case tB => k_is)
    (case sB => first | rfl | k_is)
    (case g1 => k_is)
    (case g2 => k_is)
    (case g3 => k_is)
    (case g4 => k_is)
    (case g5 => k_is)
    (case g6 => k_is)
    (case g7 => k_is)
    (case i1 => kit_is)
    (case i2 => kit_is)
#print axioms PySem.Challenge.cw_snaptree_k01_paths_written_holds
