import PyProof.Rows.All
import Wide.All
import OpenK.AllK
import Wide.FinOn
import HandS.ForMost
import HandS.Exc
import HandS.ExcOwn
import HandS.TryOnly
import HandS.WordsExc
import HandS.IsInst
import HandS.ExcIs
import HandS.AnyAll
import HandS.EndTab
import HandS.EndOwn
import HandS.More
import HandS.Walk
import PyProof.Rows.SortShell
import HandS.SortOrd
import HandS.SortRule
import HandS.SortInts
import HandS.Flow
import PySem.Challenge.RW_snaptree_k02_rows_placed
set_option Elab.async false
set_option linter.all false
set_option maxRecDepth 100000
set_option maxHeartbeats 4000000
namespace My
open PySem PySem.Spec PyProof.Rows L2

/-! ### heaps: tables may grow, all else that is tracked stays -/
structure Gr (H H' : Hp) : Prop where
  keep : ∀ b o, H b = some o → (∀ ps, o ≠ HO.tbl ps) → H' b = some o
  tab : ∀ b, GxR.TabG H b → GxR.TabG H' b
  there : ∀ b o, H b = some o → ∃ o', H' b = some o'
theorem Gr.refl (H : Hp) : Gr H H := ⟨fun _ _ h _ => h, fun _ h => h, fun _ o h => ⟨o, h⟩⟩
theorem Gr.trans {H H1 H2 : Hp} (a : Gr H H1) (b : Gr H1 H2) : Gr H H2 :=
  ⟨fun c o h n => b.keep c o (a.keep c o h n) n, fun c h => b.tab c (a.tab c h), fun c o h => by
    obtain ⟨o1, h1⟩ := a.there c o h
    exact b.there c o1 h1⟩
theorem Gr.new {H : Hp} {p : Addr} {o : HO} (h : H p = none) : Gr H (upd H p o) :=
  ⟨fun b u e _ => by rw [upd_ne (ne_of_none e h)]; exact e,
   fun b ⟨ps, e, t⟩ => ⟨ps, by rw [upd_ne (ne_of_none e h)]; exact e, t⟩,
   fun b u e => ⟨u, by rw [upd_ne (ne_of_none e h)]; exact e⟩⟩
/-- a change of an object that the elder heap doesn't know -/
theorem Gr.mut {H H' : Hp} {p : Addr} {o : HO} (g : Gr H H') (h : H p = none) : Gr H (upd H' p o) :=
  ⟨fun b u e n => by rw [upd_ne (ne_of_none e h)]; exact g.keep b u e n,
   fun b t => by
    obtain ⟨ps, e, z⟩ := t
    obtain ⟨ps', e', z'⟩ := g.tab b ⟨ps, e, z⟩
    exact ⟨ps', by rw [upd_ne (ne_of_none e h)]; exact e', z'⟩,
   fun b u e => by
    rw [upd_ne (ne_of_none e h)]
    exact g.there b u e⟩
theorem Gr.tabbed {P : Addr} {H H' : Hp} (t : GxR.TabG H P) (h : GxR.Tabbed P H H') : Gr H H' := by
  obtain ⟨t', k⟩ := h
  obtain ⟨ps, e, z⟩ := t
  refine ⟨fun b o eb n => ?_, fun b tb => ?_, fun b o eb => ?_⟩
  · rw [k b fun q => ?_]
    · exact eb
    · rw [q, e] at eb
      exact n ps (Option.some.inj eb).symm
  · by_cases hb : b = P
    · rw [hb]
      exact t'
    · obtain ⟨qs, eq, zq⟩ := tb
      exact ⟨qs, by rw [k b hb]; exact eq, zq⟩
  · by_cases hb : b = P
    · rw [hb]
      obtain ⟨qs, eq, zq⟩ := t'
      exact ⟨_, eq⟩
    · exact ⟨o, by rw [k b hb]; exact eb⟩
theorem Gr.free {H H' : Hp} {p : Addr} (g : Gr H H') (h : H' p = none) : H p = none := by
  cases e : H p with
  | none => rfl
  | some o =>
    obtain ⟨o', e'⟩ := g.there p o e
    rw [e'] at h
    cases h
theorem Gr.l {K : PySem.W.Frag} {H H' : Hp} {a : Addr} {xs : List V} (g : Gr H H') (h : SqL K H a xs) : SqL K H' a xs := by
  rcases h with (h | ⟨o, h⟩) | h
  · exact .inl (.inl (g.keep _ _ h (fun _ z => by cases z)))
  · exact .inl (.inr ⟨o, g.keep _ _ h (fun _ z => by cases z)⟩)
  · exact .inr h
theorem Gr.t {K : PySem.W.Frag} {H H' : Hp} {a : Addr} {xs : List V} (g : Gr H H') (h : SqT K H a xs) : SqT K H' a xs := by
  rcases h with (h | ⟨o, h⟩) | h
  · exact .inl (.inl (g.keep _ _ h (fun _ z => by cases z)))
  · exact .inl (.inr ⟨o, g.keep _ _ h (fun _ z => by cases z)⟩)
  · exact .inr h
theorem Gr.lst {H H' : Hp} {a : Addr} {xs : List V} (g : Gr H H') (h : H a = some (.lst xs)) : H' a = some (.lst xs) := g.keep _ _ h (fun _ z => by cases z)
theorem Gr.tup {H H' : Hp} {a : Addr} {xs : List V} (g : Gr H H') (h : H a = some (.tup xs)) : H' a = some (.tup xs) := g.keep _ _ h (fun _ z => by cases z)
theorem Gr.dK {H H' : Hp} {a : Addr} {xs : List (Key × V)} (g : Gr H H') (h : H a = some (.dK xs)) : H' a = some (.dK xs) := g.keep _ _ h (fun _ z => by cases z)
/-- the things whose kind a law asks: built-in kinds -/
theorem Gr.ty {K : PySem.W.Frag} {H H' : Hp} {x : V} {m : Value} (g : Gr H H') (h : TyX K H x m) : TyX K H' x m := by
  have nt : ∀ (o : HO), (∀ ps, o ≠ .tbl ps) → ∀ a, H a = some o → H' a = some o := fun o n a e => g.keep a o e n
  cases h with
  | base b =>
    cases b with
    | non => exact .base .non
    | bl b => exact .base (.bl b)
    | int i => exact .base (.int i)
    | str z => exact .base (.str z)
    | flt z => exact .base (.flt z)
    | lst e => exact .base (.lst (nt _ (fun _ z => by cases z) _ e))
    | frz e => exact .base (.frz (nt _ (fun _ z => by cases z) _ e))
    | tup e => exact .base (.tup (nt _ (fun _ z => by cases z) _ e))
    | dK e => exact .base (.dK (nt _ (fun _ z => by cases z) _ e))
    | dT e => exact .base (.dT (nt _ (fun _ z => by cases z) _ e))
    | ins e cl ha hn htk hm => exact .base (.ins (nt _ (fun _ z => by cases z) _ e) cl ha hn htk hm)
  | byt b => exact .byt b
  | set e => exact .set (nt _ (fun _ z => by cases z) _ e)
  | kList e c => exact .kList e c
  | kTuple e c => exact .kTuple e c
  | kDict e c => exact .kDict e c
  | fTuple e => exact .fTuple (nt _ (fun _ z => by cases z) _ e)
  | fDict e => exact .fDict (nt _ (fun _ z => by cases z) _ e)
theorem tyL {K : PySem.W.Frag} {H : Hp} {a : Addr} {xs : List V} (h : SqL K H a xs) : TyX K H (.ref a) (.type "list") := by
  rcases h with (h | ⟨o, h⟩) | ⟨o, _, _, e, c, _⟩
  · exact .base (.lst h)
  · exact .base (.frz h)
  · exact .kList e c
theorem tyT {K : PySem.W.Frag} {H : Hp} {a : Addr} {xs : List V} (h : SqT K H a xs) : TyX K H (.ref a) (.type "tuple") := by
  rcases h with (h | ⟨o, h⟩) | ⟨o, _, _, e, c, _⟩
  · exact .base (.tup h)
  · exact .fTuple h
  · exact .kTuple e c
theorem gr_of {H H2 : Hp} {p : Addr} {o : HO} (hp : H p = none) (h : upd H p o = H2) : Gr H H2 := h ▸ Gr.new hp
theorem at_of {H H2 : Hp} {p : Addr} {o : HO} (h : upd H p o = H2) : H2 p = some o := h ▸ upd_same
theorem sz_of {n : Nat} (h : n ≤ 1000000) : n ≤ sizeLine := Nat.le_trans h (by decide)
theorem sz_lt {n : Nat} (h : n < 1000000) : n < sizeLine := Nat.lt_of_lt_of_le h (by decide)

/-! ### rules' readings by a name -/
def rLenQ (K : PySem.W.Frag) : List V → Hp → VK → Prop := fun xs H Q => ∃ p ys, xs = [.ref p] ∧ (SqL K H p ys ∨ SqT K H p ys) ∧ Q (.int ys.length) H
def rLenS : List V → Hp → VK → Prop := fun xs H Q => ∃ z, xs = [.str z] ∧ z.length ≤ sizeLine ∧ Q (.int z.length) H
def rListOf (K : PySem.W.Frag) : List V → Hp → VK → Prop := fun xs H Q => ∃ p ys, xs = [.ref p] ∧ (SqL K H p ys ∨ SqT K H p ys) ∧ ∀ l, H l = none → Q (.ref l) (upd H l (.lst ys))
def rTupOf (K : PySem.W.Frag) : List V → Hp → VK → Prop := fun xs H Q => ∃ p ys, xs = [.ref p] ∧ ((SqL K H p ys ∧ ∀ l, H l = none → Q (.ref l) (upd H l (.tup ys))) ∨ (SqT K H p ys ∧ Q (.ref p) H))
def rJoin (K : PySem.W.Frag) : V → List V → Hp → VK → Prop := fun x xs H Q => ∃ a p, ∃ ys : List Str, x = .str a ∧ xs = [.ref p] ∧ (SqL K H p (ys.map V.str) ∨ SqT K H p (ys.map V.str)) ∧ (ys.map (·.length)).sum + ys.length * a.length ≤ 16777216 ∧ Q (.str (Txt.join a ys)) H
def rSplit : V → List V → Hp → VK → Prop := fun x xs H Q => ∃ a b, x = .str a ∧ xs = [.str b] ∧ (b.length == 0) = false ∧ a.length + 2 ≤ sizeLine ∧ rNewStrs (Txt.split a b) H Q
def rStarts : V → List V → Hp → VK → Prop := fun x xs H Q => ∃ a b, x = .str a ∧ xs = [.str b] ∧ Q (.bl (Txt.startswith a b)) H
def rInSign : R2 := fun x y H Q => ∃ (c : Nat) (z : Str), x = .str ⟨#[c]⟩ ∧ y = .str z ∧ Q (.bl (decide (c ∈ z.cps.toList))) H
def rAddS : R2 := fun x y H Q => ∃ i j, x = .str i ∧ y = .str j ∧ i.length + j.length ≤ sizeLine ∧ Q (.str (i ++ j)) H
def rIsNo : R2 := fun x y H Q => y = .non ∧ Q (.bl (decide (x = .non))) H
section
variable {X : Cx}
theorem cLenQ {K : PySem.W.Frag} (h : X.K = K) : CallR X (.builtin "len") (rLenQ K) := h ▸ call_len_seq
theorem cIsi {K : PySem.W.Frag} (h : X.K = K) : CallR X (.builtin "isinstance") (rIsi K) := h ▸ call_isi
theorem cIsiT {K : PySem.W.Frag} (h : X.K = K) : CallR X (.builtin "isinstance") (rIsiT K) := h ▸ call_isiT
theorem cAll {K : PySem.W.Frag} (h : X.K = K) (hc : X.calm = true) : CallR X (.builtin "all") (rAll K) := h ▸ cr_all hc
theorem oEqD {K : PySem.W.Frag} (h : X.K = K) (hu : X.A.units + 64 < cLine) : OpR X (compareOp .Eq) (rEqD K) := h ▸ op_eqD hu
theorem oNeD {K : PySem.W.Frag} (h : X.K = K) (hu : X.A.units + 64 < cLine) : OpR X (compareOp .NotEq) (rNeD K) := h ▸ op_neD hu
theorem ixL {K : PySem.W.Frag} (h : X.K = K) : IxR X (rIxL K) := h ▸ ix_list
theorem ixT {K : PySem.W.Frag} (h : X.K = K) : IxR X (rIxT K) := h ▸ ix_tup
theorem cLenS : CallR X (.builtin "len") rLenS := call_len_str
theorem cListOf {K : PySem.W.Frag} (h : X.K = K) : CallR X (.type "list") (rListOf K) := h ▸ call_list_of
theorem cTupOf {K : PySem.W.Frag} (h : X.K = K) : CallR X (.type "tuple") (rTupOf K) := h ▸ call_tuple_of
theorem oInSign : OpR X (compareOp .In) rInSign := op_in_sign
theorem oAddS : OpR X (binaryOp .Add) rAddS := op_add_str
theorem oIsNo : OpR X (compareOp .Is) rIsNo := op_isN
variable {o e : Expr} {to te : TE}
theorem peJoin {apos pos : Pos} (ho : PE X o to) (he : PE X e te) (hs : starEach [e] X.env = [(false, eval e X.env)] := by rfl) (hbase : attributeBase o "join" X.env (eval o X.env) = eval o X.env := by rfl) (hline : (apos.endLine == pos.line) = true := by rfl) :
    PE X (.Call (.Attribute o "join" apos) [e] [] pos) (tM1 (rJoin X.K) to te) := pe_m1 F.slot_str_join F.type_str_join mt_join ho he hs hbase hline
theorem peSplit {apos pos : Pos} (ho : PE X o to) (he : PE X e te) (hs : starEach [e] X.env = [(false, eval e X.env)] := by rfl) (hbase : attributeBase o "split" X.env (eval o X.env) = eval o X.env := by rfl) (hline : (apos.endLine == pos.line) = true := by rfl) :
    PE X (.Call (.Attribute o "split" apos) [e] [] pos) (tM1 rSplit to te) := pe_m1 F.slot_str_split F.type_str_split mt_split ho he hs hbase hline
theorem peStarts {apos pos : Pos} (ho : PE X o to) (he : PE X e te) (hs : starEach [e] X.env = [(false, eval e X.env)] := by rfl) (hbase : attributeBase o "startswith" X.env (eval o X.env) = eval o X.env := by rfl) (hline : (apos.endLine == pos.line) = true := by rfl) :
    PE X (.Call (.Attribute o "startswith" apos) [e] [] pos) (tM1 rStarts to te) := pe_m1 F.slot_str_startswith F.type_str_startswith mt_startswith ho he hs hbase hline
end

/-! ### one step of a reading -/
section
variable {K : PySem.W.Frag} {σ : L2.St} {H : Hp} {Q : VK} {ta tb tc te : TE} {v x y : V} {r r' : R2} {t u : TT}
theorem st_var {i : Nat} (h : σ[i]? = some (some v)) (q : Q v H) : tVar i σ H Q := ⟨v, h, q⟩
theorem st_c (q : Q v H) : tC v σ H Q := q
theorem st_op (h : ta σ H fun x H1 => tb σ H1 fun y H2 => r x y H2 Q) : tOp r ta tb σ H Q := h
theorem st_un {r : V → Hp → VK → Prop} (h : ta σ H fun x H1 => r x H1 Q) : tUn r ta σ H Q := h
theorem st_I0 {g : Int → Int → V} {i j : Int} (q : Q (g i j) H) : rI0 g (.int i) (.int j) H Q := ⟨i, j, rfl, rfl, q⟩
theorem st_I {C : Int → Int → Prop} {g : Int → Int → V} {i j : Int} (c : C i j) (q : Q (g i j) H) : rI C g (.int i) (.int j) H Q := ⟨i, j, rfl, rfl, c, q⟩
theorem st_eq (h : scal x y = true) (q : Q (.bl (decide (x = y))) H) : rEq x y H Q := ⟨h, q⟩
theorem st_ne (h : scal x y = true) (q : Q (.bl (!decide (x = y))) H) : rNe x y H Q := ⟨h, q⟩
theorem st_test {Q : Bool → Hp → Prop} (h : te σ H fun x H' => ∃ k, x = .bl k ∧ Q k H') : tTest te σ H Q := h
theorem st_tB {Q : Bool → Hp → Prop} (h : te σ H fun x H' => ∃ k, x = .bl k ∧ Q k H') : tB te σ H Q := h
theorem st_bl {P : Bool → Prop} {k : Bool} (q : P k) : ∃ k', V.bl k = V.bl k' ∧ P k' := ⟨k, rfl, q⟩
theorem st_and {Q : Bool → Hp → Prop} (h : t σ H fun c H1 => if c = true then u σ H1 Q else Q false H1) : tAnd t u σ H Q := h
theorem st_or {Q : Bool → Hp → Prop} (h : t σ H fun c H1 => if c = true then Q true H1 else u σ H1 Q) : tOr t u σ H Q := h
theorem st_not {Q : Bool → Hp → Prop} (h : t σ H fun c H1 => Q (!c) H1) : tNot t σ H Q := h
theorem st_yes {Q : Bool → Hp → Prop} (h : Q true H) : tYes σ H Q := h
theorem st_andV (h : ta σ H fun x H1 => ∃ c, x = .bl c ∧ if c = true then tb σ H1 Q else Q (.bl false) H1) : tAndV ta tb σ H Q := h
theorem st_orV (h : ta σ H fun x H1 => ∃ c, x = .bl c ∧ if c = true then Q (.bl true) H1 else tb σ H1 Q) : tOrV ta tb σ H Q := h
theorem st_notV (h : ta σ H fun x H1 => ∃ c, x = .bl c ∧ Q (.bl (!c)) H1) : tNotV ta σ H Q := h
theorem st_ifE (h : t σ H fun c H1 => if c = true then ta σ H1 Q else tb σ H1 Q) : tIf t ta tb σ H Q := h
theorem st_chain (h : ta σ H fun x H1 => tb σ H1 fun y H2 => r x y H2 fun z H3 => ∃ k, z = .bl k ∧ (if k = true then tc σ H3 fun w' H4 => r' y w' H4 Q else Q (.bl false) H3)) : tChain r r' ta tb tc σ H Q := h
/-- a way of an if -/
theorem ite3 {c : Bool} {A B : Prop} (h1 : c = true → A) (h2 : c = false → B) : if c = true then A else B := by
  cases c with
  | true => exact iteT (h1 rfl)
  | false => exact iteF (h2 rfl)
theorem st_nil {Q : List V → Hp → Prop} (q : Q [] H) : tNil σ H Q := q
theorem st_cons {tr : TA} {Q : List V → Hp → Prop} (h : te σ H fun x H1 => tr σ H1 fun xs H2 => Q (x :: xs) H2) : tCons te tr σ H Q := h
theorem st_CB {rc : List V → Hp → VK → Prop} {ta : TA} (h : ta σ H fun vs H1 => rc vs H1 Q) : tCB rc ta σ H Q := h
theorem st_call {sp : Sp} {E : XK} {ta : TA} (h : ta σ H fun vs H1 => sp vs H1 Q E) : tCall sp [] E ta σ H Q := by
  have e : (fun (vs : List V) (H1 : Hp) => sp (vs ++ []) H1 Q E) = fun vs H1 => sp vs H1 Q E := by
    funext vs H1
    rw [List.append_nil]
  show ta σ H fun vs H1 => sp (vs ++ []) H1 Q E
  rw [e]
  exact h
theorem st_m1 {rm : V → List V → Hp → VK → Prop} (h : ta σ H fun x H1 => (∃ a, x = .str a) ∧ tb σ H1 fun y H2 => rm x [y] H2 Q) : tM1 rm ta tb σ H Q := h
theorem st_bm {T : String} {rm : V → List V → Hp → VK → Prop} {t : TA} (h : ta σ H fun x H1 => tyV K T x H1 ∧ t σ H1 fun xs H2 => rm x xs H2 Q) : tBM K T rm ta t σ H Q := h
theorem st_lst {t : TA} (h : t σ H fun xs H1 => xs.length ≤ sizeLine ∧ ∀ p, H1 p = none → Q (.ref p) (upd H1 p (.lst xs))) : tLst t σ H Q := h
theorem st_tup {t : TA} (h : t σ H fun xs H1 => xs.length ≤ sizeLine ∧ ∀ p, H1 p = none → Q (.ref p) (upd H1 p (.tup xs))) : tTup t σ H Q := h
/-- a new object: its heap is a letter -/
theorem st_new {o : HO} (q : ∀ p H2, H p = none → Gr H H2 → H2 p = some o → Q (.ref p) H2) : ∀ p, H p = none → Q (.ref p) (upd H p o) := fun p hp => q p _ hp (Gr.new hp) upd_same
theorem st_sl {rs : V → Option Int → Option Int → Hp → VK → Prop} {tl th : TO} (h : te σ H fun x H1 => tl σ H1 fun l H2 => th σ H2 fun u H3 => rs x l u H3 Q) : tSl rs te tl th σ H Q := h
theorem st_noPart {Q : Option Int → Hp → Prop} (q : Q none H) : tNoPart σ H Q := q
theorem st_part {Q : Option Int → Hp → Prop} (h : te σ H fun x H1 => ∃ i, x = .int i ∧ Q (some i) H1) : tPart te σ H Q := h
theorem st_exi {P : Int → Prop} {i : Int} (q : P i) : ∃ j, V.int i = V.int j ∧ P j := ⟨i, rfl, q⟩
theorem st_ixL {p : Addr} {xs : List V} {i : Int} (h : SqL K H p xs) (ha : atI xs i = some v) (q : Q v H) : rIxL K (.ref p) (.int i) H Q := ⟨p, xs, i, v, rfl, rfl, h, ha, q⟩
theorem st_ixS {z : Str} {i : Int} {c : Nat} (h : z.length ≤ sizeLine) (ha : atI z.cps.toList i = some c) (q : Q (.str ⟨#[c]⟩) H) : rIxS (.str z) (.int i) H Q := ⟨z, i, c, rfl, rfl, h, ha, q⟩
theorem st_slS {z : Str} {lo hi : Option Int} (h : z.length ≤ sizeLine) (q : Q (.str (cutS z lo hi)) H) : rSlS (.str z) lo hi H Q := ⟨z, rfl, h, q⟩
/-- isinstance(x, a built-in kind) -/
theorem st_isi {m n : String} {b : Bool} (ty : TyX K H x (.type m)) (e : kitB m n = some b) (q : Q (.bl b) H) : rIsi K [x, .ty n] H Q := ⟨x, .ty n, .type m, .type n, b, rfl, .ty n, ty, kit_ty e, q⟩
theorem st_all {p : Addr} {bs : List Bool} (h : SqL K H p (bs.map V.bl)) (q : Q (.bl (bs.all id)) H) : rAll K [.ref p] H Q := ⟨p, bs, rfl, h, q⟩

theorem st_lenL {p : Addr} {ys : List V} (h : SqL K H p ys) (q : Q (.int ys.length) H) : rLenQ K [.ref p] H Q := ⟨p, ys, rfl, .inl h, q⟩
theorem st_lenT {p : Addr} {ys : List V} (h : SqT K H p ys) (q : Q (.int ys.length) H) : rLenQ K [.ref p] H Q := ⟨p, ys, rfl, .inr h, q⟩
theorem st_lenS {z : Str} (h : z.length ≤ sizeLine) (q : Q (.int z.length) H) : rLenS [.str z] H Q := ⟨z, rfl, h, q⟩
theorem st_listL {p : Addr} {ys : List V} (h : SqL K H p ys) (q : ∀ l, H l = none → Q (.ref l) (upd H l (.lst ys))) : rListOf K [.ref p] H Q := ⟨p, ys, rfl, .inl h, q⟩
theorem st_listT {p : Addr} {ys : List V} (h : SqT K H p ys) (q : ∀ l, H l = none → Q (.ref l) (upd H l (.lst ys))) : rListOf K [.ref p] H Q := ⟨p, ys, rfl, .inr h, q⟩
theorem st_tupL {p : Addr} {ys : List V} (h : SqL K H p ys) (q : ∀ l, H l = none → Q (.ref l) (upd H l (.tup ys))) : rTupOf K [.ref p] H Q := ⟨p, ys, rfl, .inl ⟨h, q⟩⟩
theorem st_joinL {a : Str} {p : Addr} {ys : List Str} (h : SqL K H p (ys.map V.str)) (hz : (ys.map (·.length)).sum + ys.length * a.length ≤ 16777216) (q : Q (.str (Txt.join a ys)) H) : (∃ b, V.str a = .str b) ∧ rJoin K (.str a) [.ref p] H Q := ⟨⟨a, rfl⟩, a, p, ys, rfl, rfl, .inl h, hz, q⟩
theorem st_join {a : Str} {p : Addr} {ys : List Str} (h : SqL K H p (ys.map V.str) ∨ SqT K H p (ys.map V.str)) (hz : (ys.map (·.length)).sum + ys.length * a.length ≤ 16777216) (q : Q (.str (Txt.join a ys)) H) : rJoin K (.str a) [.ref p] H Q := ⟨a, p, ys, rfl, rfl, h, hz, q⟩
theorem st_split {a b : Str} (hb : (b.length == 0) = false) (ha : a.length + 2 ≤ sizeLine) (q : ∀ p, H p = none → Q (.ref p) (upd H p (.lst ((Txt.split a b).map V.str)))) : rSplit (.str a) [.str b] H Q := ⟨a, b, rfl, rfl, hb, ha, q⟩
theorem st_starts {a b : Str} (q : Q (.bl (Txt.startswith a b)) H) : rStarts (.str a) [.str b] H Q := ⟨a, b, rfl, rfl, q⟩
theorem st_inSign {c : Nat} {z : Str} (q : Q (.bl (decide (c ∈ z.cps.toList))) H) : rInSign (.str ⟨#[c]⟩) (.str z) H Q := ⟨c, z, rfl, rfl, q⟩
theorem st_addS {i j : Str} (h : i.length + j.length ≤ sizeLine) (q : Q (.str (i ++ j)) H) : rAddS (.str i) (.str j) H Q := ⟨i, j, rfl, rfl, h, q⟩
theorem st_isNo (q : Q (.bl (decide (x = .non))) H) : rIsNo x .non H Q := ⟨rfl, q⟩
theorem st_strx {A : Prop} {a : Str} (h : A) : (∃ b, V.str a = .str b) ∧ A := ⟨⟨a, rfl⟩, h⟩
theorem st_cat {p q : Addr} {xs ys : List V} (h1 : H p = some (.lst xs)) (h2 : H q = some (.lst ys)) (hz : xs.length + ys.length ≤ sizeLine) (k : ∀ r, H r = none → Q (.ref r) (upd H r (.lst (xs ++ ys)))) : rCat (.ref p) (.ref q) H Q := ⟨p, q, xs, ys, rfl, rfl, h1, h2, hz, k⟩
theorem st_setL {p : Addr} {xs : List V} {i : Int} {j : Nat} {Q : Hp → Prop} (h : H p = some (.lst xs)) (hi : ixN xs.length i = some j) (q : Q (upd H p (.lst (xs.set j v)))) : rSetL (.ref p) (.int i) v H Q := ⟨p, xs, i, j, rfl, rfl, h, hi, q⟩
theorem st_append {l : Addr} {xs : List V} (h : H l = some (.lst xs)) (hz : xs.length < sizeLine) (q : Q .non (upd H l (.lst (xs ++ [y])))) : rAppend (.ref l) [y] H Q := ⟨l, xs, y, rfl, rfl, h, hz, q⟩
theorem st_tyL {p : Addr} {xs : List V} {A : Prop} (h : SqL K H p xs) (a : A) : tyV K "list" (.ref p) H ∧ A := ⟨.inl ⟨rfl, xs, h⟩, a⟩

/-- a and b as a value: the ways meet again -/
theorem st_meet {R : VK} {te : L2.St → Hp → VK → Prop} {d b : Bool} (hte : d = true → ∀ R' : VK, (∀ H2, Gr H H2 → R' (.bl b) H2) → te σ H R') (hf : d = false → b = false) (k : ∀ H2, Gr H H2 → R (.bl b) H2) : if d = true then te σ H R else R (.bl false) H := by
  cases d with
  | true => exact iteT (hte rfl R k)
  | false =>
    have k0 := k H (Gr.refl H)
    rw [hf rfl] at k0
    exact iteF k0
theorem iteNT {A B : Prop} (h : A) : if (!false) = true then A else B := iteT h
theorem iteNF {A B : Prop} (h : B) : if (!true) = true then A else B := iteF h
theorem st_tAllS {Pt : Addr} {pb : Nat → Bool} (h : te σ H fun v H1 => ∃ a : Str, v = .str a ∧ GxR.TabG H1 Pt ∧ ∀ H2, GxR.Tabbed Pt H1 H2 → Q (.bl (a.cps.toList.all pb)) H2) : GxR.tAllS Pt pb te σ H Q := h
theorem st_allS {z : Str} {Pt : Addr} {pb : Nat → Bool} (t : GxR.TabG H Pt) (q : ∀ H2, Gr H H2 → Q (.bl (z.cps.toList.all pb)) H2) : GxR.TabG H Pt ∧ ∀ H2, GxR.Tabbed Pt H H2 → Q (.bl (z.cps.toList.all pb)) H2 := ⟨t, fun H2 tb => q H2 (Gr.tabbed t tb)⟩

/-! ### statements -/
variable {n : L2.St → Hp → Prop} {rt : VK} {b c : L2.St → Hp → Prop} {ts us : TS} {D : Ends}
theorem st_seq (h : ts ⟨us ⟨n, rt, b, c⟩, rt, b, c⟩ σ H) : tSeq ts us ⟨n, rt, b, c⟩ σ H := h
theorem st_asg {i : Nat} (h : te σ H fun x H1 => n (σ.set i (some x)) H1) : tAsg te (gName i) ⟨n, rt, b, c⟩ σ H := h
theorem st_asgSub {to ti : TE} {tset : TSet} (h : te σ H fun x H1 => to σ H1 fun o H2 => ti σ H2 fun i H3 => tset o i x H3 fun H4 => n σ H4) : tAsg te (gSub to ti tset) ⟨n, rt, b, c⟩ σ H := h
theorem st_ifS (h : t σ H fun k H1 => if k = true then ts D σ H1 else us D σ H1) : tIfS t ts us D σ H := h
theorem st_next (q : n σ H) : tNext ⟨n, rt, b, c⟩ σ H := q
theorem st_ret (h : te σ H rt) : tRet te ⟨n, rt, b, c⟩ σ H := h
theorem st_retN (q : rt .non H) : tRetN ⟨n, rt, b, c⟩ σ H := q
theorem st_drop (h : te σ H fun _ H1 => n σ H1) : tDrop te ⟨n, rt, b, c⟩ σ H := h
/-- a loop's end, a comprehension's end, by a name -/
def LF (g : TG) (tb : TS) (D : Ends) (σ : L2.St) (J : It) (H : Hp) : Prop := ∃ W : Nat → Nat → L2.St → Hp → Prop, (∃ m, W 0 m σ H) ∧ ∀ i m σ H, W i m σ H →
  (J.stop i H ∧ D.nx σ H) ∨ (J.go i H ∧ ∃ N : L2.St → Hp → Prop, (∀ σ' H', N σ' H' → ∃ m', m' < m ∧ W (i + 1) m' σ' H') ∧ ∀ x H', J.yld i H x H' → g x σ H' fun σ2 H2 => tb { D with nx := N, ct := N, bk := D.nx } σ2 H2)
def LC (g : TG) (tt : TT) (te : TE) (vs : List Nat) (σ : L2.St) (Q : VK) (J : It) (H1 : Hp) : Prop := ∀ D, H1 D = none → ∃ W : Nat → Nat → Hp → Prop, (∃ m, W 0 m (upd H1 D (.lst []))) ∧ ∀ i m H, W i m H →
  (J.stop i H ∧ Q (.ref D) H) ∨ (J.go i H ∧ ∃ Nx : Hp → Prop, (∀ H', Nx H' → ∃ m', m' < m ∧ W (i + 1) m' H') ∧ ∀ x H', J.yld i H x H' → g x (wipe σ vs) H' fun σ2 H2 => wipe σ2 vs = wipe σ vs ∧ tt σ2 H2 fun b H3 =>
    if b = true then te σ2 H3 fun y H4 => ∃ acc, H4 D = some (.lst acc) ∧ acc.length < sizeLine ∧ Nx (upd H4 D (.lst (acc ++ [y]))) else Nx H3)
theorem st_lc {wi : TI} {g : TG} {tt : TT} {vs : List Nat} (h : wi σ H (LC g tt te vs σ Q)) : tLc wi g tt te vs σ H Q := h
theorem st_for {wi : TI} {g : TG} {tb : TS} (h : wi σ H (LF g tb D σ)) : tFor wi g tb D σ H := h
variable {R : It → Hp → Prop}
theorem st_iL {tl : TE} (h : tl σ H fun x H1 => ∃ a, x = .ref a ∧ (∃ xs, SqL K H1 a xs) ∧ R (Itl K a) H1) : iList K tl σ H R := h
theorem st_exL {a : Addr} {xs : List V} (hs : SqL K H a xs) (h : R (Itl K a) H) : ∃ a', V.ref a = .ref a' ∧ (∃ xs, SqL K H a' xs) ∧ R (Itl K a') H := ⟨a, rfl, ⟨xs, hs⟩, h⟩
theorem st_iT {tl : TE} (h : tl σ H fun x H1 => ∃ a, x = .ref a ∧ (∃ xs, SqT K H1 a xs) ∧ R (Itt K a) H1) : iTup K tl σ H R := h
theorem st_exT {a : Addr} {xs : List V} (hs : SqT K H a xs) (h : R (Itt K a) H) : ∃ a', V.ref a = .ref a' ∧ (∃ xs, SqT K H a' xs) ∧ R (Itt K a') H := ⟨a, rfl, ⟨xs, hs⟩, h⟩
theorem st_iR {ta : TA} (h : ta σ H fun vs H1 => ∃ j : Int, vs = [.int j] ∧ -(2 ^ 62) ≤ j ∧ j < 2 ^ 62 ∧ R (Itr 0 j.toNat) H1) : iRng1 ta σ H R := h
theorem st_exR {j : Int} (h1 : 0 ≤ j) (h2 : j ≤ 1000000) (h : R (Itr 0 j.toNat) H) : ∃ i : Int, [V.int j] = [V.int i] ∧ -(2 ^ 62) ≤ i ∧ i < 2 ^ 62 ∧ R (Itr 0 i.toNat) H := ⟨j, rfl, by omega, by omega, h⟩
theorem st_iS {te : TE} (h : te σ H fun v H1 => ∃ x, v = .str x ∧ R (Its x) H1) : iStr te σ H R := h
theorem st_exS {P : Str → Prop} {z : Str} (h : P z) : ∃ x, V.str z = .str x ∧ P x := ⟨z, rfl, h⟩
end

/-! ### comprehensions: what each turn gives (f), nothing else changed but by growth -/
theorem filterMap_snoc {n : Nat} {f : Nat → Option V} : (List.range (n + 1)).filterMap f = (List.range n).filterMap f ++ (match f n with | some v => [v] | none => []) := by
  rw [List.range_succ, List.filterMap_append]
  congr 1
  cases e : f n <;> simp [e]
theorem filterMap_len (n : Nat) (f : Nat → Option V) : ((List.range n).filterMap f).length ≤ n := by
  have h := List.length_filterMap_le f (List.range n)
  rw [List.length_range] at h
  exact h
theorem lc_gr {J : It} {n : Nat} {G : Hp → Prop} {Y : Nat → V → Prop} {j : Nat} {tt : TT} {te : TE} {vs : List Nat} {σ : L2.St} {H1 : Hp} {Q : VK} (w : Walk J n G (fun i H x H' => H' = H ∧ Y i x)) (hG : ∀ H', Gr H1 H' → G H') (f : Nat → Option V)
    (hs : ∀ i x H2, i < n → Y i x → Gr H1 H2 → ∀ (Qy : VK) (Qn : Hp → Prop), (∀ v H3, f i = some v → Gr H2 H3 → Qy v H3) → (f i = none → ∀ H3, Gr H2 H3 → Qn H3) → tt ((wipe σ vs).set j (some x)) H2 fun b H3 => if b = true then te ((wipe σ vs).set j (some x)) H3 Qy else Qn H3)
    (hq : ∀ D H2, H1 D = none → Gr H1 H2 → H2 D = some (.lst ((List.range n).filterMap f)) → Q (.ref D) H2)
    (hn : n ≤ 1000000) (hw : ∀ x, wipe ((wipe σ vs).set j (some x)) vs = wipe σ vs) : LC (gName j) tt te vs σ Q J H1 := by
  intro D hD
  refine lc_it w (fun i H' => Gr H1 H' ∧ H' D = some (.lst ((List.range i).filterMap f))) ⟨Gr.new hD, upd_same⟩ (fun i H' _ p => hG H' p.1) ?_ (fun H' p => hq D H' hD p.1 p.2)
  rintro i x H' H'' hi ⟨g, e⟩ ⟨rfl, y⟩
  refine ⟨hw x, hs i x H'' hi y g _ _ (fun v H3 ef g3 => ?_) (fun ef H3 g3 => ?_)⟩
  · refine ⟨(List.range i).filterMap f, g3.lst e, ?_, (g.trans g3).mut hD, ?_⟩
    · have := filterMap_len i f
      exact sz_lt (by omega)
    · rw [filterMap_snoc, ef]
      exact upd_same
  · refine ⟨g.trans g3, ?_⟩
    rw [filterMap_snoc, ef]
    show H3 D = some (HO.lst (_ ++ []))
    rw [List.append_nil]
    exact g3.lst e
/-- a for over it -/
theorem st_loop {J : It} {m : Nat} {G : Hp → Prop} {Y : Nat → V → Prop} {j : Nat} {tb : TS} {n : L2.St → Hp → Prop} {rt : VK} {b c : L2.St → Hp → Prop} {σ : L2.St} {H : Hp} (w : Walk J m G (fun i H x H' => H' = H ∧ Y i x)) (Pv : Nat → L2.St → Hp → Prop) (h0 : Pv 0 σ H)
    (hG : ∀ i σ H, i ≤ m → Pv i σ H → G H) (hs : ∀ i x σ H, i < m → Pv i σ H → Y i x → tb ⟨Pv (i + 1), rt, n, Pv (i + 1)⟩ (σ.set j (some x)) H) (hd : ∀ σ H, Pv m σ H → n σ H) : LF (gName j) tb ⟨n, rt, b, c⟩ σ J H :=
  for_it w Pv h0 hG (fun i x σ H H' hi p y => by
    obtain ⟨rfl, y⟩ := y
    exact hs i x σ H' hi p y) hd
theorem filterMap_some {n : Nat} (f : Nat → V) : (List.range n).filterMap (fun i => some (f i)) = (List.range n).map f := by
  induction n with
  | zero => rfl
  | succ n ih => rw [List.range_succ, List.filterMap_append, List.map_append, ih] <;> rfl
theorem range_map_get (xs : List V) (f : V → V) (d : V) : (List.range xs.length).map (fun i => f (xs.getD i d)) = xs.map f := by
  induction xs with
  | nil => rfl
  | cons x r ih =>
    rw [List.length_cons, List.range_succ_eq_map, List.map_cons, List.map_map, List.map_cons, ← ih]
    rfl
/-- over a list, each item gives f of it -/
theorem lc_l {K : PySem.W.Frag} {a : Addr} {xs : List V} {j : Nat} {te : TE} {vs : List Nat} {σ : L2.St} {H1 : Hp} {Q : VK} (f : V → V) (h : SqL K H1 a xs)
    (hs : ∀ (i : Nat) (x : V) (H2 : Hp), xs[i]? = some x → Gr H1 H2 → ∀ Qy : VK, (∀ H3, Gr H2 H3 → Qy (f x) H3) → te ((wipe σ vs).set j (some x)) H2 Qy)
    (hq : ∀ D H2, H1 D = none → Gr H1 H2 → H2 D = some (.lst (xs.map f)) → Q (.ref D) H2)
    (hn : xs.length ≤ 1000000) (hw : ∀ x, wipe ((wipe σ vs).set j (some x)) vs = wipe σ vs := by intro _; rfl) : LC (gName j) tYes te vs σ Q (Itl K a) H1 := by
  refine lc_gr (n := xs.length) (Y := fun i x => xs[i]? = some x) walk_list (fun H' g => g.l h) (fun i => some (f (xs.getD i .non))) (fun i x H2 hi y g Qy Qn q1 q2 => ?_) (fun D H2 hD g e => hq D H2 hD g ?_) hn hw
  · refine iteT (B := Qn H2) (hs i x H2 y g Qy fun H3 g3 => q1 _ H3 ?_ g3)
    rw [List.getD_eq_getElem?_getD, y] <;> rfl
  · rw [e, filterMap_some, range_map_get xs f .non]
/-- over a list, with a test: f of an item, where it is some *-/
theorem lc_lf {K : PySem.W.Frag} {a : Addr} {xs : List V} {j : Nat} {tt : TT} {te : TE} {vs : List Nat} {σ : L2.St} {H1 : Hp} {Q : VK} (f : V → Option V) (h : SqL K H1 a xs)
    (hs : ∀ (i : Nat) (x : V) (H2 : Hp), xs[i]? = some x → Gr H1 H2 → ∀ (Qy : VK) (Qn : Hp → Prop), (∀ v H3, f x = some v → Gr H2 H3 → Qy v H3) → (f x = none → ∀ H3, Gr H2 H3 → Qn H3) → tt ((wipe σ vs).set j (some x)) H2 fun b H3 => if b = true then te ((wipe σ vs).set j (some x)) H3 Qy else Qn H3)
    (hq : ∀ D H2, H1 D = none → Gr H1 H2 → H2 D = some (.lst (xs.filterMap f)) → Q (.ref D) H2)
    (hn : xs.length ≤ 1000000) (hw : ∀ x, wipe ((wipe σ vs).set j (some x)) vs = wipe σ vs := by intro _; rfl) : LC (gName j) tt te vs σ Q (Itl K a) H1 := by
  have e0 : ∀ (i : Nat) (x : V), xs[i]? = some x → f (xs.getD i .non) = f x := fun i x y => by rw [List.getD_eq_getElem?_getD, y] <;> rfl
  refine lc_gr (n := xs.length) (Y := fun i x => xs[i]? = some x) walk_list (fun H' g => g.l h) (fun i => f (xs.getD i .non)) (fun i x H2 hi y g Qy Qn q1 q2 => ?_) (fun D H2 hD g e => hq D H2 hD g ?_) hn hw
  · refine hs i x H2 y g Qy Qn (fun v H3 q => q1 v H3 ?_) (fun q => q2 ?_)
    · rw [e0 i x y]
      exact q
    · rw [e0 i x y]
      exact q
  · rw [e]
    have k : ∀ l : List V, (List.range l.length).filterMap (fun i => f (l.getD i .non)) = l.filterMap f := by
      intro l
      induction l with
      | nil => rfl
      | cons x r ih =>
        rw [List.length_cons, List.range_succ_eq_map, List.filterMap_cons, List.filterMap_cons, List.filterMap_map, ← ih]
        rfl
    rw [k]
theorem lc_r {n : Nat} {j : Nat} {te : TE} {vs : List Nat} {σ : L2.St} {H1 : Hp} {Q : VK} (f : Nat → V)
    (hs : ∀ (i : Nat) H2, i < n → Gr H1 H2 → ∀ Qy : VK, (∀ H3, Gr H2 H3 → Qy (f i) H3) → te ((wipe σ vs).set j (some (.int (i : Int)))) H2 Qy)
    (hq : ∀ D H2, H1 D = none → Gr H1 H2 → H2 D = some (.lst ((List.range n).map f)) → Q (.ref D) H2)
    (hn : n ≤ 1000000) (hw : ∀ x, wipe ((wipe σ vs).set j (some x)) vs = wipe σ vs := by intro _; rfl) : LC (gName j) tYes te vs σ Q (Itr 0 n) H1 := by
  refine lc_gr (n := n) (Y := fun i x => x = .int (0 + (i : Int))) walk_range (fun _ _ => True.intro) (fun i => some (f i)) (fun i x H2 hi y g Qy Qn q1 q2 => ?_) (fun D H2 hD g e => hq D H2 hD g ?_) hn hw
  · subst y
    rw [Int.zero_add]
    exact iteT (B := Qn H2) (hs i H2 hi g Qy fun H3 g3 => q1 _ H3 rfl g3)
  · rw [e, filterMap_some]
theorem lc_s {z : Str} {j : Nat} {te : TE} {vs : List Nat} {σ : L2.St} {H1 : Hp} {Q : VK} (f : Nat → V)
    (hs : ∀ (c : Nat) H2, c ∈ z.cps.toList → Gr H1 H2 → ∀ Qy : VK, (∀ H3, Gr H2 H3 → Qy (f c) H3) → te ((wipe σ vs).set j (some (.str ⟨#[c]⟩))) H2 Qy)
    (hq : ∀ D H2, H1 D = none → Gr H1 H2 → H2 D = some (.lst (z.cps.toList.map f)) → Q (.ref D) H2)
    (hn : z.length ≤ 1000000) (hw : ∀ x, wipe ((wipe σ vs).set j (some x)) vs = wipe σ vs := by intro _; rfl) : LC (gName j) tYes te vs σ Q (Its z) H1 := by
  refine lc_gr (n := z.cps.size) (Y := fun i v => ∃ c, z.cps[i]? = some c ∧ v = .str ⟨#[c]⟩) walk_str (fun _ _ => True.intro) (fun i => some (f (z.cps.toList.getD i 0))) (fun i x H2 hi y g Qy Qn q1 q2 => ?_) (fun D H2 hD g e => hq D H2 hD g ?_) hn hw
  · obtain ⟨c, e, rfl⟩ := y
    have e2 : z.cps.toList[i]? = some c := by rw [Array.getElem?_toList]; exact e
    refine iteT (B := Qn H2) (hs c H2 (List.mem_of_getElem? e2) g Qy fun H3 g3 => q1 _ H3 ?_ g3)
    rw [List.getD_eq_getElem?_getD, e2] <;> rfl
  · rw [e, filterMap_some]
    have k : ∀ l : List Nat, (List.range l.length).map (fun i => f (l.getD i 0)) = l.map f := by
      intro l
      induction l with
      | nil => rfl
      | cons x r ih =>
        rw [List.length_cons, List.range_succ_eq_map, List.map_cons, List.map_map, List.map_cons, ← ih]
        rfl
    rw [← Array.length_toList, k]

/-! ### a def of the module, called by its name -/
structure Df (P : Program) (w : World) (K : PySem.W.Frag) (mg : Str → Option Value) (base : Heap) (k : Nat) (x : Str) (ps : List Str) (sp : Sp) : Prop where
  ex : ∃ (f : Addr) (fd : FuncData), FnOk P w K mg base (L2.CX P w) k f fd ps sp ∧ mg x = some (.ref f) ∧ PySem.W.keepIn K (.ref f) = true ∧ Binds K fd ps []
section
variable {X : Cx} {k j : Nat} {ps : List Str} {x : Str} {sp : Sp} {p pos : Pos} {e : Expr} {es : List Expr} {t : TA}
theorem pe_d0 (c : Df X.prog X.w X.K X.mg X.base k x ps sp) (hr : Room k X.A) (hg : Gl X x) (ha : PA X (e :: es) t)
    (hdb : (x == ("__debug__" : Str)) = false := by decide) (he : starEach (e :: es) X.env = (false, eval e X.env) :: starEach es X.env := by rfl) (hpl : (backTo pos (starEach es X.env)).any (·.1) = false := by rfl) :
    PE X (.Call (.Name x p) (e :: es) [] pos) (tCall sp [] E0 t) := by
  obtain ⟨f, fd, F, hm, kp, b⟩ := c.ex
  exact pe_call F hr hg hm kp b .nil passL ha hdb he hpl
theorem pe_dE {E : XK} (c : Df X.prog X.w X.K X.mg X.base k x ps sp) (hr : Room k X.A) (hg : Gl X x) (tk : Takes X (fun cls d _ H => E cls d H)) (ha : PA X (e :: es) t)
    (hdb : (x == ("__debug__" : Str)) = false := by decide) (he : starEach (e :: es) X.env = (false, eval e X.env) :: starEach es X.env := by rfl) (hpl : (backTo pos (starEach es X.env)).any (·.1) = false := by rfl) :
    PE X (.Call (.Name x p) (e :: es) [] pos) (tCall sp [] E t) := by
  obtain ⟨f, fd, F, hm, kp, b⟩ := c.ex
  exact pe_call F hr hg hm kp b .nil (passes_call tk fun _ _ _ _ h => h) ha hdb he hpl
end
/-! ### a call of a local that holds a def which may raise; what is raised is wished for at the slots -/
def tCallLS (i : Nat) (S : Addr → Sp → Prop) (E : L2.St → XK) (t : TA) : TE := fun σ H Q => ∃ f sp, σ[i]? = some (some (.ref f)) ∧ S f sp ∧ t σ H fun vs H1 => sp vs H1 Q (E σ)
structure HeldX (P : Program) (w : World) (K : PySem.W.Frag) (mg : Str → Option Value) (base : Heap) (k : Nat) (f : Addr) (sp : Sp) : Prop where
  ex : ∃ (fd : FuncData) (ps : List Str), FnOk P w K mg base (L2.CX P w) k f fd ps sp ∧ PySem.W.keepIn K (.ref f) = true ∧ Binds K fd ps []
section
variable {X : Cx} {k i : Nat} {x : Str} {p pos : Pos} {e : Expr} {es : List Expr} {t : TA}
theorem pe_callLS {S : Addr → Sp → Prop} {E : L2.St → XK} (A : ∀ f sp, S f sp → HeldX X.prog X.w X.K X.mg X.base k f sp) (hr : Room k X.A) (hx : ∀ σ, PassesAt (L2.CX X.prog X.w) X σ (E σ)) (hN : X.N[i]? = some x) (hv : Vis X.env.scope x) (ha : PA X (e :: es) t)
    (hdb : (x == ("__debug__" : Str)) = false := by decide) (hcd : (x == ("__classdict__" : Str)) = false := by decide)
    (he : starEach (e :: es) X.env = (false, eval e X.env) :: starEach es X.env := by rfl) (hpl : (backTo pos (starEach es X.env)).any (·.1) = false := by rfl) : PE X (.Call (.Name x p) (e :: es) [] pos) (tCallLS i S E t) := by
  refine ⟨fun pins s σ H Q I h => ?_⟩
  obtain ⟨f, sp, hs, hS, ht⟩ := h
  obtain ⟨fd, ps, F, hk, hb⟩ := (A f sp hS).ex
  refine wpAny_Call_Name_kw (thn ((pe_var (pos := p) hN hv hdb hcd).run pins s σ H (fun v H1 => v = .ref f ∧ H1 = H) I ⟨.ref f, hs, rfl, rfl⟩) fun u s1 ⟨v, H1, I1, r1, q1⟩ => ?_)
  obtain ⟨rfl, rfl⟩ := q1
  cases r1
  refine PySem.W.callWith_K (h₀ := X.base) I.ok.mod.kin hk (thn (ha.run pos pins s1 σ _ _ I1 ht) fun us s2 ⟨vs, H2, I2, r, q⟩ => ⟨I2.kIn, ?_⟩) he hpl
  exact run_fnS F hr hb (hx σ) I2 r q
/-- a block whose rules stand on a fact: the fact is asked ahead of it -/
theorem pss_guard {sts : List Stmt} {ts : TS} {p : Prop} (h : p → PSs X sts ts) : PSs X sts (fun D σ H => p ∧ ts D σ H) :=
  ⟨fun pins s σ H D I q => (h q.1).run pins s σ H D I q.2⟩
end
theorem atI_getD {l : List Nat} {i : Int} (h0 : 0 ≤ i) (h1 : i < (l.length : Int)) : atI l i = some (l.getD i.toNat 0) := by
  have e : i = ((i.toNat : Nat) : Int) := (Int.toNat_of_nonneg h0).symm
  have hl : i.toNat < l.length := by omega
  rw [e]
  refine atI_nat ?_
  rw [List.getD_eq_getElem?_getD, Int.toNat_natCast, List.getElem?_eq_getElem hl] <;> rfl
theorem atI_getV {l : List V} {i : Int} (h0 : 0 ≤ i) (h1 : i < (l.length : Int)) : ∃ v, v ∈ l ∧ atI l i = some v := by
  obtain ⟨j, rfl⟩ : ∃ j : Nat, i = (j : Int) := ⟨i.toNat, (Int.toNat_of_nonneg h0).symm⟩
  have hl : j < l.length := by omega
  exact ⟨l[j], List.getElem_mem hl, atI_nat (List.getElem?_eq_getElem hl)⟩
end My
namespace My
open PySem PySem.Spec PyProof.Rows L2
/-! ### texts by their order -/
def ltS (a b : Str) : Bool := decide (a.cps.toList < b.cps.toList)
theorem ltS_irr (a : Str) : ltS a a = false := decide_eq_false (List.lt_irrefl _)
theorem ltS_tr {a b c : Str} (h : ltS a b = true) (h2 : ltS b c = true) : ltS a c = true := decide_eq_true (List.lt_trans (of_decide_eq_true h) (of_decide_eq_true h2))
theorem ltS_as {a b : Str} (h : ltS a b = true) : ltS b a = false := decide_eq_false (List.lt_asymm (of_decide_eq_true h))
theorem str_ext {a b : Str} (h : a.cps.toList = b.cps.toList) : a = b := by
  cases a with
  | mk x =>
    cases b with
    | mk y =>
      have e : x = y := by
        cases x with
        | mk u =>
          cases y with
          | mk v => exact congrArg _ h
      rw [e]
theorem ltS_tri {a b : Str} (h : ltS a b = false) (h2 : ltS b a = false) : a = b := str_ext (List.le_antisymm (List.not_lt.mp (of_decide_eq_false h2)) (List.not_lt.mp (of_decide_eq_false h)))
theorem ltS_ne {a b : Str} (h : ltS a b = true) : a ≠ b := fun e => by
  rw [e, ltS_irr] at h
  cases h
theorem ltS_cot {a b c : Str} (h1 : ltS b a = false) (h2 : ltS c b = false) : ltS c a = false := by
  cases e : ltS c a with
  | false => rfl
  | true =>
    cases e2 : ltS a b with
    | true =>
      rw [ltS_tr e e2] at h2
      cases h2
    | false =>
      rw [ltS_tri e2 h1] at e
      rw [e] at h2
      cases h2
/-! ### sorting texts and keys of a dict, any number of them -/
namespace St
open SrtO Srt
section
variable {prog : Program} {w : World} {A : Around} {E : Value → Shared → Prop} {s : Shared}
def sv : Value → Str
  | .str x _ => x
  | _ => ⟨#[]⟩
def ltSv (v u : Value) : Bool := ltS (sv v) (sv u)
theorem swo_str : Swo ltSv := ⟨fun x y h => ltS_as h, fun x y z h1 h2 => ltS_cot h1 h2⟩
theorem strs_mem : ∀ {vs : List Value} {ns : List Str}, StrsAre vs ns → ∀ v ∈ vs, ∃ i t, v = Value.str i t
  | _, _, .nil, v, h => absurd h (by simp)
  | _, _, .cons n t r, v, h => by
    rcases List.mem_cons.mp h with e | h
    · exact ⟨n, t, e⟩
    · exact strs_mem r v h
theorem strs_sv : ∀ {vs : List Value}, (∀ v ∈ vs, ∃ i t, v = Value.str i t) → StrsAre vs (vs.map sv)
  | [], _ => .nil
  | v :: vs, h => by
    obtain ⟨i, t, e⟩ := h v List.mem_cons_self
    subst e
    exact .cons i t (strs_sv fun u hu => h u (List.mem_cons_of_mem _ hu))
theorem sv_strs : ∀ {vs : List Value} {ns : List Str}, StrsAre vs ns → vs.map sv = ns
  | _, _, .nil => rfl
  | _, _, .cons n t r => congrArg (n :: ·) (sv_strs r)
theorem str_cmp {vs : List Value} {ns : List Str} (hI : StrsAre vs ns) : Cmp prog w A s oneType' (fun p => p.1 ∈ vs) (lt2 ltSv) := by
  intro p q hm hm'
  obtain ⟨a, t, e⟩ := strs_mem hI _ hm
  obtain ⟨b, u, e'⟩ := strs_mem hI _ hm'
  show wpAny (model prog w) A (keyLt' oneType' p.1 q.1) (fun r s' => s' = s ∧ r = ltSv p.1 q.1) (fun _ _ => False) s
  rw [e, e', keyLt'_oneType]
  exact oneLt_str ⟨rfl, rfl⟩
theorem strs_sortable {a : Addr} {vs : List Value} {ns : List Str} (hI : StrsAre vs ns) (h2 : 2 ≤ vs.length) : SortableO prog w A s a vs ltSv := by
  intro h' _
  refine ⟨oneType', fun Q E hq => ?_, str_cmp hI⟩
  match vs, hI, h2 with
  | v1 :: v2 :: rest, hI, _ =>
    rw [keyKind_strs hI]
    exact wpAny_pure hq
  | [], _, h => exact absurd h (by decide)
  | [v], _, h => exact absurd h (by simp)
theorem strs_out {vs out : List Value} {ns : List Str} (hI : StrsAre vs ns) (hs : Srtd ltSv out) (hb : Stb ltSv out vs) : StrsAre out (out.map sv) ∧ (out.map sv).Perm ns ∧ (out.map sv).Pairwise (fun a b => ltS b a = false) := by
  refine ⟨strs_sv fun v hv => strs_mem hI v (hb.perm.mem_iff.mp hv), ?_, ?_⟩
  · have q := hb.perm.map sv
    rw [sv_strs hI] at q
    exact q
  · exact List.pairwise_map.mpr (hs.imp fun {x y} h => h)
end
end St
def SrtS (ys : List Str) : Prop := ys.Pairwise fun a b => ltS b a = false
def rSortedSA (K : PySem.W.Frag) : List V → Hp → VK → Prop := fun vs H Q => ∃ (a : Addr) (ns : List Str), vs = [V.ref a] ∧ SqL K H a (ns.map V.str) ∧
  ∀ (ns' : List Str) (p : Addr), ns'.Perm ns → SrtS ns' → H p = none → Q (.ref p) (upd H p (.lst (ns'.map V.str)))
def rSortedDSA : List V → Hp → VK → Prop := fun xs H Q => ∃ (a : Addr) (kvs : List (Key × V)) (ks : List Str), xs = [.ref a] ∧ Rd H a (.dK kvs) ∧ kvs.map (·.1) = ks.map Sum.inr ∧ ks.length ≤ 1000000 ∧
    ∀ ys p, ys.Perm ks → SrtS ys → H p = none → Q (.ref p) (upd H p (.lst (ys.map V.str)))
def rSortedDIA : List V → Hp → VK → Prop := fun xs H Q => ∃ (a : Addr) (kvs : List (Key × V)) (ks : List Int), xs = [.ref a] ∧ Rd H a (.dK kvs) ∧ kvs.map (·.1) = ks.map Sum.inl ∧ ks.length ≤ 1000000 ∧
    ∀ (ys : List Int) p, ys.Perm ks → ys.Pairwise (· ≤ ·) → H p = none → Q (.ref p) (upd H p (.lst (ys.map V.int)))
section
variable {X : Cx}
theorem cr_sortedSA : CallR X (.builtin "sorted") (rSortedSA X.K) := by
  intro pins s σ H vs us Q I r h
  obtain ⟨a, ns, rfl, hs, q⟩ := h
  obtain ⟨its, rv, hl, hz⟩ := I.list hs
  rw [Vals.ref1 r]
  have hi := rv.strs
  refine SrtO.sorted_ord St.swo_str hl.isList (by rw [← rv.length]; exact hz) (fun h2 h₁ a' _ _ => St.strs_sortable hi h2) fun out h1 h2 => ?_
  obtain ⟨k1, k2, k3⟩ := St.strs_out hi h1 h2
  obtain ⟨ep, he'⟩ := PyProof.Rows.sortedAll_at s.heap its out.toArray
  have hlen : ((out.map St.sv).map V.str).length ≤ sizeLine := by
    rw [List.length_map, k2.length_eq]
    rw [List.length_map] at hz
    exact hz
  exact ⟨.ref _, upd H (s.heap.objs.size + 1) (.lst ((out.map St.sv).map V.str)), I.laid (t' := s.toks) (fun _ _ => PyProof.Rows.sortedAll_old) (Nat.le_succ _) ⟨hlen, out, ep, vals_of_strs k1, he'⟩, rfl, q _ _ k2 k3 (I.hok.fresh (Nat.le_succ _))⟩
theorem cr_sortedDSA (hcalm : X.calm = true) : CallR X (.builtin "sorted") rSortedDSA := by
  intro pins s σ H xs us Q I r q
  obtain ⟨a, kvs, ks, ex, hd, hks, h64, q⟩ := q
  subst ex
  obtain ⟨u, eu, rx⟩ := vals1 r
  subst eu
  cases rx
  obtain ⟨z, lo, vs, rel, dd⟩ := dk_rd I.hok hd
  obtain ⟨ep, hat⟩ := dd.dictAt
  have hkeys : vs.map (·.1) = ks.map Sum.inr := rel.keys.symm.trans hks
  have hl : vs.length = ks.length := by
    have e := congrArg List.length hkeys
    rw [List.length_map, List.length_map] at e
    exact e
  have h16 : vs.length ≤ sizeLine := by rw [hl, sizeLine_eq]; omega
  refine Calls.call_function_entry PyProof.Rows.kind_sorted PyProof.Rows.plain_sorted PyProof.Rows.entry_sorted (PyProof.Rows.args_sorted1 _) ?_
  unfold Builtin.«sorted»
  refine wpAny_bind (m := checkCount "sorted" 1 1 _) (wpAny_pure ?_)
  refine wpAny_bind (PySem.W.kdu_collect (A := X.A.in1) (PySem.W.kdl_dict (knd := mixKind X.prog X.w) (kvs := vs) (ep := ep) lo) (I.ok.hd hcalm) hat h16 fun h' tk acc hk hacc => ?_)
  have hal : acc.toList.length = ks.length := by rw [Array.length_toList, hacc.1, hl]
  have hS : StrsAre acc.toList ks := strs_at hal fun j v e => by
    obtain ⟨k, x, e1, e2⟩ := hacc.2 j v (by rw [← Array.getElem?_toList]; exact e)
    have e3 : (vs.map (·.1))[j]? = some k := by rw [List.getElem?_map, e1]; all_goals rfl
    rw [hkeys, List.getElem?_map] at e3
    cases e4 : ks[j]? with
    | none => rw [e4] at e3; cases e3
    | some y =>
      rw [e4] at e3
      have e5 : Sum.inr y = k := Option.some.inj e3
      subst e5
      obtain ⟨t, ev⟩ := Value.isStrOf_shape (x := y) (v := v) e2
      exact ⟨y, t, rfl, ev⟩
  have I1 : Inv X pins σ H { s with heap := h', toks := tk } := I.kept hk
  refine wpAny_bind (wpAny_newList ?_ (by rw [hal, sizeLine_eq]; omega))
  have hoL : (h'.push (seqObj "list" acc.toList.toArray 0)).get? h'.objs.size = some (seqObj "list" acc.toList.toArray 0) := Heap.get?_push_size _ rfl
  show wpAny _ _ _ _ _ { s with heap := h'.push (seqObj "list" acc.toList.toArray 0), toks := tk }
  refine wpAny_bind (wpAny_holding (wpAny_call_entry PyProof.Rows.slot_list_sort ⟨_, hoL, rfl⟩ PyProof.Rows.entry_list_sort
    (SrtO.list_sort_ord (s := { s with heap := h'.push (seqObj "list" acc.toList.toArray 0), toks := tk }) St.swo_str hoL (by rw [hal, sizeLine_eq]; omega) (fun h2 => St.strs_sortable hS h2) fun out h1 h2 => ⟨_, rfl, ?_⟩)
    (PyProof.Rows.args_list_sort _)))
  obtain ⟨k1, k2, k3⟩ := St.strs_out hS h1 h2
  obtain ⟨e', he'⟩ := PyProof.Rows.sortedHeap_at (vs := acc.toList) (out := out.toArray) hoL
  have hlen : ((out.map St.sv).map V.str).length ≤ sizeLine := by
    rw [List.length_map, k2.length_eq, sizeLine_eq]
    omega
  refine wpAny_pure ⟨_, rfl, .ref h'.objs.size, upd H h'.objs.size (.lst ((out.map St.sv).map V.str)), I1.laid (t' := tk) (fun b u e => ?_) (Nat.le_refl _)
    (show ObjOk X.prog X.w _ _ _ (.lst ((out.map St.sv).map V.str)) from ⟨hlen, out, e', vals_of_strs k1, he'⟩), rfl, q _ _ k2 k3 (I1.hok.fresh (Nat.le_refl _))⟩
  have hb : b < h'.objs.size := Heap.lt_size e
  rw [PyProof.Rows.sortedHeap_old (Nat.ne_of_lt hb) (by rw [size_push']; exact Nat.lt_succ_of_lt hb)]
  exact Heap.get?_push_of_some _ e
theorem cr_sortedDIA (hcalm : X.calm = true) : CallR X (.builtin "sorted") rSortedDIA := by
  intro pins s σ H xs us Q I r q
  obtain ⟨a, kvs, ks, ex, hd, hks, h64, q⟩ := q
  subst ex
  obtain ⟨u, eu, rx⟩ := vals1 r
  subst eu
  cases rx
  obtain ⟨z, lo, vs, rel, dd⟩ := dk_rd I.hok hd
  obtain ⟨ep, hat⟩ := dd.dictAt
  have hkeys : vs.map (·.1) = ks.map Sum.inl := rel.keys.symm.trans hks
  have hl : vs.length = ks.length := by
    have e := congrArg List.length hkeys
    rw [List.length_map, List.length_map] at e
    exact e
  have h16 : vs.length ≤ sizeLine := by rw [hl, sizeLine_eq]; omega
  refine Calls.call_function_entry PyProof.Rows.kind_sorted PyProof.Rows.plain_sorted PyProof.Rows.entry_sorted (PyProof.Rows.args_sorted1 _) ?_
  unfold Builtin.«sorted»
  refine wpAny_bind (m := checkCount "sorted" 1 1 _) (wpAny_pure ?_)
  refine wpAny_bind (PySem.W.kdu_collect (A := X.A.in1) (PySem.W.kdl_dict (knd := mixKind X.prog X.w) (kvs := vs) (ep := ep) lo) (I.ok.hd hcalm) hat h16 fun h' tk acc hk hacc => ?_)
  have hal : acc.toList.length = ks.length := by rw [Array.length_toList, hacc.1, hl]
  have hS : IntsAre acc.toList ks := ints_each hal fun j v e => by
    obtain ⟨k, x, e1, e2⟩ := hacc.2 j v (by rw [← Array.getElem?_toList]; exact e)
    have e3 : (vs.map (·.1))[j]? = some k := by rw [List.getElem?_map, e1]; all_goals rfl
    rw [hkeys, List.getElem?_map] at e3
    cases e4 : ks[j]? with
    | none => rw [e4] at e3; cases e3
    | some y =>
      rw [e4] at e3
      have e5 : Sum.inl y = k := Option.some.inj e3
      subst e5
      rcases keyIs_shape (show keyIs (Sum.inl y) v = true from e2) with ⟨i, t, ek, ev⟩ | ⟨z, t, ek, ev⟩
      · cases ek
        exact ⟨y, t, rfl, ev⟩
      · cases ek
  have I1 : Inv X pins σ H { s with heap := h', toks := tk } := I.kept hk
  refine wpAny_bind (wpAny_newList ?_ (by rw [hal, sizeLine_eq]; omega))
  have hoL : (h'.push (seqObj "list" acc.toList.toArray 0)).get? h'.objs.size = some (seqObj "list" acc.toList.toArray 0) := Heap.get?_push_size _ rfl
  show wpAny _ _ _ _ _ { s with heap := h'.push (seqObj "list" acc.toList.toArray 0), toks := tk }
  refine wpAny_bind (wpAny_holding (wpAny_call_entry PyProof.Rows.slot_list_sort ⟨_, hoL, rfl⟩ PyProof.Rows.entry_list_sort
    (SrtO.list_sort_ord (s := { s with heap := h'.push (seqObj "list" acc.toList.toArray 0), toks := tk }) SrtO.swo_int hoL (by rw [hal, sizeLine_eq]; omega) (fun h2 => SrtO.ints_sortable hS h2) fun out h1 h2 => ⟨_, rfl, ?_⟩)
    (PyProof.Rows.args_list_sort _)))
  obtain ⟨k1, k2, k3⟩ := SrtO.ints_out hS h1 h2
  obtain ⟨e', he'⟩ := PyProof.Rows.sortedHeap_at (vs := acc.toList) (out := out.toArray) hoL
  have hlen : ((out.map SrtO.iv).map V.int).length ≤ sizeLine := by
    rw [List.length_map, k2.length_eq, sizeLine_eq]
    omega
  refine wpAny_pure ⟨_, rfl, .ref h'.objs.size, upd H h'.objs.size (.lst ((out.map SrtO.iv).map V.int)), I1.laid (t' := tk) (fun b u e => ?_) (Nat.le_refl _)
    (show ObjOk X.prog X.w _ _ _ (.lst ((out.map SrtO.iv).map V.int)) from ⟨hlen, out, e', vals_of_ints k1, he'⟩), rfl, q _ _ k2 k3 (I1.hok.fresh (Nat.le_refl _))⟩
  have hb : b < h'.objs.size := Heap.lt_size e
  rw [PyProof.Rows.sortedHeap_old (Nat.ne_of_lt hb) (by rw [size_push']; exact Nat.lt_succ_of_lt hb)]
  exact Heap.get?_push_of_some _ e
end
end My
namespace My
open PySem PySem.Spec PyProof.Rows L2
/-- a list or a tuple -/
def SqQ (K : PySem.W.Frag) (H : Hp) (p : Addr) (xs : List V) : Prop := SqL K H p xs ∨ SqT K H p xs
theorem Gr.q {K : PySem.W.Frag} {H H' : Hp} {a : Addr} {xs : List V} (g : Gr H H') (h : SqQ K H a xs) : SqQ K H' a xs := h.imp (fun z => g.l z) fun z => g.t z
def rIxQ (K : PySem.W.Frag) : R2 := fun x y H Q => ∃ p xs i v, x = .ref p ∧ y = .int i ∧ SqQ K H p xs ∧ atI xs i = some v ∧ Q v H
def rLtS : R2 := fun x y H Q => ∃ i j, x = .str i ∧ y = .str j ∧ Q (.bl (decide (i.cps.toList < j.cps.toList))) H
section
variable {X : Cx}
theorem ixQ {K : PySem.W.Frag} (h : X.K = K) : IxR X (rIxQ K) := by
  subst h
  intro value slice pins s σ H x y v u Q I rx ry q hs
  obtain ⟨p, xs, i, z, e1, e2, hq, he, k⟩ := q
  refine ix_seq value slice pins s σ H x y v u Q I rx ry ?_ hs
  rcases hq with hq | hq
  · exact .inl ⟨p, xs, i, z, e1, e2, hq, he, k⟩
  · exact .inr (.inl ⟨p, xs, i, z, e1, e2, hq, he, k⟩)
theorem cSortedSA {K : PySem.W.Frag} (h : X.K = K) : CallR X (.builtin "sorted") (rSortedSA K) := h ▸ cr_sortedSA
theorem oLtS : OpR X (compareOp .Lt) rLtS := op_lt_str
end
section
variable {K : PySem.W.Frag} {σ : L2.St} {H : Hp} {Q : VK} {v x y z : V} {te td ty tv tx to ti : TE} {rt : VK} {n b c : L2.St → Hp → Prop}
theorem st_ixQ {p : Addr} {xs : List V} {i : Int} (h : SqQ K H p xs) (ha : atI xs i = some v) (q : Q v H) : rIxQ K (.ref p) (.int i) H Q := ⟨p, xs, i, v, rfl, rfl, h, ha, q⟩
theorem st_ixT {p : Addr} {xs : List V} {i : Int} (h : SqT K H p xs) (ha : atI xs i = some v) (q : Q v H) : rIxT K (.ref p) (.int i) H Q := ⟨p, xs, i, v, rfl, rfl, h, ha, q⟩
theorem st_ltS {i j : Str} (q : Q (.bl (ltS i j)) H) : rLtS (.str i) (.str j) H Q := ⟨i, j, rfl, rfl, q⟩
theorem st_lenQ {p : Addr} {ys : List V} (h : SqQ K H p ys) (q : Q (.int ys.length) H) : rLenQ K [.ref p] H Q := ⟨p, ys, rfl, h, q⟩
theorem st_listQ {p : Addr} {ys : List V} (h : SqQ K H p ys) (q : ∀ l, H l = none → Q (.ref l) (upd H l (.lst ys))) : rListOf K [.ref p] H Q := ⟨p, ys, rfl, h, q⟩
theorem st_dnewK (q : ∀ p, H p = none → Q (.ref p) (upd H p (.dK []))) : tDNewK σ H Q := q
theorem st_dget (h : td σ H fun x H1 => ty σ H1 fun y H2 => ∃ a v, x = .ref a ∧ DGet H2 a y (some v) ∧ Q v H2) : tDGet td ty σ H Q := h
theorem st_din (h : ty σ H fun y H1 => td σ H1 fun x H2 => ∃ a o, x = .ref a ∧ DGet H2 a y o ∧ Q (.bl o.isSome) H2) : tDIn ty td σ H Q := h
theorem st_dnotin (h : ty σ H fun y H1 => td σ H1 fun x H2 => ∃ a o, x = .ref a ∧ DGet H2 a y o ∧ Q (.bl (!o.isSome)) H2) : tDNotIn ty td σ H Q := h
theorem st_dput (h : tv σ H fun v H1 => td σ H1 fun x H2 => ty σ H2 fun y H3 => ∃ a H4, x = .ref a ∧ DPut H3 a y v H4 ∧ n σ H4) : sDPut td ty tv ⟨n, rt, b, c⟩ σ H := h
theorem st_daug {rd : V → V → Hp → VK → Prop} (h : td σ H fun x H1 => ty σ H1 fun y H2 => ∃ a v, x = .ref a ∧ DGet H2 a y (some v) ∧
  tv σ H2 fun y2 H3 => rd v y2 H3 fun z H4 => ∃ H5, DPut H4 a y z H5 ∧ n σ H5) : sDAug td ty tv rd ⟨n, rt, b, c⟩ σ H := h
theorem st_ddel (h : td σ H fun x H1 => ty σ H1 fun y H2 => ∃ a kvs k, x = .ref a ∧ H2 a = some (.dK kvs) ∧ y = kV k ∧ (valV kvs k).isSome = true ∧ n σ (upd H2 a (.dK (dropK kvs k)))) : sDDel td ty ⟨n, rt, b, c⟩ σ H := h
theorem st_dget2 (h : td σ H fun x H1 => ∃ a, x = .ref a ∧ IsD H1 a ∧ ty σ H1 fun y H2 => tx σ H2 fun z H3 => ∃ o, DGet H3 a y o ∧ Q (o.getD z) H3) : tDGet2 td ty tx σ H Q := h
theorem st_dpop2 (h : td σ H fun x H1 => ∃ a, x = .ref a ∧ IsD H1 a ∧ ty σ H1 fun y H2 => tx σ H2 fun z H3 => ∃ kvs k, H3 a = some (.dK kvs) ∧ y = kV k ∧
  (∀ v, valV kvs k = some v → Q v (upd H3 a (.dK (dropK kvs k)))) ∧ (valV kvs k = none → Q z H3)) : tDPop2 td ty tx σ H Q := h
/-- the leaves: a dict with number and text keys -/
theorem lf_dget {a : Addr} {kvs : List (Key × V)} {k : Key} {P : V → Prop} (h : H a = some (.dK kvs)) (e : valV kvs k = some v) (q : P v) : ∃ a' v', V.ref a = .ref a' ∧ DGet H a' (kV k) (some v') ∧ P v' := ⟨a, v, rfl, e ▸ DGet.k h, q⟩
theorem lf_din {a : Addr} {kvs : List (Key × V)} {k : Key} {P : Bool → Prop} (h : H a = some (.dK kvs)) (q : P (valV kvs k).isSome) : ∃ a' o, V.ref a = .ref a' ∧ DGet H a' (kV k) o ∧ P o.isSome := ⟨a, _, rfl, DGet.k h, q⟩
theorem lf_dput {a : Addr} {kvs : List (Key × V)} {k : Key} {P : Hp → Prop} (h : H a = some (.dK kvs)) (hz : kvs.length < 1000000) (q : P (upd H a (.dK (putK kvs k v)))) : ∃ a' H4, V.ref a = .ref a' ∧ DPut H a' (kV k) v H4 ∧ P H4 := ⟨a, _, rfl, DPut.k h (sz_lt hz), q⟩
theorem st_delL (h : to σ H fun x H1 => ti σ H1 fun y H2 => ∃ (l : Addr) (xs : List V) (i : Int) (k : Nat), x = .ref l ∧ y = .int i ∧ H2 l = some (.lst xs) ∧ -(2 ^ 63) ≤ i ∧ i < 2 ^ 63 ∧ seqIndex? i xs.length = some k ∧ n σ (upd H2 l (.lst (xs.eraseIdx k)))) : tDelL to ti ⟨n, rt, b, c⟩ σ H := h
theorem seqIx_nat {j m : Nat} (h : j < m) : seqIndex? (j : Int) m = some j := by
  have e : ixN m (j : Int) = some j := by
    unfold ixN
    rw [if_pos (Int.natCast_nonneg j), if_pos (by omega), Int.toNat_natCast]
  exact (ixN_seq e).1
theorem lf_delL {l : Addr} {xs : List V} {j : Nat} {P : Hp → Prop} (h : H l = some (.lst xs)) (hj : j < xs.length) (hz : xs.length ≤ 1000000) (q : P (upd H l (.lst (xs.eraseIdx j)))) :
    ∃ (l' : Addr) (xs : List V) (i : Int) (k : Nat), V.ref l = .ref l' ∧ V.int (j : Int) = .int i ∧ H l' = some (.lst xs) ∧ -(2 ^ 63) ≤ i ∧ i < 2 ^ 63 ∧ seqIndex? i xs.length = some k ∧ P (upd H l' (.lst (xs.eraseIdx k))) :=
  ⟨l, xs, (j : Int), j, rfl, rfl, h, by omega, by omega, seqIx_nat hj, q⟩
theorem ixN_nat {j m : Nat} (h : j < m) : ixN m (j : Int) = some j := by
  unfold ixN
  rw [if_pos (Int.natCast_nonneg j), if_pos (by omega), Int.toNat_natCast]
theorem st_neg {b : Bool} {A B : Prop} (h1 : b = true → A) (h2 : b = false → B) : if b = true then A else B := ite3 h1 h2
end
/-! ### a comprehension whose turns make things: what has been made, told of the heap -/
theorem lc_acc {J : It} {n : Nat} {G : Hp → Prop} {Y : Nat → V → Prop} {j : Nat} {tt : TT} {te : TE} {vs : List Nat} {σ : L2.St} {H1 : Hp} {Q : VK} (w : Walk J n G (fun i H x H' => H' = H ∧ Y i x)) (hG : ∀ H', Gr H1 H' → G H') (A : Nat → List V → Hp → Prop)
    (a0 : ∀ H2, Gr H1 H2 → A 0 [] H2) (am : ∀ i acc H H', Gr H H' → A i acc H → A i acc H') (au : ∀ i acc H D xs ys, H D = some (.lst xs) → H1 D = none → A i acc H → A i acc (upd H D (.lst ys)))
    (hs : ∀ i x acc H2, i < n → Y i x → Gr H1 H2 → A i acc H2 → ∀ (Qy : VK) (Qn : Hp → Prop), (∀ v H3, Gr H2 H3 → A (i + 1) (acc ++ [v]) H3 → Qy v H3) → (∀ H3, Gr H2 H3 → A (i + 1) acc H3 → Qn H3) → tt ((wipe σ vs).set j (some x)) H2 fun b H3 => if b = true then te ((wipe σ vs).set j (some x)) H3 Qy else Qn H3)
    (hq : ∀ D acc H2, H1 D = none → Gr H1 H2 → H2 D = some (.lst acc) → acc.length ≤ n → A n acc H2 → Q (.ref D) H2)
    (hn : n ≤ 1000000) (hw : ∀ x, wipe ((wipe σ vs).set j (some x)) vs = wipe σ vs) : LC (gName j) tt te vs σ Q J H1 := by
  intro D hD
  refine lc_it w (fun i H' => Gr H1 H' ∧ ∃ acc, H' D = some (.lst acc) ∧ acc.length ≤ i ∧ A i acc H') ⟨Gr.new hD, [], upd_same, Nat.le_refl _, a0 _ (Gr.new hD)⟩ (fun i H' _ p => hG H' p.1) ?_ (fun H' p => ?_)
  · rintro i x H' H'' hi ⟨g, acc, e, hl, ha⟩ ⟨rfl, y⟩
    refine ⟨hw x, hs i x acc H'' hi y g ha _ _ (fun v H3 g3 a3 => ?_) (fun H3 g3 a3 => ?_)⟩
    · refine ⟨acc, g3.lst e, sz_lt (by omega), (g.trans g3).mut hD, acc ++ [v], upd_same, ?_, au _ _ _ _ _ _ (g3.lst e) hD a3⟩
      rw [List.length_append, List.length_singleton]
      omega
    · exact ⟨g.trans g3, acc, g3.lst e, by omega, a3⟩
  · obtain ⟨g, acc, e, hl, ha⟩ := p
    exact hq D acc H' hD g e hl ha
end My
namespace My
open PySem PySem.Spec PyProof.Rows L2
/-! ### rows: pairs of a name and a number, the names rising -/
abbrev Rw := List (Str × Int)
inductive Prs (K : PySem.W.Frag) (H : Hp) : List V → Rw → Prop
  | nil : Prs K H [] []
  | cons {p : Addr} {n : Str} {b : Int} {vs : List V} {rs : Rw} : SqT K H p [.str n, .int b] → Prs K H vs rs → Prs K H (.ref p :: vs) ((n, b) :: rs)
section
variable {K : PySem.W.Frag} {H H' : Hp}
theorem Prs.len : ∀ {vs : List V} {rs : Rw}, Prs K H vs rs → vs.length = rs.length
  | _, _, .nil => rfl
  | _, _, .cons _ r => congrArg (· + 1) r.len
theorem Prs.imp (g : ∀ p xs, SqT K H p xs → SqT K H' p xs) : ∀ {vs : List V} {rs : Rw}, Prs K H vs rs → Prs K H' vs rs
  | _, _, .nil => .nil
  | _, _, .cons a r => .cons (g _ _ a) (r.imp g)
theorem Prs.gr (g : Gr H H') {vs : List V} {rs : Rw} (h : Prs K H vs rs) : Prs K H' vs rs := h.imp fun _ _ => g.t
/-- a list changed -/
theorem sqT_mut {D p : Addr} {xs ys zs : List V} (e : H D = some (.lst xs)) (h : SqT K H p zs) : SqT K (upd H D (.lst ys)) p zs := by
  rcases h with (h | ⟨o, h⟩) | h
  · exact .inl (.inl (by rw [upd_ne (ne_of h e (by intro z; cases z))]; exact h))
  · exact .inl (.inr ⟨o, by rw [upd_ne (ne_of h e (by intro z; cases z))]; exact h⟩)
  · exact .inr h
theorem sqT_mutD {D p : Addr} {xs ys : List (Key × V)} {zs : List V} (e : H D = some (.dK xs)) (h : SqT K H p zs) : SqT K (upd H D (.dK ys)) p zs := by
  rcases h with (h | ⟨o, h⟩) | h
  · exact .inl (.inl (by rw [upd_ne (ne_of h e (by intro z; cases z))]; exact h))
  · exact .inl (.inr ⟨o, by rw [upd_ne (ne_of h e (by intro z; cases z))]; exact h⟩)
  · exact .inr h
theorem Prs.mut {D : Addr} {xs ys : List V} (e : H D = some (.lst xs)) {vs : List V} {rs : Rw} (h : Prs K H vs rs) : Prs K (upd H D (.lst ys)) vs rs := h.imp fun _ _ => sqT_mut e
theorem Prs.mutD {D : Addr} {xs ys : List (Key × V)} (e : H D = some (.dK xs)) {vs : List V} {rs : Rw} (h : Prs K H vs rs) : Prs K (upd H D (.dK ys)) vs rs := h.imp fun _ _ => sqT_mutD e
theorem Prs.at : ∀ {vs : List V} {rs : Rw} {i : Nat} {r : Str × Int}, Prs K H vs rs → rs[i]? = some r → ∃ p, vs[i]? = some (.ref p) ∧ SqT K H p [.str r.1, .int r.2]
  | _, _, i, r, .nil, h => by simp at h
  | _, _, 0, r, .cons (n := n) (b := b) a _, h => by
    have e : (n, b) = r := by simpa using h
    subst e
    exact ⟨_, rfl, a⟩
  | _, _, i + 1, r, .cons _ q, h => q.at (by simpa using h)
theorem Prs.back : ∀ {vs : List V} {rs : Rw} {i : Nat} {v : V}, Prs K H vs rs → vs[i]? = some v → ∃ p r, v = .ref p ∧ rs[i]? = some r ∧ SqT K H p [.str r.1, .int r.2]
  | _, _, i, r, .nil, h => by simp at h
  | _, _, 0, v, .cons (n := n) (b := b) a _, h => by
    have e := (Option.some.inj (show some _ = some v from h)).symm
    exact ⟨_, (n, b), e, rfl, a⟩
  | _, _, i + 1, v, .cons _ q, h => q.back (by simpa using h)
theorem Prs.app : ∀ {vs : List V} {rs : Rw} {ws : List V} {qs : Rw}, Prs K H vs rs → Prs K H ws qs → Prs K H (vs ++ ws) (rs ++ qs)
  | _, _, _, _, .nil, h => h
  | _, _, _, _, .cons a r, h => .cons a (r.app h)
theorem Prs.take : ∀ {vs : List V} {rs : Rw} (i : Nat), Prs K H vs rs → Prs K H (vs.take i) (rs.take i)
  | _, _, 0, _ => by rw [List.take_zero, List.take_zero]; exact .nil
  | _, _, i + 1, .nil => by rw [List.take_nil, List.take_nil]; exact .nil
  | _, _, i + 1, .cons a r => .cons a (r.take i)
theorem Prs.drop : ∀ {vs : List V} {rs : Rw} (i : Nat), Prs K H vs rs → Prs K H (vs.drop i) (rs.drop i)
  | _, _, 0, h => h
  | _, _, i + 1, .nil => by rw [List.drop_nil, List.drop_nil]; exact .nil
  | _, _, i + 1, .cons a r => r.drop i
theorem Prs.one {p : Addr} {n : Str} {b : Int} (h : SqT K H p [.str n, .int b]) : Prs K H [.ref p] [(n, b)] := .cons h .nil
end
def SrR (rs : Rw) : Prop := rs.Pairwise fun a b => ltS a.1 b.1 = true
def lo (rs : Rw) (n : Str) : Rw := rs.filter fun r => ltS r.1 n
def hi (rs : Rw) (n : Str) : Rw := rs.filter fun r => ltS n r.1
def mid (rs : Rw) (n : Str) : Rw := rs.filter fun r => decide (r.1 = n)
def place (rs : Rw) (n : Str) : Nat := (lo rs n).length
def putR (rs : Rw) (n : Str) (b : Int) : Rw := lo rs n ++ (n, b) :: hi rs n
def delR (rs : Rw) (n : Str) : Rw := lo rs n ++ hi rs n
def findR (rs : Rw) (n : Str) : Option Int := (rs.find? fun r => decide (r.1 = n)).map (·.2)
theorem place_le (rs : Rw) (n : Str) : place rs n ≤ rs.length := List.length_filter_le _ _
theorem ltS_or (a n : Str) : ltS a n = true ∨ a = n ∨ ltS n a = true := by
  cases h : ltS a n with
  | true => exact .inl rfl
  | false =>
    cases h2 : ltS n a with
    | true => exact .inr (.inr rfl)
    | false => exact .inr (.inl (ltS_tri h h2))
theorem all_above {rs : Rw} {n : Str} (h : ∀ r ∈ rs, ltS n r.1 = true) : lo rs n = [] ∧ mid rs n = [] ∧ hi rs n = rs := by
  refine ⟨List.filter_eq_nil_iff.mpr fun r m q => ?_, List.filter_eq_nil_iff.mpr fun r m q => ?_, List.filter_eq_self.mpr h⟩
  · rw [ltS_as (h r m)] at q
    cases q
  · have e := h r m
    rw [of_decide_eq_true q, ltS_irr] at e
    cases e
theorem split_rows : ∀ {rs : Rw} (n : Str), SrR rs → rs = lo rs n ++ (mid rs n ++ hi rs n)
  | [], _, _ => rfl
  | r :: rs, n, h => by
    obtain ⟨h1, h2⟩ := List.pairwise_cons.mp h
    rcases ltS_or r.1 n with e | e | e
    · have e1 : lo (r :: rs) n = r :: lo rs n := List.filter_cons_of_pos e
      have e2 : mid (r :: rs) n = mid rs n := List.filter_cons_of_neg (by simp [ltS_ne e])
      have e3 : hi (r :: rs) n = hi rs n := List.filter_cons_of_neg (by simp [ltS_as e])
      rw [e1, e2, e3]
      exact congrArg (r :: ·) (split_rows n h2)
    · obtain ⟨a1, a2, a3⟩ := all_above (rs := rs) (n := n) fun x m => e ▸ h1 x m
      have e1 : lo (r :: rs) n = lo rs n := List.filter_cons_of_neg (by simp [e, ltS_irr])
      have e2 : mid (r :: rs) n = r :: mid rs n := List.filter_cons_of_pos (by simp [e])
      have e3 : hi (r :: rs) n = hi rs n := List.filter_cons_of_neg (by simp [e, ltS_irr])
      rw [e1, e2, e3, a1, a2, a3] <;> rfl
    · obtain ⟨a1, a2, a3⟩ := all_above (rs := r :: rs) (n := n) fun x m => by
        rcases List.mem_cons.mp m with q | q
        · rw [q]; exact e
        · exact ltS_tr e (h1 x q)
      rw [a1, a2, a3] <;> rfl
theorem mid_le : ∀ {rs : Rw} (n : Str), SrR rs → mid rs n = [] ∨ ∃ b, mid rs n = [(n, b)]
  | [], _, _ => .inl rfl
  | r :: rs, n, h => by
    obtain ⟨h1, h2⟩ := List.pairwise_cons.mp h
    by_cases e : r.1 = n
    · right
      obtain ⟨_, a2, _⟩ := all_above (rs := rs) (n := n) fun x m => e ▸ h1 x m
      refine ⟨r.2, ?_⟩
      have e2 : mid (r :: rs) n = r :: mid rs n := List.filter_cons_of_pos (by simp [e])
      rw [e2, a2, ← e]
    · have e2 : mid (r :: rs) n = mid rs n := List.filter_cons_of_neg (by simp [e])
      rw [e2]
      exact mid_le n h2
theorem find_mid (rs : Rw) (n : Str) : findR rs n = (mid rs n).head?.map (·.2) := by
  unfold findR mid
  rw [List.head?_filter]
theorem take_place {rs : Rw} (n : Str) (h : SrR rs) : rs.take (place rs n) = lo rs n := by
  have e := split_rows n h
  have e2 : rs.take (place rs n) = (lo rs n ++ (mid rs n ++ hi rs n)).take (place rs n) := by rw [← e]
  rw [e2]
  exact List.take_left
theorem drop_place {rs : Rw} (n : Str) (h : SrR rs) : rs.drop (place rs n) = mid rs n ++ hi rs n := by
  have e := split_rows n h
  have e2 : rs.drop (place rs n) = (lo rs n ++ (mid rs n ++ hi rs n)).drop (place rs n) := by rw [← e]
  rw [e2]
  exact List.drop_left
/-- a row stands ahead just where its name is below -/
theorem below_iff {rs : Rw} {n : Str} (h : SrR rs) {i : Nat} {r : Str × Int} (hr : rs[i]? = some r) : ltS r.1 n = true ↔ i < place rs n := by
  by_cases hi : i < place rs n
  · refine ⟨fun _ => hi, fun _ => ?_⟩
    have e : (rs.take (place rs n))[i]? = some r := by rw [List.getElem?_take_of_lt hi]; exact hr
    rw [take_place n h] at e
    have hm := List.mem_of_getElem? e
    exact (List.mem_filter.mp hm).2
  · refine ⟨fun q => ?_, fun q => absurd q hi⟩
    have e : (rs.drop (place rs n))[i - place rs n]? = some r := by
      rw [List.getElem?_drop, Nat.add_sub_cancel' (Nat.not_lt.mp hi)]
      exact hr
    rw [drop_place n h] at e
    have hm := List.mem_of_getElem? e
    rcases List.mem_append.mp hm with hm | hm
    · have z := of_decide_eq_true (List.mem_filter.mp hm).2
      rw [z, ltS_irr] at q
      cases q
    · have z := (List.mem_filter.mp hm).2
      rw [ltS_as z] at q
      cases q
def isAt (rs : Rw) (n : Str) (k : Nat) : Bool := match rs[k]? with
  | some r => decide (r.1 = n)
  | none => false
theorem isAt_yes {rs : Rw} {n : Str} (h : SrR rs) (e : isAt rs n (place rs n) = true) : ∃ b, rs[place rs n]? = some (n, b) ∧ findR rs n = some b ∧ rs.drop (place rs n + 1) = hi rs n ∧ mid rs n = [(n, b)] := by
  unfold isAt at e
  rcases mid_le n h with m | ⟨b, m⟩
  · exfalso
    have e2 : rs[place rs n]? = (hi rs n)[0]? := by
      have := drop_place n h
      rw [m, List.nil_append] at this
      rw [← this, List.getElem?_drop] <;> rfl
    rw [e2] at e
    cases q : (hi rs n)[0]? with
    | none => rw [q] at e; cases e
    | some r =>
      rw [q] at e
      have z := (List.mem_filter.mp (List.mem_of_getElem? q)).2
      rw [of_decide_eq_true e, ltS_irr] at z
      cases z
  · have dp := drop_place n h
    rw [m] at dp
    refine ⟨b, ?_, ?_, ?_, m⟩
    · have : (rs.drop (place rs n))[0]? = some (n, b) := by rw [dp] <;> rfl
      rw [List.getElem?_drop] at this
      exact this
    · rw [find_mid, m] <;> rfl
    · have : (rs.drop (place rs n)).drop 1 = hi rs n := by rw [dp] <;> rfl
      rw [List.drop_drop] at this
      exact this
theorem isAt_no {rs : Rw} {n : Str} (h : SrR rs) (e : isAt rs n (place rs n) = false) : findR rs n = none ∧ rs.drop (place rs n) = hi rs n ∧ mid rs n = [] := by
  rcases mid_le n h with m | ⟨b, m⟩
  · refine ⟨?_, ?_, m⟩
    · rw [find_mid, m] <;> rfl
    · rw [drop_place n h, m] <;> rfl
  · exfalso
    have dp := drop_place n h
    rw [m] at dp
    have : (rs.drop (place rs n))[0]? = some (n, b) := by rw [dp] <;> rfl
    rw [List.getElem?_drop] at this
    have q : rs[place rs n]? = some (n, b) := this
    unfold isAt at e
    rw [q] at e
    simp at e
theorem delR_of_no {rs : Rw} {n : Str} (h : SrR rs) (m : mid rs n = []) : delR rs n = rs := by
  have e := split_rows n h
  rw [m, List.nil_append] at e
  exact e.symm
theorem SrR.lo_lt {rs : Rw} (n : Str) : ∀ r ∈ lo rs n, ltS r.1 n = true := fun r m => (List.mem_filter.mp m).2
theorem SrR.hi_gt {rs : Rw} (n : Str) : ∀ r ∈ hi rs n, ltS n r.1 = true := fun r m => (List.mem_filter.mp m).2
theorem SrR.put {rs : Rw} (h : SrR rs) (n : Str) (b : Int) : SrR (putR rs n b) := by
  refine List.pairwise_append.mpr ⟨h.sublist List.filter_sublist, List.pairwise_cons.mpr ⟨fun r m => SrR.hi_gt n r m, h.sublist List.filter_sublist⟩, fun x hx y hy => ?_⟩
  have h1 := SrR.lo_lt n x hx
  rcases List.mem_cons.mp hy with e | hy
  · rw [e]; exact h1
  · exact ltS_tr h1 (SrR.hi_gt n y hy)
theorem SrR.del {rs : Rw} (h : SrR rs) (n : Str) : SrR (delR rs n) :=
  List.pairwise_append.mpr ⟨h.sublist List.filter_sublist, h.sublist List.filter_sublist, fun x hx y hy => ltS_tr (SrR.lo_lt n x hx) (SrR.hi_gt n y hy)⟩
theorem putR_len (rs : Rw) (n : Str) (b : Int) : (putR rs n b).length ≤ rs.length + 1 := by
  have h : (lo rs n).length + (hi rs n).length ≤ rs.length := by
    unfold lo hi
    clear b
    induction rs with
    | nil => exact Nat.le_refl _
    | cons r rs ih =>
      rw [List.filter_cons, List.filter_cons]
      cases e1 : ltS r.1 n with
      | true =>
        rw [ltS_as e1]
        simp only [if_true, List.length_cons, Bool.false_eq_true, if_false]
        omega
      | false =>
        cases e2 : ltS n r.1 with
        | true =>
          simp only [if_true, List.length_cons, Bool.false_eq_true, if_false]
          omega
        | false =>
          simp only [List.length_cons, Bool.false_eq_true, if_false]
          omega
  unfold putR
  rw [List.length_append, List.length_cons]
  omega
end My
namespace My
open PySem PySem.Spec PyProof.Rows L2
/-! ### a dict with text keys and numbers as rows without an order -/
def kvR (m : Rw) : List (Key × V) := m.map fun r => ((Sum.inr r.1 : Key), V.int r.2)
def putM (m : Rw) (n : Str) (b : Int) : Rw := if (m.any fun r => decide (r.1 = n)) = true then m.map (fun r => if r.1 = n then (r.1, b) else r) else m ++ [(n, b)]
theorem findR_nil (n : Str) : findR [] n = none := rfl
theorem findR_cons (r : Str × Int) (m : Rw) (n : Str) : findR (r :: m) n = if r.1 = n then some r.2 else findR m n := by
  unfold findR
  by_cases e : r.1 = n
  · rw [if_pos e, List.find?_cons_of_pos (by simp [e])] <;> rfl
  · rw [if_neg e, List.find?_cons_of_neg (by simp [e])]
theorem findR_app (m m' : Rw) (n : Str) : findR (m ++ m') n = (findR m n).or (findR m' n) := by
  unfold findR
  rw [List.find?_append]
  cases List.find? (fun r => decide (r.1 = n)) m <;> rfl
theorem findR_none {m : Rw} {n : Str} : findR m n = none ↔ n ∉ m.map (·.1) := by
  induction m with
  | nil => simp [findR_nil]
  | cons r m ih =>
    rw [findR_cons]
    by_cases e : r.1 = n
    · rw [if_pos e]
      constructor
      · intro h; cases h
      · intro h; exact absurd (by rw [List.map_cons, e]; exact List.mem_cons_self) h
    · rw [if_neg e, ih, List.map_cons, List.mem_cons]
      constructor
      · intro h q
        rcases q with q | q
        · exact e q.symm
        · exact h q
      · intro h q; exact h (.inr q)
theorem key_inr {a b : Str} : ((Sum.inr a : Key) = Sum.inr b) ↔ a = b := ⟨fun h => Sum.inr.inj h, fun h => by rw [h]⟩
theorem kvR_val (m : Rw) (n : Str) : valV (kvR m) (Sum.inr n) = (findR m n).map V.int := by
  induction m with
  | nil => rfl
  | cons r m ih =>
    rw [findR_cons]
    by_cases e : r.1 = n
    · rw [if_pos e]
      exact valV_pos (p := ((Sum.inr r.1 : Key), V.int r.2)) (r := kvR m) (key_inr.mpr e)
    · rw [if_neg e, ← ih]
      exact valV_neg (p := ((Sum.inr r.1 : Key), V.int r.2)) (r := kvR m) fun q => e (key_inr.mp q)
theorem kvR_any (m : Rw) (n : Str) : ((kvR m).any fun kv => decide (kv.1 = (Sum.inr n : Key))) = m.any fun r => decide (r.1 = n) := by
  induction m with
  | nil => rfl
  | cons r m ih =>
    show (decide ((Sum.inr r.1 : Key) = Sum.inr n) || _) = (decide (r.1 = n) || _)
    rw [← ih, decide_eq_decide.mpr (key_inr (a := r.1) (b := n))] <;> rfl
theorem kvR_put (m : Rw) (n : Str) (b : Int) : putK (kvR m) (Sum.inr n) (V.int b) = kvR (putM m n b) := by
  unfold putK putM
  rw [kvR_any]
  by_cases e : (m.any fun r => decide (r.1 = n)) = true
  · rw [if_pos e, if_pos e]
    unfold kvR
    rw [List.map_map, List.map_map]
    refine List.map_congr_left fun r _ => ?_
    show (if (Sum.inr r.1 : Key) = Sum.inr n then ((Sum.inr r.1 : Key), V.int b) else ((Sum.inr r.1 : Key), V.int r.2)) = _
    by_cases q : r.1 = n
    · rw [if_pos (key_inr.mpr q)]
      show _ = ((Sum.inr (if r.1 = n then (r.1, b) else r).1 : Key), V.int (if r.1 = n then (r.1, b) else r).2)
      rw [if_pos q]
    · rw [if_neg fun z => q (key_inr.mp z)]
      show _ = ((Sum.inr (if r.1 = n then (r.1, b) else r).1 : Key), V.int (if r.1 = n then (r.1, b) else r).2)
      rw [if_neg q]
  · rw [if_neg e, if_neg e]
    unfold kvR
    rw [List.map_append] <;> rfl
theorem any_find (m : Rw) (n : Str) : (m.any fun r => decide (r.1 = n)) = (findR m n).isSome := by
  induction m with
  | nil => rfl
  | cons r m ih =>
    rw [findR_cons, List.any_cons, ih]
    by_cases e : r.1 = n
    · rw [if_pos e, decide_eq_true e] <;> rfl
    · rw [if_neg e, decide_eq_false e] <;> rfl
theorem putM_keys (m : Rw) (n : Str) (b : Int) : (putM m n b).map (·.1) = if (findR m n).isSome = true then m.map (·.1) else m.map (·.1) ++ [n] := by
  unfold putM
  rw [any_find]
  by_cases e : (findR m n).isSome = true
  · rw [if_pos e, if_pos e, List.map_map]
    refine List.map_congr_left fun r _ => ?_
    show (if r.1 = n then (r.1, b) else r).1 = r.1
    by_cases q : r.1 = n
    · rw [if_pos q]
    · rw [if_neg q]
  · rw [if_neg e, if_neg e, List.map_append] <;> rfl
theorem putM_nodup {m : Rw} (h : (m.map (·.1)).Nodup) (n : Str) (b : Int) : ((putM m n b).map (·.1)).Nodup := by
  rw [putM_keys]
  by_cases e : (findR m n).isSome = true
  · rw [if_pos e]; exact h
  · rw [if_neg e]
    have e2 : findR m n = none := by
      cases q : findR m n with
      | none => rfl
      | some v => rw [q] at e; exact absurd rfl e
    have hn := findR_none.mp e2
    refine List.nodup_append.mpr ⟨h, List.nodup_cons.mpr ⟨by simp, List.nodup_nil⟩, fun a ha c hc q => ?_⟩
    rw [List.mem_singleton.mp hc] at q
    rw [q] at ha
    exact hn ha
theorem putM_len (m : Rw) (n : Str) (b : Int) : (putM m n b).length ≤ m.length + 1 := by
  unfold putM
  split
  · rw [List.length_map]; omega
  · rw [List.length_append, List.length_singleton]; exact Nat.le_refl _
theorem findR_map (m : Rw) (n : Str) (b : Int) (k : Str) : findR (m.map fun r => if r.1 = n then (r.1, b) else r) k = if k = n then (findR m k).map (fun _ => b) else findR m k := by
  induction m with
  | nil => rw [List.map_nil, findR_nil]; split <;> rfl
  | cons r m ih =>
    rw [List.map_cons, findR_cons, findR_cons, ih]
    by_cases q : r.1 = n
    · rw [if_pos q]
      show (if r.1 = k then some b else _) = _
      by_cases e : r.1 = k
      · rw [if_pos e, if_pos e, if_pos (e.symm.trans q)] <;> rfl
      · have : ¬ k = n := fun z => e (q.trans z.symm)
        rw [if_neg e, if_neg e, if_neg this]
    · rw [if_neg q]
      by_cases e : r.1 = k
      · have : ¬ k = n := fun z => q (e.trans z)
        rw [if_pos e, if_neg this, if_pos e]
      · rw [if_neg e, if_neg e]
theorem findR_putM (m : Rw) (n : Str) (b : Int) (k : Str) : findR (putM m n b) k = if k = n then some b else findR m k := by
  unfold putM
  rw [any_find]
  by_cases e : (findR m n).isSome = true
  · rw [if_pos e, findR_map]
    by_cases q : k = n
    · rw [if_pos q, if_pos q, q]
      cases z : findR m n with
      | none => rw [z] at e; cases e
      | some v => rfl
    · rw [if_neg q, if_neg q]
  · rw [if_neg e, findR_app, findR_cons, findR_nil]
    have e2 : findR m n = none := by
      cases q : findR m n with
      | none => rfl
      | some v => rw [q] at e; exact absurd rfl e
    by_cases q : k = n
    · rw [if_pos q, if_pos q.symm, q, e2] <;> rfl
    · rw [if_neg q, if_neg fun z => q z.symm]
      cases findR m k <;> rfl
/-! ### rows told by what they find -/
theorem SrR.head_none {r : Str × Int} {rs : Rw} (h : SrR (r :: rs)) {k : Str} (hk : ltS k r.1 = true ∨ k = r.1) : findR rs k = none := by
  refine findR_none.mpr fun m => ?_
  obtain ⟨x, hx, e⟩ := List.mem_map.mp m
  have h1 := (List.pairwise_cons.mp h).1 x hx
  rw [e] at h1
  rcases hk with q | q
  · rw [ltS_as q] at h1; cases h1
  · rw [q, ltS_irr] at h1; cases h1
theorem SrR.ext : ∀ {a b : Rw}, SrR a → SrR b → (∀ n, findR a n = findR b n) → a = b
  | [], [], _, _, _ => rfl
  | [], r :: b, _, _, h => by
    have := h r.1
    rw [findR_nil, findR_cons, if_pos rfl] at this
    cases this
  | r :: a, [], _, _, h => by
    have := h r.1
    rw [findR_nil, findR_cons, if_pos rfl] at this
    cases this
  | r :: a, q :: b, ha, hb, h => by
    have e : r.1 = q.1 := by
      rcases ltS_or r.1 q.1 with e | e | e
      · have z := h r.1
        rw [findR_cons, if_pos rfl, findR_cons, if_neg fun u => ltS_ne e u.symm, hb.head_none (.inl e)] at z
        cases z
      · exact e
      · have z := h q.1
        rw [findR_cons, if_neg fun u => ltS_ne e u.symm, ha.head_none (.inl e), findR_cons, if_pos rfl] at z
        cases z
    have e2 : r.2 = q.2 := by
      have z := h r.1
      rw [findR_cons, if_pos rfl, findR_cons, if_pos e.symm] at z
      exact Option.some.inj z
    have e3 : r = q := Prod.ext e e2
    have e4 : a = b := SrR.ext (List.pairwise_cons.mp ha).2 (List.pairwise_cons.mp hb).2 fun n => by
      have z := h n
      rw [findR_cons, findR_cons] at z
      by_cases u : r.1 = n
      · rw [ha.head_none (.inr u.symm), hb.head_none (.inr (u.symm.trans e))]
      · rw [if_neg u, if_neg fun w => u (e.trans w)] at z
        exact z
    rw [e3, e4]
theorem findR_lo (rs : Rw) (n k : Str) : findR (lo rs n) k = if ltS k n = true then findR rs k else none := by
  induction rs with
  | nil => unfold lo; rw [List.filter_nil, findR_nil]; split <;> rfl
  | cons r rs ih =>
    unfold lo
    rw [List.filter_cons]
    by_cases e : ltS r.1 n = true
    · rw [if_pos e, findR_cons, findR_cons]
      by_cases q : r.1 = k
      · rw [if_pos q, if_pos q, if_pos (q ▸ e)]
      · rw [if_neg q, if_neg q]; exact ih
    · rw [if_neg e, findR_cons]
      by_cases q : r.1 = k
      · rw [if_pos q]
        have z := ih
        unfold lo at z
        rw [if_neg (q ▸ e)] at z ⊢
        exact z
      · rw [if_neg q]; exact ih
theorem findR_hi (rs : Rw) (n k : Str) : findR (hi rs n) k = if ltS n k = true then findR rs k else none := by
  induction rs with
  | nil => unfold hi; rw [List.filter_nil, findR_nil]; split <;> rfl
  | cons r rs ih =>
    unfold hi
    rw [List.filter_cons]
    by_cases e : ltS n r.1 = true
    · rw [if_pos e, findR_cons, findR_cons]
      by_cases q : r.1 = k
      · rw [if_pos q, if_pos q, if_pos (q ▸ e)]
      · rw [if_neg q, if_neg q]; exact ih
    · rw [if_neg e, findR_cons]
      by_cases q : r.1 = k
      · rw [if_pos q]
        have z := ih
        unfold hi at z
        rw [if_neg (q ▸ e)] at z ⊢
        exact z
      · rw [if_neg q]; exact ih
theorem findR_putR (rs : Rw) (n : Str) (b : Int) (k : Str) : findR (putR rs n b) k = if k = n then some b else findR rs k := by
  unfold putR
  rw [findR_app, findR_lo, findR_cons, findR_hi]
  rcases ltS_or k n with e | e | e
  · rw [if_pos e, if_neg (ltS_ne e), if_neg fun z => ltS_ne e z.symm, ltS_as e]
    cases findR rs k <;> rfl
  · rw [if_pos e, if_pos e.symm, e, ltS_irr] <;> rfl
  · rw [if_neg (by rw [ltS_as e]; simp), if_neg (fun z => ltS_ne e z : ¬ n = k), if_pos e, if_neg (fun z => ltS_ne e z.symm : ¬ k = n)] <;> rfl
theorem findR_delR (rs : Rw) (n : Str) (k : Str) : findR (delR rs n) k = if k = n then none else findR rs k := by
  unfold delR
  rw [findR_app, findR_lo, findR_hi]
  rcases ltS_or k n with e | e | e
  · rw [if_pos e, if_neg (ltS_ne e), ltS_as e]
    cases findR rs k <;> rfl
  · rw [if_pos e, e, ltS_irr] <;> rfl
  · rw [if_neg (by rw [ltS_as e]; simp), if_pos e, if_neg (fun z => ltS_ne e z.symm : ¬ k = n)] <;> rfl
theorem findR_filter (rs : Rw) (n k : Str) : findR (rs.filter fun r => !decide (r.1 = n)) k = if k = n then none else findR rs k := by
  induction rs with
  | nil => rw [List.filter_nil, findR_nil]; split <;> rfl
  | cons r rs ih =>
    rw [List.filter_cons]
    by_cases e : r.1 = n
    · rw [decide_eq_true e]
      show findR (rs.filter _) k = _
      rw [ih, findR_cons]
      by_cases q : k = n
      · rw [if_pos q, if_pos q]
      · rw [if_neg q, if_neg q, if_neg fun z => q (z.symm.trans e)]
    · rw [decide_eq_false e]
      show findR (r :: rs.filter _) k = _
      rw [findR_cons, ih, findR_cons]
      by_cases q : r.1 = k
      · rw [if_pos q, if_pos q, if_neg fun z => e (q.trans z)]
      · rw [if_neg q, if_neg q]
theorem delR_filter {rs : Rw} (h : SrR rs) (n : Str) : rs.filter (fun r => !decide (r.1 = n)) = delR rs n :=
  SrR.ext (h.sublist List.filter_sublist) (h.del n) fun k => by rw [findR_filter, findR_delR]
/-- the rows that a law makes of its dict: the keys sorted, each with its number -/
def rowsOf (m : Rw) (ys : List Str) : Rw := ys.map fun y => (y, (findR m y).getD 0)
theorem strict_of {ys : List Str} (h : SrtS ys) (hn : ys.Nodup) : ys.Pairwise fun a b => ltS a b = true := by
  refine (List.Pairwise.and h hn).imp fun {a b} ⟨h1, h2⟩ => ?_
  rcases ltS_or a b with e | e | e
  · exact e
  · exact absurd e h2
  · rw [e] at h1; cases h1
theorem rowsOf_srt {m : Rw} {ys : List Str} (hm : (m.map (·.1)).Nodup) (hp : ys.Perm (m.map (·.1))) (hs : SrtS ys) : SrR (rowsOf m ys) :=
  List.pairwise_map.mpr ((strict_of hs (hp.nodup_iff.mpr hm)).imp fun {a b} h => h)
theorem findR_rowsOf (m : Rw) (ys : List Str) (k : Str) : findR (rowsOf m ys) k = if k ∈ ys then some ((findR m k).getD 0) else none := by
  induction ys with
  | nil => rw [if_neg (by simp)] <;> rfl
  | cons y ys ih =>
    show findR ((y, _) :: rowsOf m ys) k = _
    rw [findR_cons, ih]
    by_cases e : y = k
    · rw [if_pos e, if_pos (by rw [e]; exact List.mem_cons_self)]
      show some ((findR m y).getD 0) = _
      rw [e]
    · rw [if_neg e]
      by_cases q : k ∈ ys
      · rw [if_pos q, if_pos (List.mem_cons_of_mem _ q)]
      · rw [if_neg q, if_neg fun z => (List.mem_cons.mp z).elim (fun u => e u.symm) q]
theorem rowsOf_find {m : Rw} {ys : List Str} (hp : ys.Perm (m.map (·.1))) (k : Str) : findR (rowsOf m ys) k = findR m k := by
  rw [findR_rowsOf]
  by_cases e : k ∈ ys
  · rw [if_pos e]
    cases q : findR m k with
    | none => exact absurd (hp.mem_iff.mp e) (findR_none.mp q)
    | some v => rfl
  · rw [if_neg e]
    exact (findR_none.mpr fun z => e (hp.mem_iff.mpr z)).symm
end My
namespace My
open PySem PySem.Spec PyProof.Rows L2
/-! ### names that a law draws -/
theorem st_neS {H : Hp} {Q : VK} {x : V} (h : scal x x = true) (q : Q (.bl false) H) : rNe x x H Q := ⟨h, by rw [decide_eq_true rfl]; exact q⟩
theorem st_eqS {H : Hp} {Q : VK} {x : V} (h : scal x x = true) (q : Q (.bl true) H) : rEq x x H Q := ⟨h, by rw [decide_eq_true rfl]; exact q⟩
def rIsNot : R2 := fun x y H Q => y = .non ∧ Q (.bl (!decide (x = .non))) H
theorem oIsNot {X : Cx} : OpR X (compareOp .IsNot) rIsNot := op_notN
section
variable {H : Hp} {Q : VK} {i : Int} {p : Addr} {z : Str}
theorem isNo_non (q : Q (.bl true) H) : rIsNo .non .non H Q := ⟨rfl, q⟩
theorem isNo_int (q : Q (.bl false) H) : rIsNo (.int i) .non H Q := ⟨rfl, q⟩
theorem isNo_ref (q : Q (.bl false) H) : rIsNo (.ref p) .non H Q := ⟨rfl, q⟩
theorem isNo_str (q : Q (.bl false) H) : rIsNo (.str z) .non H Q := ⟨rfl, q⟩
theorem isNot_non (q : Q (.bl false) H) : rIsNot .non .non H Q := ⟨rfl, q⟩
theorem isNot_int (q : Q (.bl true) H) : rIsNot (.int i) .non H Q := ⟨rfl, q⟩
theorem isNot_ref (q : Q (.bl true) H) : rIsNot (.ref p) .non H Q := ⟨rfl, q⟩
theorem isNot_str (q : Q (.bl true) H) : rIsNot (.str z) .non H Q := ⟨rfl, q⟩
end
theorem lc_filterR {K : PySem.W.Frag} {l : Addr} {xs : List V} {rs : Rw} {n : Str} {j : Nat} {tt : TT} {vs : List Nat} {σ : L2.St} {H1 : Hp} {Q : VK} (hl : SqL K H1 l xs) (pr : Prs K H1 xs rs) (hz : rs.length ≤ 1000000)
    (ht : ∀ (p : Addr) (r : Str × Int) (H2 : Hp), SqT K H2 p [.str r.1, .int r.2] → Gr H1 H2 → ∀ Qb : Bool → Hp → Prop, Qb (!decide (r.1 = n)) H2 → tt ((wipe σ vs).set j (some (.ref p))) H2 Qb)
    {te : TE} (he : ∀ (p : Addr) (H2 : Hp) (Qy : VK), Qy (.ref p) H2 → te ((wipe σ vs).set j (some (.ref p))) H2 Qy)
    (hw : ∀ x, wipe ((wipe σ vs).set j (some x)) vs = wipe σ vs) (hq : ∀ D acc H2, H1 D = none → Gr H1 H2 → H2 D = some (.lst acc) → Prs K H2 acc (rs.filter fun r => !decide (r.1 = n)) → Q (.ref D) H2) : LC (gName j) tt te vs σ Q (Itl K l) H1 := by
  have hxl := pr.len
  refine lc_acc (n := xs.length) (Y := fun i x => xs[i]? = some x) walk_list (fun H' g => g.l hl) (fun i acc H' => Prs K H' acc ((rs.take i).filter fun r => !decide (r.1 = n)))
    (fun H2 _ => by rw [List.take_zero]; exact .nil) (fun i acc H H' g h => h.gr g) (fun i acc H D xs zs e _ h => h.mut e) ?_ (fun D acc H2 hD g e _ h => hq D acc H2 hD g e (by rw [hxl, List.take_length] at h; exact h)) (by omega) hw
  intro i x acc H2 hi y g a Qy Qn q1 q2
  obtain ⟨p, r, rfl, er, hp⟩ := pr.back y
  obtain ⟨hi2, e2⟩ := List.getElem?_eq_some_iff.mp er
  have et : (rs.take (i + 1)).filter (fun r => !decide (r.1 = n)) = (rs.take i).filter (fun r => !decide (r.1 = n)) ++ (if (!decide (r.1 = n)) = true then [r] else []) := by
    rw [List.take_succ_eq_append_getElem hi2, List.filter_append, e2, List.filter_cons]
    split <;> rfl
  refine ht p r H2 (g.t hp) g _ ?_
  refine ite3 (fun h => he p H2 Qy (q1 _ H2 (Gr.refl _) ?_)) (fun h => q2 H2 (Gr.refl _) ?_)
  · rw [et, if_pos h]
    exact a.app (.one (g.t hp))
  · rw [et, if_neg (by rw [h]; exact Bool.false_ne_true), List.append_nil]
    exact a
theorem st_lenT2 {K : PySem.W.Frag} {H : Hp} {Q : VK} {p : Addr} {x y : V} (h : SqT K H p [x, y]) (q : Q (.int 2) H) : rLenQ K [.ref p] H Q := ⟨p, _, rfl, .inr h, q⟩
theorem st_loopR {m j : Nat} {tb : TS} {n : L2.St → Hp → Prop} {rt : VK} {b c : L2.St → Hp → Prop} {σ : L2.St} {H : Hp} (Pv : Nat → L2.St → Hp → Prop) (h0 : Pv 0 σ H)
    (hs : ∀ (i : Nat) σ H, i < m → Pv i σ H → tb ⟨Pv (i + 1), rt, n, Pv (i + 1)⟩ (σ.set j (some (.int (i : Int)))) H) (hd : ∀ σ H, Pv m σ H → n σ H) : LF (gName j) tb ⟨n, rt, b, c⟩ σ (Itr 0 m) H := by
  refine st_loop walk_range Pv h0 (fun _ _ _ _ _ => True.intro) (fun i x σ H hi p y => ?_) hd
  subst y
  show tb _ (σ.set j (some (.int (0 + (i : Int))))) H
  rw [Int.zero_add]
  exact hs i σ H hi p
def abc : List Nat := (Str.ofString "abcdefghijklmnopqrstuvwxyz").cps.toList
theorem abc_eq : abc = [97, 98, 99, 100, 101, 102, 103, 104, 105, 106, 107, 108, 109, 110, 111, 112, 113, 114, 115, 116, 117, 118, 119, 120, 121, 122] := by decide +kernel
/-- small letters alone -/
def lowS (z : Str) : Bool := z.cps.toList.all fun c => decide (97 ≤ c) && decide (c ≤ 122)
/-- a name -/
def okN (z : Str) : Bool := decide (1 ≤ z.length) && decide (z.length ≤ 8) && lowS z
theorem len_tl (z : Str) : z.length = z.cps.toList.length := by simp [Str.length]
theorem app_tl (a b : Str) : (a ++ b).cps.toList = a.cps.toList ++ b.cps.toList := by
  show (a.cps ++ b.cps).toList = _
  rw [Array.toList_append]
theorem lowS_app (a b : Str) : lowS (a ++ b) = (lowS a && lowS b) := by
  unfold lowS
  rw [app_tl, List.all_append]
theorem len_app (a b : Str) : (a ++ b).length = a.length + b.length := by
  rw [len_tl, app_tl, List.length_append, len_tl, len_tl]
theorem lowS_one (i : Nat) (h : i < 26) : lowS ⟨#[abc.getD i 0]⟩ = true := by
  have hh : ∀ i, i < 26 → lowS ⟨#[abc.getD i 0]⟩ = true := by decide +kernel
  exact hh i h
theorem lowS_ok {z : Str} (h : lowS z = true) : PyData.strOk z = true := by
  unfold PyData.strOk
  rw [← Array.all_toList, List.all_eq_true]
  intro c hc
  have q := List.all_eq_true.mp h c hc
  rw [Bool.and_eq_true, decide_eq_true_eq, decide_eq_true_eq] at q
  exact decide_eq_true (by omega)
theorem okN_le {z : Str} (h : okN z = true) : 1 ≤ z.length ∧ z.length ≤ 8 ∧ lowS z = true := by
  unfold okN at h
  rw [Bool.and_eq_true, Bool.and_eq_true, decide_eq_true_eq, decide_eq_true_eq] at h
  exact ⟨h.1.1, h.1.2, h.2⟩
theorem okN_mk {z : Str} (h1 : 1 ≤ z.length) (h2 : z.length ≤ 8) (h3 : lowS z = true) : okN z = true := by
  unfold okN
  rw [decide_eq_true h1, decide_eq_true h2, h3] <;> rfl
theorem joinL_mem {S : List Nat} {c : Nat} : ∀ {ls : List (List Nat)}, c ∈ TL.joinL S ls → c ∈ S ∨ ∃ l ∈ ls, c ∈ l
  | [], h => by cases h
  | [a], h => .inr ⟨a, List.mem_cons_self, h⟩
  | a :: d :: r, h => by
    have h2 : c ∈ a ++ (S ++ TL.joinL S (d :: r)) := h
    rcases List.mem_append.mp h2 with q | q
    · exact .inr ⟨a, List.mem_cons_self, q⟩
    · rcases List.mem_append.mp q with q | q
      · exact .inl q
      · rcases joinL_mem q with z | ⟨l, hl, z⟩
        · exact .inl z
        · exact .inr ⟨l, List.mem_cons_of_mem _ hl, z⟩
theorem joinE_len : ∀ (ls : List (List Nat)), (TL.joinL [] ls).length = (ls.map List.length).sum
  | [] => rfl
  | [a] => by simp [TL.joinL]
  | a :: d :: r => by
    have ih := joinE_len (d :: r)
    show (a ++ ([] ++ TL.joinL [] (d :: r))).length = _
    rw [List.length_append, List.nil_append, ih, List.map_cons, List.map_cons, List.map_cons, List.sum_cons, List.sum_cons, List.sum_cons]
theorem tl_empty : TL.tl (Str.ofString "") = [] := by decide +kernel
/-- signs, one by one, joined -/
def signs (f : Nat → Nat) (n : Nat) : List Str := (List.range n).map fun i => (⟨#[abc.getD (f i) 0]⟩ : Str)
theorem signs_len (f : Nat → Nat) (n : Nat) : (signs f n).length = n := by unfold signs; rw [List.length_map, List.length_range]
theorem signs_sum (f : Nat → Nat) (n : Nat) : ((signs f n).map (·.length)).sum = n := by
  unfold signs
  rw [List.map_map]
  have e : ((fun z : Str => z.length) ∘ fun i => (⟨#[abc.getD (f i) 0]⟩ : Str)) = fun _ => 1 := by funext i; rfl
  rw [e]
  induction n with
  | zero => rfl
  | succ n ih => rw [List.range_succ, List.map_append, List.sum_append, ih] <;> rfl
theorem join_signs {f : Nat → Nat} {n : Nat} (hf : ∀ i, i < n → f i < 26) (h1 : 1 ≤ n) (h8 : n ≤ 8) : okN (Txt.join (Str.ofString "") (signs f n)) = true := by
  have et : (Txt.join (Str.ofString "") (signs f n)).cps.toList = TL.joinL [] ((signs f n).map TL.tl) := by
    show TL.tl _ = _
    rw [TL.join_eq, TL.tl_join, tl_empty]
  refine okN_mk ?_ ?_ ?_
  · rw [len_tl, et, joinE_len, List.map_map]
    have := signs_sum f n
    have e : ((signs f n).map (List.length ∘ TL.tl)).sum = ((signs f n).map (·.length)).sum := by
      congr 1
    rw [e, this]
    exact h1
  · rw [len_tl, et, joinE_len, List.map_map]
    have := signs_sum f n
    have e : ((signs f n).map (List.length ∘ TL.tl)).sum = ((signs f n).map (·.length)).sum := by
      congr 1
    rw [e, this]
    exact h8
  · unfold lowS
    rw [et, List.all_eq_true]
    intro c hc
    rcases joinL_mem hc with z | ⟨l, hl, z⟩
    · cases z
    · obtain ⟨y, hy, rfl⟩ := List.mem_map.mp hl
      unfold signs at hy
      obtain ⟨i, hi, rfl⟩ := List.mem_map.mp hy
      have q := lowS_one (f i) (hf i (List.mem_range.mp hi))
      exact List.all_eq_true.mp q c z
/-- a stem with a sign put in -/
def stems : List Str := [Str.ofString "ab", Str.ofString "aba", Str.ofString "zyxwvut", Str.ofString "nonon", Str.ofString "aaaaaaa", Str.ofString "q"]
def stem (k : Nat) : Str := stems.getD k (Str.ofString "q")
def putIn (k a c : Nat) : Str := cutS (stem k) none (some (a : Int)) ++ ⟨#[abc.getD c 0]⟩ ++ cutS (stem k) (some (a : Int)) none
theorem stem_le (k : Nat) : (stem k).length ≤ 7 := by
  unfold stem
  have h : ∀ s ∈ stems, s.length ≤ 7 := by decide +kernel
  rw [List.getD_eq_getElem?_getD]
  cases e : stems[k]? with
  | none => decide +kernel
  | some s => exact h s (List.mem_of_getElem? e)
theorem putIn_ok {k a c : Nat} (hk : k < 6) (ha : a < (stem k).length + 1) (hc : c < 26) : okN (putIn k a c) = true := by
  have hh : ∀ k, k < 6 → ∀ a, a < 8 → a < (stem k).length + 1 → (cutS (stem k) none (some (a : Int))).length + (cutS (stem k) (some (a : Int)) none).length ≤ 7 ∧ lowS (cutS (stem k) none (some (a : Int))) = true ∧ lowS (cutS (stem k) (some (a : Int)) none) = true := by decide +kernel
  have hl := stem_le k
  obtain ⟨h1, h2, h3⟩ := hh k hk a (by omega) ha
  have e1 : (⟨#[abc.getD c 0]⟩ : Str).length = 1 := rfl
  unfold putIn
  refine okN_mk ?_ ?_ ?_
  · rw [len_app, len_app, e1]; omega
  · rw [len_app, len_app, e1]; omega
  · rw [lowS_app, lowS_app, h2, h3, lowS_one c hc] <;> rfl
theorem cut_le (k a : Nat) : (cutS (stem k) none (some (a : Int))).length ≤ 7 ∧ (cutS (stem k) (some (a : Int)) none).length ≤ 7 := by
  have h : ∀ lo hi, (cutS (stem k) lo hi).length ≤ 7 := fun lo hi => by
    unfold cutS
    rw [len_tl]
    show (List.take _ (List.drop _ _)).length ≤ 7
    rw [List.length_take, List.length_drop]
    have := stem_le k
    rw [len_tl] at this
    omega
  exact ⟨h _ _, h _ _⟩
theorem nat_emod (x : Int) (m : Nat) (M : Int) (hM : M = (m : Int)) (h : 0 < m) : ∃ j : Nat, x % M = (j : Int) ∧ j < m := by
  subst hM
  have h1 := Int.emod_nonneg x (b := (m : Int)) (by omega)
  have h2 := Int.emod_lt_of_pos x (b := (m : Int)) (by omega)
  exact ⟨(x % (m : Int)).toNat, by omega, by omega⟩
theorem abc_at {c : Nat} (h : c < 26) : atI abc ((c : Nat) : Int) = some (abc.getD c 0) := by
  refine atI_nat ?_
  rw [List.getD_eq_getElem?_getD, List.getElem?_eq_getElem (by rw [abc_eq]; exact h)] <;> rfl
theorem stem_at {k : Nat} (h : k < 6) : atI (stems.map V.str) ((k : Nat) : Int) = some (V.str (stem k)) := by
  refine atI_nat ?_
  unfold stem
  rw [List.getElem?_map, List.getD_eq_getElem?_getD, List.getElem?_eq_getElem (by exact h)] <;> rfl
end My
namespace My
open PySem PySem.Spec PyProof.Rows L2
/-! ### data: texts, rows -/
theorem dp_strs {K : PySem.W.Frag} {H : Hp} : ∀ ys : List Str, DpAll K H (ys.map V.str) (ys.map PyData.str)
  | [] => .nil
  | y :: r => .cons (.str y) (dp_strs r)
theorem lay_strs : ∀ {ys : List Str}, (∀ y ∈ ys, PyData.strOk y = true) → PyData.canLayAll0 (ys.map PyData.str) = true
  | [], _ => rfl
  | y :: r, h => by
    rw [List.map_cons, PyData.canLayAll0, lay_strs fun z hz => h z (List.mem_cons_of_mem _ hz), Bool.and_true]
    show PyData.strOk y = true
    exact h y List.mem_cons_self
theorem depth_strs : ∀ ys : List Str, PyData.depthAll (ys.map PyData.str) = 0
  | [] => rfl
  | y :: r => by
    rw [List.map_cons, PyData.depthAll, depth_strs r]
    rfl
theorem shaped_strs {ys : List Str} (h : ∀ y ∈ ys, PyData.strOk y = true) : SeqAt.shaped (.list (ys.map PyData.str)) = true := by
  unfold SeqAt.shaped
  rw [PyData.depth, depth_strs]
  show (PyData.canLayAll0 _ && _) = true
  rw [lay_strs h] <;> rfl
def rowD (r : Str × Int) : PyData := .tuple [.str r.1, .int r.2]
theorem dp_rows {K : PySem.W.Frag} {H : Hp} : ∀ {vs : List V} {rs : Rw}, Prs K H vs rs → DpAll K H vs (rs.map rowD)
  | _, _, .nil => .nil
  | _, _, .cons a r => .cons (.tup a (.cons (.str _) (.cons (.int _) .nil))) (dp_rows r)
def lowR (rs : Rw) : Prop := ∀ r ∈ rs, lowS r.1 = true
theorem lay_rows : ∀ {rs : Rw}, lowR rs → PyData.canLayAll0 (rs.map rowD) = true
  | [], _ => rfl
  | r :: rs, h => by
    rw [List.map_cons, PyData.canLayAll0, lay_rows fun z hz => h z (List.mem_cons_of_mem _ hz), Bool.and_true]
    show PyData.canLayAll0 [.str r.1, .int r.2] = true
    rw [PyData.canLayAll0, PyData.canLay0, lowS_ok (h r List.mem_cons_self)] <;> rfl
theorem depth_rows : ∀ rs : Rw, PyData.depthAll (rs.map rowD) ≤ 1
  | [] => by decide
  | r :: rs => by
    rw [List.map_cons, PyData.depthAll]
    have h := depth_rows rs
    have e : PyData.depth (rowD r) = 1 := rfl
    rw [e]
    omega
theorem shaped_rows {rs : Rw} (h : lowR rs) : SeqAt.shaped (.list (rs.map rowD)) = true := by
  unfold SeqAt.shaped
  rw [PyData.depth]
  show (PyData.canLayAll0 _ && _) = true
  have hd := depth_rows rs
  rw [lay_rows h, decide_eq_true (by omega)] <;> rfl
theorem st_neNilR {K : PySem.W.Frag} {H : Hp} {Q : VK} {p q : Addr} {vs : List V} {rs : Rw} (h : SqL K H p vs) (pr : Prs K H vs rs) (hq : SqL K H q []) (hok : lowR rs) (k : Q (.bl (!rs.isEmpty)) H) : rNeD K (.ref p) (.ref q) H Q := by
  refine ⟨.list (rs.map rowD), .list [], .lst h (dp_rows pr), .lst hq .nil, shaped_rows hok, by decide, ?_⟩
  have e : PyData.eqv (.list (rs.map rowD)) (.list []) = rs.isEmpty := by
    cases rs with
    | nil => simp [PyData.eqv, PyData.eqvAll]
    | cons y r => simp [PyData.eqv, PyData.eqvAll]
  rw [e]
  exact k
theorem st_cut {t u : TS} {n : L2.St → Hp → Prop} {rt : VK} {b c : L2.St → Hp → Prop} {σ : L2.St} {H : Hp} (Mid : L2.St → Hp → Prop) (h : t ⟨Mid, rt, b, c⟩ σ H) (k : ∀ σ' H', Mid σ' H' → u ⟨n, rt, b, c⟩ σ' H') : C8.tCut t u ⟨n, rt, b, c⟩ σ H := ⟨Mid, h, k⟩
theorem kvR_keys (m : Rw) : (kvR m).map (·.1) = (m.map (·.1)).map (Sum.inr : Str → Key) := by
  unfold kvR
  rw [List.map_map, List.map_map] <;> rfl
theorem kvR_len (m : Rw) : (kvR m).length = m.length := by unfold kvR; rw [List.length_map]
theorem lowR_put {m : Rw} (h : lowR m) {n : Str} (hn : lowS n = true) (b : Int) : lowR (putM m n b) := by
  intro r hr
  unfold putM at hr
  split at hr
  · obtain ⟨x, hx, e⟩ := List.mem_map.mp hr
    by_cases q : x.1 = n
    · rw [if_pos q] at e
      rw [← e]
      exact h x hx
    · rw [if_neg q] at e
      rw [← e]
      exact h x hx
  · rcases List.mem_append.mp hr with hr | hr
    · exact h r hr
    · rw [List.mem_singleton.mp hr]
      exact hn
theorem lowR_rowsOf {m : Rw} (h : lowR m) {ys : List Str} (hp : ys.Perm (m.map (·.1))) : lowR (rowsOf m ys) := by
  intro r hr
  obtain ⟨y, hy, rfl⟩ := List.mem_map.mp hr
  obtain ⟨x, hx, e⟩ := List.mem_map.mp (hp.mem_iff.mp hy)
  show lowS y = true
  rw [← e]
  exact h x hx
theorem rowsOf_len (m : Rw) (ys : List Str) : (rowsOf m ys).length = ys.length := by unfold rowsOf; rw [List.length_map]
theorem rowsOf_put {m : Rw} {ys zs : List Str} (hm : (m.map (·.1)).Nodup) (hp : ys.Perm (m.map (·.1))) (hs : SrtS ys) (n : Str) (b : Int) (hp2 : zs.Perm ((putM m n b).map (·.1))) (hs2 : SrtS zs) :
    rowsOf (putM m n b) zs = putR (rowsOf m ys) n b :=
  SrR.ext (rowsOf_srt (putM_nodup hm n b) hp2 hs2) ((rowsOf_srt hm hp hs).put n b) fun k => by
    rw [rowsOf_find hp2, findR_putM, findR_putR, rowsOf_find hp]
end My
namespace My
open PySem PySem.Spec PyProof.Rows L2
local macro_rules | `(tactic| walk_at "v") => `(tactic| ((with_reducible show tVar _ _ _ _); (refine st_var (by rfl) ?_)))
local macro_rules | `(tactic| walk_at "sx") => `(tactic| first
  | walk_at "v"
  | with_reducible refine st_c ?_
  | with_reducible refine st_op ?_
  | with_reducible refine st_seq ?_
  | with_reducible refine st_asg ?_
  | with_reducible refine st_ifS ?_
  | with_reducible refine st_next ?_
  | with_reducible refine st_ret ?_
  | with_reducible refine st_drop ?_
  | with_reducible refine st_nil ?_
  | with_reducible refine st_cons ?_
  | with_reducible refine st_CB ?_
  | with_reducible refine st_call ?_
  | with_reducible refine st_test ?_
  | with_reducible refine st_tB ?_
  | with_reducible refine st_bl ?_
  | with_reducible refine st_and ?_
  | with_reducible refine st_or ?_
  | with_reducible refine st_not ?_
  | with_reducible refine st_yes ?_
  | with_reducible refine st_andV ?_
  | with_reducible refine st_orV ?_
  | with_reducible refine st_notV ?_
  | with_reducible refine st_ifE ?_
  | with_reducible refine st_chain ?_
  | with_reducible refine st_I0 ?_
  | with_reducible refine st_m1 ?_
  | with_reducible refine st_bm ?_
  | with_reducible refine st_lst ?_
  | with_reducible refine st_tup ?_
  | with_reducible refine st_sl ?_
  | with_reducible refine st_noPart ?_
  | with_reducible refine st_part ?_
  | with_reducible refine st_exi ?_
  | with_reducible refine st_asgSub ?_
  | with_reducible refine st_lc ?_
  | with_reducible refine st_for ?_
  | with_reducible refine st_iL ?_
  | with_reducible refine st_iT ?_
  | with_reducible refine st_iR ?_
  | with_reducible refine st_iS ?_
  | with_reducible refine st_exS ?_
  | with_reducible refine st_starts ?_
  | ((with_reducible refine st_eqS ?hsc ?_); (case hsc => rfl))
  | ((with_reducible refine st_neS ?hsc ?_); (case hsc => rfl))
  | ((with_reducible refine st_eq ?hsc ?_); (case hsc => rfl))
  | ((with_reducible refine st_ne ?hsc ?_); (case hsc => rfl))
  | with_reducible refine st_inSign ?_
  | with_reducible refine isNo_non ?_
  | with_reducible refine isNo_int ?_
  | with_reducible refine isNo_ref ?_
  | with_reducible refine isNo_str ?_
  | with_reducible refine isNot_non ?_
  | with_reducible refine isNot_int ?_
  | with_reducible refine isNot_ref ?_
  | with_reducible refine isNot_str ?_
  | with_reducible refine st_isNo ?_
  | with_reducible refine st_strx ?_
  | with_reducible refine st_tAllS ?_
  | with_reducible refine iteT ?_
  | with_reducible refine iteNT ?_
  | with_reducible refine iteNF ?_
  | with_reducible refine iteF ?_)
local macro_rules | `(tactic| walk_at "sq") => `(tactic| first
  | assumption
  | (refine Gr.l (by assumption) ?_; walk_at "sq")
  | (refine Gr.t (by assumption) ?_; walk_at "sq")
  | (refine Gr.ty (by assumption) ?_; walk_at "sq")
  | (refine Gr.lst (by assumption) ?_; walk_at "sq")
  | (refine Gr.tab (by assumption) _ ?_; walk_at "sq"))
local macro_rules | `(tactic| walk_at "new") => `(tactic| (intro p hp; generalize hH : upd _ p _ = H2; have g := gr_of hp hH; have e := at_of hH; clear hH))
local macro_rules | `(tactic| walk_at "dx") => `(tactic| first
  | with_reducible refine st_dget ?_
  | with_reducible refine st_din ?_
  | with_reducible refine st_dnotin ?_
  | with_reducible refine st_dput ?_
  | with_reducible refine st_daug ?_
  | with_reducible refine st_ddel ?_
  | with_reducible refine st_dget2 ?_
  | with_reducible refine st_dpop2 ?_
  | with_reducible refine st_dnewK ?_
  | with_reducible refine st_delL ?_
  | with_reducible refine st_ltS ?_)
/-! ### the text by places -/
def top (i : Nat) : Stmt := PySem.Challenge.pw_snaptree_k02_rows_placed.main.body.getD i (.Pass ⟨0, 0, 0, 0⟩)
abbrev sboxOf : Stmt := top 1
abbrev splaced : Stmt := top 2
abbrev swithout : Stmt := top 3
abbrev splace : Stmt := top 4
abbrev sisAt : Stmt := top 5
abbrev swhole : Stmt := top 7
abbrev scell : Stmt := top 8
abbrev snameBy : Stmt := top 9
abbrev srowsL : Stmt := top 10
abbrev sroom : Stmt := top 11
abbrev slaw : Stmt := top 12
structure Txt (K : PySem.W.Frag) (mg : Str → Option Value) : Prop where
  len : mg "len" = none
  isinstance : mg "isinstance" = none
  range : mg "range" = none
  sorted : mg "sorted" = none
  str : mg "str" = none
  int : mg "int" = none
  bool : mg "bool" = none
  list : mg "list" = none
  tuple : mg "tuple" = none
/-! ### rows.py: the promises -/
def spPlace (K : PySem.W.Frag) : Sp := fun vs H Q _ => ∃ (a : Addr) (xs : List V) (rs : Rw) (n : Str), vs = [.ref a, .str n] ∧ SqQ K H a xs ∧ Prs K H xs rs ∧ SrR rs ∧ rs.length ≤ 1000000 ∧ Q (.int (place rs n : Nat)) H
def spIsAt (K : PySem.W.Frag) : Sp := fun vs H Q _ => ∃ (a : Addr) (xs : List V) (rs : Rw) (n : Str) (k : Nat), vs = [.ref a, .str n, .int (k : Nat)] ∧ SqQ K H a xs ∧ Prs K H xs rs ∧ rs.length ≤ 1000000 ∧ Q (.bl (isAt rs n k)) H
def optI : Option Int → V
  | some b => .int b
  | none => .non
def spBoxOf (K : PySem.W.Frag) : Sp := fun vs H Q _ => ∃ (a : Addr) (xs : List V) (rs : Rw) (n : Str), vs = [.ref a, .str n] ∧ SqQ K H a xs ∧ Prs K H xs rs ∧ SrR rs ∧ rs.length ≤ 1000000 ∧ Q (optI (findR rs n)) H
def newRows (K : PySem.W.Frag) (H : Hp) (Q : VK) (rs : Rw) : Prop := ∀ (l : Addr) (ys : List V) (H' : Hp), H l = none → Gr H H' → H' l = some (.lst ys) → Prs K H' ys rs → Q (.ref l) H'
def spPlaced (K : PySem.W.Frag) : Sp := fun vs H Q _ => ∃ (a : Addr) (xs : List V) (rs : Rw) (n : Str) (b : Int), vs = [.ref a, .str n, .int b] ∧ SqQ K H a xs ∧ Prs K H xs rs ∧ SrR rs ∧ rs.length ≤ 999999 ∧ newRows K H Q (putR rs n b)
def spWithout (K : PySem.W.Frag) : Sp := fun vs H Q _ => ∃ (a : Addr) (xs : List V) (rs : Rw) (n : Str), vs = [.ref a, .str n] ∧ SqQ K H a xs ∧ Prs K H xs rs ∧ SrR rs ∧ rs.length ≤ 999999 ∧ newRows K H Q (delR rs n)
structure CRows (P : Program) (w : World) (K : PySem.W.Frag) (mg : Str → Option Value) (base : Heap) : Prop where
  place : Df P w K mg base 1 "_place" ["rows", "name"] (spPlace K)
  isAt : Df P w K mg base 1 "_is_at" ["rows", "name", "at"] (spIsAt K)
section
variable {P : Program} {w : World} {K : PySem.W.Frag} {mg : Str → Option Value} {base : Heap}
theorem scplace : FnScope ["rows", "name", "low", "high", "middle"] ["rows", "name"] (defScope splace) := ⟨rfl, rfl, rfl, by decide +kernel, rfl, by decide +kernel, by decide +kernel⟩
theorem ok_place {f : Addr} {fd : FuncData} (F : Fun K "_place" "_place" splace f fd) (T : Txt K mg) : FnOk P w K mg base (L2.CX P w) 1 f fd ["rows", "name"] (spPlace K) := by
  refine F.okX scplace (fun vs H Q E h => ?_) (fun cdv A outer s H vs Q E hr h => ?_)
  · obtain ⟨a, xs, rs, n, rfl, _⟩ := h
    rfl
  · obtain ⟨a, xs, rs, n, rfl, hS, hP, hs, hl, k⟩ := h
    refine ⟨_, (pss_cons (ps_set (i := 2) scplace.nd rfl (Or.inl rfl) pe_int)
  (pss_cons (ps_set (i := 3) scplace.nd rfl (Or.inl rfl) (pe_callB (cLenQ (K := K) rfl) (by rfl) T.len PySem.boot_len (pa_cons (pv 0) pa_nil)))
  (pss_cons (ps_while (passes_of rfl) (pt_cmpR op_lt (pv 2) (pv 3) (nomark _))
  (pss_cons (ps_set (i := 4) scplace.nd rfl (Or.inl rfl) (pe_op op_fdiv (pe_op op_add (pv 2) (pv 3)) pe_int))
  (pss_one (ps_if (pt_cmpR oLtS (pe_ix (ixT (K := K) rfl) (pe_ix (ixQ (K := K) rfl) (pv 0) (pv 4) (fun _ _ => rfl)) pe_int (fun _ _ => rfl)) (pv 1) (nomark _))
  (pss_one (ps_set (i := 2) scplace.nd rfl (Or.inl rfl) (pe_op op_add (pv 4) pe_int)))
  (pss_one (ps_set (i := 3) scplace.nd rfl (Or.inl rfl) (pv 4)))))))
  (pss_one (ps_ret (pv 2)))))), ?_⟩
    repeat walk_at "sx"
    refine st_lenQ hS ?_
    repeat walk_at "sx"
    have hxl := hP.len
    refine while_by (fun σ H' => H' = H ∧ ∃ (lo hi : Nat) (v : Option V), σ = [some (.ref a), some (.str n), some (.int lo), some (.int hi), v] ∧ lo ≤ place rs n ∧ place rs n ≤ hi ∧ hi ≤ rs.length)
      (fun σ _ => match σ with | [_, _, some (.int lo), some (.int hi), _] => (hi - lo).toNat | _ => 0) ⟨rfl, 0, rs.length, none, by rw [hxl] <;> rfl, Nat.zero_le _, place_le rs n, Nat.le_refl _⟩ ?_ ?_
    · rintro σ H' ⟨rfl, lo, hi, v, rfl, h1, h2, h3⟩
      repeat walk_at "sx"
      refine ite3 (fun hlt => ?_) (fun hge => ?_)
      · have hlh : lo < hi := by have := of_decide_eq_true hlt; omega
        repeat walk_at "sx"
        refine st_I ⟨by decide, by decide⟩ ?_
        repeat walk_at "sx"
        have em : ((lo : Int) + (hi : Int)) / 2 = (((lo + hi) / 2 : Nat) : Int) := by omega
        rw [em]
        generalize hm : (lo + hi) / 2 = m
        have hm1 : lo ≤ m := by omega
        have hm2 : m < hi := by omega
        obtain ⟨r, hr2⟩ : ∃ r, rs[m]? = some r := ⟨rs[m]'(by omega), List.getElem?_eq_getElem _⟩
        obtain ⟨p, hp1, hp2⟩ := hP.at hr2
        refine st_ixQ hS (atI_nat hp1) ?_
        repeat walk_at "sx"
        refine st_ixT hp2 (atI_nat (j := 0) rfl) ?_
        repeat walk_at "sx"
        refine st_ltS ?_
        repeat walk_at "sx"
        have hb := below_iff (n := n) hs hr2
        refine ite3 (fun hy => ?_) (fun hn => ?_)
        · have := hb.mp hy
          repeat walk_at "sx"
          refine ⟨⟨rfl, m + 1, hi, _, rfl, by omega, h2, h3⟩, ?_⟩
          show ((hi : Int) - ((m : Int) + 1)).toNat < ((hi : Int) - (lo : Int)).toNat
          omega
        · have : ¬ m < place rs n := fun q => by
            have z := hb.mpr q
            rw [hn] at z
            cases z
          repeat walk_at "sx"
          refine ⟨⟨rfl, lo, m, _, rfl, h1, by omega, by omega⟩, ?_⟩
          show ((m : Int) - (lo : Int)).toNat < ((hi : Int) - (lo : Int)).toNat
          omega
      · have hle : ¬ lo < hi := by have := of_decide_eq_false hge; omega
        repeat walk_at "sx"
        have e : lo = place rs n := by omega
        rw [e]
        exact k
    · rintro σ H' Q1 Q2 hq ⟨v, e1, u, e2, i, j, e3, e4, k, e5, q⟩
      exact ⟨v, e1, u, e2, i, j, e3, e4, k, e5, hq _ _ q⟩
theorem scisAt : FnScope ["rows", "name", "at"] ["rows", "name", "at"] (defScope sisAt) := ⟨rfl, rfl, rfl, by decide +kernel, rfl, by decide +kernel, by decide +kernel⟩
theorem ok_isAt {f : Addr} {fd : FuncData} (F : Fun K "_is_at" "_is_at" sisAt f fd) (T : Txt K mg) : FnOk P w K mg base (L2.CX P w) 1 f fd ["rows", "name", "at"] (spIsAt K) := by
  refine F.okX scisAt (fun vs H Q E h => ?_) (fun cdv A outer s H vs Q E hr h => ?_)
  · obtain ⟨a, xs, rs, n, k, rfl, _⟩ := h
    rfl
  · obtain ⟨a, xs, rs, n, j, rfl, hS, hP, hl, k⟩ := h
    refine ⟨_, (pss_one (ps_ret (pe_and (pe_cmpR op_lt (pv 2) (pe_callB (cLenQ (K := K) rfl) (by rfl) T.len PySem.boot_len (pa_cons (pv 0) pa_nil)) (nomark _)) (pe_one (pe_cmpR op_eq (pe_ix (ixT (K := K) rfl) (pe_ix (ixQ (K := K) rfl) (pv 0) (pv 2) (fun _ _ => rfl)) pe_int (fun _ _ => rfl)) (pv 1) (nomark _)))))), ?_⟩
    repeat walk_at "sx"
    refine st_lenQ hS ?_
    repeat walk_at "sx"
    have hxl := hP.len
    refine ite3 (fun h => ?_) (fun h => ?_)
    · have hj : j < rs.length := by have := of_decide_eq_true h; omega
      obtain ⟨r, hr2⟩ : ∃ r, rs[j]? = some r := ⟨rs[j]'hj, List.getElem?_eq_getElem _⟩
      obtain ⟨p, hp1, hp2⟩ := hP.at hr2
      repeat walk_at "sx"
      refine st_ixQ hS (atI_nat hp1) ?_
      repeat walk_at "sx"
      refine st_ixT hp2 (atI_nat (j := 0) rfl) ?_
      repeat walk_at "sx"
      have e : isAt rs n j = decide (V.str r.1 = V.str n) := by
        unfold isAt
        rw [hr2]
        exact decide_eq_decide.mpr ⟨fun q => by rw [q], fun q => V.str.inj q⟩
      rw [e] at k
      exact k
    · have hj : ¬ j < rs.length := by have := of_decide_eq_false h; omega
      have e : isAt rs n j = false := by
        unfold isAt
        rw [List.getElem?_eq_none (by omega)]
      rw [e] at k
      exact k
theorem scboxOf : FnScope ["rows", "name", "at"] ["rows", "name"] (defScope sboxOf) := ⟨rfl, rfl, rfl, by decide +kernel, rfl, by decide +kernel, by decide +kernel⟩
theorem ok_boxOf {f : Addr} {fd : FuncData} (F : Fun K "box_of" "box_of" sboxOf f fd) (T : Txt K mg) (C : CRows P w K mg base) : FnOk P w K mg base (L2.CX P w) 2 f fd ["rows", "name"] (spBoxOf K) := by
  refine F.okX scboxOf (fun vs H Q E h => ?_) (fun cdv A outer s H vs Q E hr h => ?_)
  · obtain ⟨a, xs, rs, n, rfl, _⟩ := h
    rfl
  · obtain ⟨a, xs, rs, n, rfl, hS, hP, hs, hl, k⟩ := h
    refine ⟨_, (pss_cons (ps_set (i := 2) scboxOf.nd rfl (Or.inl rfl) (pe_d0 C.place (hr.mono (by decide)) rfl (pa_cons (pv 0) (pa_cons (pv 1) pa_nil))))
  (pss_cons (ps_if (pt_val (pe_d0 C.isAt (hr.mono (by decide)) rfl (pa_cons (pv 0) (pa_cons (pv 1) (pa_cons (pv 2) pa_nil)))))
  (pss_one (ps_ret (pe_ix (ixT (K := K) rfl) (pe_ix (ixQ (K := K) rfl) (pv 0) (pv 2) (fun _ _ => rfl)) pe_int (fun _ _ => rfl))))
  pss_nil)
  (pss_one (ps_ret pe_non)))), ?_⟩
    repeat walk_at "sx"
    refine ⟨a, xs, rs, n, rfl, hS, hP, hs, hl, ?_⟩
    repeat walk_at "sx"
    refine ⟨a, xs, rs, n, _, rfl, hS, hP, hl, ?_⟩
    repeat walk_at "sx"
    refine ite3 (fun h => ?_) (fun h => ?_)
    · obtain ⟨b, e1, e2, _⟩ := isAt_yes hs h
      obtain ⟨p, hp1, hp2⟩ := hP.at e1
      repeat walk_at "sx"
      refine st_ixQ hS (atI_nat hp1) ?_
      repeat walk_at "sx"
      refine st_ixT hp2 (atI_nat (j := 1) rfl) ?_
      rw [e2] at k
      exact k
    · obtain ⟨e1, _⟩ := isAt_no hs h
      repeat walk_at "sx"
      rw [e1] at k
      exact k
theorem scplaced : FnScope ["rows", "name", "box", "told", "at"] ["rows", "name", "box"] (defScope splaced) := ⟨rfl, rfl, rfl, by decide +kernel, rfl, by decide +kernel, by decide +kernel⟩
theorem ok_placed {f : Addr} {fd : FuncData} (F : Fun K "placed" "placed" splaced f fd) (T : Txt K mg) (C : CRows P w K mg base) : FnOk P w K mg base (L2.CX P w) 2 f fd ["rows", "name", "box"] (spPlaced K) := by
  refine F.okX scplaced (fun vs H Q E h => ?_) (fun cdv A outer s H vs Q E hr h => ?_)
  · obtain ⟨a, xs, rs, n, b, rfl, _⟩ := h
    rfl
  · obtain ⟨a, xs, rs, n, b, rfl, hS, hP, hs, hl, k⟩ := h
    refine ⟨_, (pss_cons (ps_set (i := 3) scplaced.nd rfl (Or.inl rfl) (pe_callTy (cListOf (K := K) rfl) (by rfl) T.list PyProof.Rows.boot_list (pa_cons (pv 0) pa_nil)))
  (pss_cons (ps_set (i := 4) scplaced.nd rfl (Or.inl rfl) (pe_d0 C.place (hr.mono (by decide)) rfl (pa_cons (pv 0) (pa_cons (pv 1) pa_nil))))
  (pss_cons (ps_if (pt_val (pe_d0 C.isAt (hr.mono (by decide)) rfl (pa_cons (pv 0) (pa_cons (pv 1) (pa_cons (pv 4) pa_nil)))))
  (pss_one (ps_asg (pe_tup (pa_cons (pv 1) (pa_cons (pv 2) pa_nil))) (pg_sub (pv 3) (pv 4) set_list)))
  (pss_one (ps_expr (pe_bm PySem.F.plainAttrs_list PySem.F.slot_list_insert PySem.F.type_list_insert mt_insert (pv 3) (pa_cons (pv 4) (pa_cons (pe_tup (pa_cons (pv 1) (pa_cons (pv 2) pa_nil))) pa_nil))))))
  (pss_one (ps_ret (pv 3)))))), ?_⟩
    repeat walk_at "sx"
    refine st_listQ hS ?_
    walk_at "new"
    rename_i l hln H1 g1 e1
    repeat walk_at "sx"
    refine ⟨a, xs, rs, n, rfl, g1.q hS, hP.gr g1, hs, by omega, ?_⟩
    repeat walk_at "sx"
    refine ⟨a, xs, rs, n, _, rfl, g1.q hS, hP.gr g1, by omega, ?_⟩
    repeat walk_at "sx"
    have hxl := hP.len
    have hpl := place_le rs n
    refine ite3 (fun h => ?_) (fun h => ?_)
    · obtain ⟨b0, q1, q2, q3, _⟩ := isAt_yes hs h
      have hlt : place rs n < rs.length := (List.getElem?_eq_some_iff.mp q1).1
      repeat walk_at "sx"
      refine ⟨by show 2 ≤ sizeLine; decide, ?_⟩
      walk_at "new"
      rename_i t htn H2 g2 e2
      repeat walk_at "sx"
      refine st_setL (g2.lst e1) (ixN_nat (by omega)) ?_
      repeat walk_at "sx"
      refine k l _ _ hln ((g1.trans g2).mut hln) upd_same (Prs.mut (g2.lst e1) ?_)
      rw [List.set_eq_take_append_cons_drop, if_pos (by omega)]
      unfold putR
      rw [← q3, ← take_place n hs]
      exact ((hP.take _).gr (g1.trans g2)).app (.cons (.of e2) ((hP.drop _).gr (g1.trans g2)))
    · obtain ⟨_, q3, _⟩ := isAt_no hs h
      repeat walk_at "sx"
      refine st_tyL (.of e1) ?_
      repeat walk_at "sx"
      refine ⟨by show 2 ≤ sizeLine; decide, ?_⟩
      walk_at "new"
      rename_i t htn H2 g2 e2
      repeat walk_at "sx"
      refine ⟨l, xs, _, .ref t, rfl, rfl, g2.lst e1, sz_lt (by omega), by omega, by omega, ?_⟩
      repeat walk_at "sx"
      refine k l _ _ hln ((g1.trans g2).mut hln) upd_same (Prs.mut (g2.lst e1) ?_)
      unfold putR
      rw [← q3, ← take_place n hs, Int.toNat_natCast, List.append_assoc]
      exact ((hP.take _).gr (g1.trans g2)).app (.cons (.of e2) ((hP.drop _).gr (g1.trans g2)))
theorem scwithout : FnScope ["rows", "name", "told", "at"] ["rows", "name"] (defScope swithout) := ⟨rfl, rfl, rfl, by decide +kernel, rfl, by decide +kernel, by decide +kernel⟩
theorem ok_without {f : Addr} {fd : FuncData} (F : Fun K "without" "without" swithout f fd) (T : Txt K mg) (C : CRows P w K mg base) : FnOk P w K mg base (L2.CX P w) 2 f fd ["rows", "name"] (spWithout K) := by
  refine F.okX scwithout (fun vs H Q E h => ?_) (fun cdv A outer s H vs Q E hr h => ?_)
  · obtain ⟨a, xs, rs, n, rfl, _⟩ := h
    rfl
  · obtain ⟨a, xs, rs, n, rfl, hS, hP, hs, hl, k⟩ := h
    refine ⟨_, (pss_cons (ps_set (i := 2) scwithout.nd rfl (Or.inl rfl) (pe_callTy (cListOf (K := K) rfl) (by rfl) T.list PyProof.Rows.boot_list (pa_cons (pv 0) pa_nil)))
  (pss_cons (ps_set (i := 3) scwithout.nd rfl (Or.inl rfl) (pe_d0 C.place (hr.mono (by decide)) rfl (pa_cons (pv 0) (pa_cons (pv 1) pa_nil))))
  (pss_cons (ps_if (pt_val (pe_d0 C.isAt (hr.mono (by decide)) rfl (pa_cons (pv 0) (pa_cons (pv 1) (pa_cons (pv 3) pa_nil)))))
  (pss_one (ps_delL (pv 2) (pv 3)))
  pss_nil)
  (pss_one (ps_ret (pv 2)))))), ?_⟩
    repeat walk_at "sx"
    refine st_listQ hS ?_
    walk_at "new"
    rename_i l hln H1 g1 e1
    repeat walk_at "sx"
    refine ⟨a, xs, rs, n, rfl, g1.q hS, hP.gr g1, hs, by omega, ?_⟩
    repeat walk_at "sx"
    refine ⟨a, xs, rs, n, _, rfl, g1.q hS, hP.gr g1, by omega, ?_⟩
    repeat walk_at "sx"
    have hxl := hP.len
    have hpl := place_le rs n
    refine ite3 (fun h => ?_) (fun h => ?_)
    · obtain ⟨b0, q1, q2, q3, _⟩ := isAt_yes hs h
      have hlt : place rs n < rs.length := (List.getElem?_eq_some_iff.mp q1).1
      walk_at "dx"
      repeat walk_at "sx"
      refine lf_delL e1 (by omega) (by omega) ?_
      repeat walk_at "sx"
      refine k l _ _ hln (g1.mut hln) upd_same (Prs.mut e1 ?_)
      rw [List.eraseIdx_eq_take_drop_succ]
      unfold delR
      rw [← q3, ← take_place n hs]
      exact ((hP.take _).gr g1).app ((hP.drop _).gr g1)
    · obtain ⟨_, q3, m⟩ := isAt_no hs h
      repeat walk_at "sx"
      refine k l xs _ hln g1 e1 ?_
      rw [delR_of_no hs m]
      exact hP.gr g1
end
def spWhole : Sp := fun vs H Q _ => ∃ i : Int, vs = [.int i] ∧ Q (.bl true) H
def nameF (n : Int) : Str := if 10 < n % 16 then putIn (n / 16 % 6).toNat (n / 96 % ((stem (n / 16 % 6).toNat).length + 1 : Nat)).toNat (n / 768 % 26).toNat
  else Txt.join (Str.ofString "") (signs (fun i => ((n / 16 + (i : Int) * (1 + n / 416 % 25)) % 26).toNat) (1 + n % 8).toNat)
theorem nameF_ok (n : Int) : okN (nameF n) = true := by
  unfold nameF
  split
  · refine putIn_ok ?_ ?_ ?_
    · omega
    · have := Int.emod_lt_of_pos (n / 96) (b := (((stem (n / 16 % 6).toNat).length + 1 : Nat) : Int)) (by omega)
      omega
    · omega
  · exact join_signs (fun i _ => by omega) (by omega) (by omega)
def spNameBy : Sp := fun vs H Q _ => ∃ i : Int, vs = [.int i] ∧ ∀ H', Gr H H' → Q (.str (nameF i)) H'
def spRowsL (K : PySem.W.Frag) : Sp := fun vs H Q _ => ∃ (a b : Addr) (xs ys : List V) (rs : Rw), vs = [.ref a, .ref b] ∧ SqL K H a xs ∧ SqL K H b ys ∧ Prs K H xs rs ∧ Prs K H ys rs ∧ rs.length ≤ 1000000 ∧ Q (.bl true) H
def roomF (c : Int) : Nat := if c % 6 = 5 then (c / 6 % 70).toNat else (c / 6 % 15).toNat
def spRoom (K : PySem.W.Frag) : Sp := fun vs H Q _ => ∃ (l : Addr) (ns : List Int), vs = [.ref l] ∧ SqL K H l (ns.map V.int) ∧ Q (.int (roomF (cellOf ns 0))) H
structure CB (P : Program) (w : World) (K : PySem.W.Frag) (mg : Str → Option Value) (base : Heap) : Prop where
  whole : Df P w K mg base 1 "_law_whole" ["_law_seen"] spWhole
  cell : Df P w K mg base 1 "_law_cell_at" ["_law_script", "_law_k"] (spCell K)
section
variable {P : Program} {w : World} {K : PySem.W.Frag} {mg : Str → Option Value} {base : Heap}
theorem scwhole : FnScope ["_law_seen"] ["_law_seen"] (defScope swhole) := ⟨rfl, rfl, rfl, by decide +kernel, rfl, by decide +kernel, by decide +kernel⟩
theorem ok_whole {f : Addr} {fd : FuncData} (F : Fun K "_law_whole" "_law_whole" swhole f fd) (T : Txt K mg) : FnOk P w K mg base (L2.CX P w) 1 f fd ["_law_seen"] spWhole := by
  refine F.okX scwhole (fun vs H Q E h => ?_) (fun cdv A outer s H vs Q E hr h => ?_)
  · obtain ⟨i, rfl, _⟩ := h
    rfl
  · obtain ⟨i, rfl, k⟩ := h
    refine ⟨_, (pss_one (ps_ret (pe_and (pe_callB (cIsi (K := K) rfl) (by rfl) T.isinstance boot_isinstance (pa_cons (pv 0) (pa_cons (pe_bltn (by rfl) T.int PyProof.Rows.boot_int (v := .ty "int") rfl) pa_nil))) (pe_one (pe_not (pe_callB (cIsi (K := K) rfl) (by rfl) T.isinstance boot_isinstance (pa_cons (pv 0) (pa_cons (pe_bltn (by rfl) T.bool PyProof.Rows.boot_bool (v := .ty "bool") rfl) pa_nil)))))))), ?_⟩
    repeat walk_at "sx"
    refine st_isi (.base (.int _)) (b := true) (by decide +kernel) ?_
    repeat walk_at "sx"
    refine st_isi (.base (.int _)) (b := false) (by decide +kernel) ?_
    repeat walk_at "sx"
    exact k
theorem sccell : FnScope ["_law_script", "_law_k"] ["_law_script", "_law_k"] (defScope scell) := ⟨rfl, rfl, rfl, by decide +kernel, rfl, by decide +kernel, by decide +kernel⟩
theorem ok_cell {f : Addr} {fd : FuncData} (F : Fun K "_law_cell_at" "_law_cell_at" scell f fd) (T : Txt K mg) : FnOk P w K mg base (L2.CX P w) 1 f fd ["_law_script", "_law_k"] (spCell K) := by
  refine F.okX sccell (fun vs H Q E h => ?_) (fun cdv A outer s H vs Q E hr h => ?_)
  · obtain ⟨l, ns, j, rfl, _⟩ := h
    rfl
  · obtain ⟨l, ns, j, rfl, hS, k⟩ := h
    refine ⟨_, (pss_cons (ps_if (pt_cmpR op_lt (pv 1) (pe_callB (cLenQ (K := K) rfl) (by rfl) T.len PySem.boot_len (pa_cons (pv 0) pa_nil)) (nomark _))
  (pss_one (ps_ret (pe_ix (ixL (K := K) rfl) (pv 0) (pv 1) (fun _ _ => rfl))))
  pss_nil)
  (pss_one (ps_ret pe_int))), ?_⟩
    repeat walk_at "sx"
    refine st_lenL hS ?_
    repeat walk_at "sx"
    refine ite3 (fun h => ?_) (fun h => ?_)
    · repeat walk_at "sx"
      rw [List.length_map] at h
      have hj : j < ns.length := by have := of_decide_eq_true h; omega
      exact st_ixL hS (atI_cell hj) k
    · repeat walk_at "sx"
      rw [List.length_map] at h
      have hj : ¬ j < ns.length := by have := of_decide_eq_false h; omega
      rw [cell_out hj] at k
      exact k
theorem scnameBy : FnScope ["_law_cell", "_law_letters", "_law_stem", "_law_at", "_law_k"] ["_law_cell"] (defScope snameBy) := ⟨rfl, rfl, rfl, by decide +kernel, rfl, by decide +kernel, by decide +kernel⟩
theorem ok_nameBy {f : Addr} {fd : FuncData} (F : Fun K "_law_name_by" "_law_name_by" snameBy f fd) (T : Txt K mg) : FnOk P w K mg base (L2.CX P w) 1 f fd ["_law_cell"] spNameBy := by
  refine F.okX scnameBy (fun vs H Q E h => ?_) (fun cdv A outer s H vs Q E hr h => ?_)
  · obtain ⟨x, rfl, _⟩ := h
    rfl
  · obtain ⟨n, rfl, k⟩ := h
    refine ⟨_, (pss_cons (ps_set (i := 1) scnameBy.nd rfl (Or.inr rfl) pe_str)
  (pss_cons (ps_if (pt_cmpR op_gt (pe_op op_mod (pv 0) pe_int) pe_int (nomark _))
  (pss_cons (ps_set (i := 2) scnameBy.nd rfl (Or.inl rfl) (pe_ix (ixL (K := K) rfl) (pe_lst (pa_cons pe_str (pa_cons pe_str (pa_cons pe_str (pa_cons pe_str (pa_cons pe_str (pa_cons pe_str pa_nil))))))) (pe_op op_mod (pe_op op_fdiv (pv 0) pe_int) pe_int) (fun _ _ => rfl)))
  (pss_cons (ps_set (i := 3) scnameBy.nd rfl (Or.inl rfl) (pe_op op_mod (pe_op op_fdiv (pv 0) pe_int) (pe_op op_add (pe_callB cLenS (by rfl) T.len PySem.boot_len (pa_cons (pv 2) pa_nil)) pe_int)))
  (pss_one (ps_ret (pe_op oAddS (pe_op oAddS (pe_slice sl_str (pv 2) po_none (po_some (pv 3))) (pe_ix ix_str (pv 1) (pe_op op_mod (pe_op op_fdiv (pv 0) pe_int) pe_int) (fun _ _ => rfl))) (pe_slice sl_str (pv 2) (po_some (pv 3)) po_none))))))
  pss_nil)
  (pss_one (ps_ret (peJoin pe_str (pe_lc (own := [("_law_k", 4)]) (g := gName 4) (tt := tYes) rfl scnameBy.nd (pi_range1 rfl T.range (pa_cons (pe_op op_add pe_int (pe_op op_mod (pv 0) pe_int)) pa_nil)) (blkOk_by (N := ["_law_cell", "_law_letters", "_law_stem", "_law_at", "_law_k"]) (sc := defScope snameBy) (by decide +kernel)) (fun _ _ _ _ _ => pg_name (i := 4) scnameBy.nd rfl (Or.inl rfl)) (fun _ _ _ _ _ => pts_nil) (fun _ _ _ _ _ => (pe_ix ix_str (pv 1) (pe_op op_mod (pe_op op_add (pe_op op_fdiv (pv 0) pe_int) (pe_op op_mul (pv 4) (pe_op op_add pe_int (pe_op op_mod (pe_op op_fdiv (pv 0) pe_int) pe_int)))) pe_int) (fun _ _ => rfl))))))))), ?_⟩
    repeat walk_at "sx"
    refine st_I (by show (0 : Int) < 16; decide) ?_
    repeat walk_at "sx"
    unfold nameF at k
    refine ite3 (fun h => ?_) (fun h => ?_)
    · have h10 : 10 < n % 16 := of_decide_eq_true h
      rw [if_pos h10] at k
      repeat walk_at "sx"
      refine ⟨by show 6 ≤ sizeLine; decide, ?_⟩
      walk_at "new"
      rename_i l hln H1 g1 e1
      repeat walk_at "sx"
      refine st_I ⟨by decide, by decide⟩ ?_
      repeat walk_at "sx"
      refine st_I (by show (0 : Int) < 6; decide) ?_
      repeat walk_at "sx"
      obtain ⟨j, ej, hj⟩ := nat_emod (n / 16) 6 6 rfl (by decide)
      rw [ej]
      refine st_ixL (.of e1) (stem_at hj) ?_
      repeat walk_at "sx"
      refine st_I ⟨by decide, by decide⟩ ?_
      repeat walk_at "sx"
      have hsl := stem_le j
      refine st_lenS (sz_of (by omega)) ?_
      repeat walk_at "sx"
      refine st_I (by show (0 : Int) < _; omega) ?_
      repeat walk_at "sx"
      obtain ⟨i, ei, hi⟩ := nat_emod (n / 96) ((stem j).length + 1) _ rfl (by omega)
      rw [show ((stem j).length : Int) + 1 = (((stem j).length + 1 : Nat) : Int) from rfl, ei]
      obtain ⟨c, ec, hc⟩ := nat_emod (n / 768) 26 26 rfl (by decide)
      have hcut := cut_le j i
      repeat walk_at "sx"
      refine st_slS (sz_of (by omega)) ?_
      repeat walk_at "sx"
      refine st_I ⟨by decide, by decide⟩ ?_
      repeat walk_at "sx"
      refine st_I (by show (0 : Int) < 26; decide) ?_
      repeat walk_at "sx"
      rw [ec]
      refine st_ixS (by decide +kernel) (abc_at hc) ?_
      repeat walk_at "sx"
      refine st_addS (sz_of ?_) ?_
      · show _ + 1 ≤ _
        omega
      repeat walk_at "sx"
      refine st_slS (sz_of (by omega)) ?_
      repeat walk_at "sx"
      refine st_addS (sz_of ?_) ?_
      · rw [len_app]
        show _ + 1 + _ ≤ _
        omega
      repeat walk_at "sx"
      have k2 := k H1 g1
      rw [ej, Int.toNat_natCast, ei, ec, Int.toNat_natCast, Int.toNat_natCast] at k2
      exact k2
    · have h10 : ¬ 10 < n % 16 := of_decide_eq_false h
      rw [if_neg h10] at k
      repeat walk_at "sx"
      refine st_I (by show (0 : Int) < 8; decide) ?_
      repeat walk_at "sx"
      refine st_exR (by omega) (by omega) ?_
      refine lc_r (fun i => .str ⟨#[abc.getD ((n / 16 + (i : Int) * (1 + n / 416 % 25)) % 26).toNat 0]⟩) ?_ ?_ (by omega)
      · intro i H2 hi g Qy q
        repeat walk_at "sx"
        refine st_I ⟨by decide, by decide⟩ ?_
        repeat walk_at "sx"
        refine st_I ⟨by decide, by decide⟩ ?_
        repeat walk_at "sx"
        refine st_I (by show (0 : Int) < 25; decide) ?_
        repeat walk_at "sx"
        refine st_I (.inl ⟨by omega, by omega⟩) ?_
        repeat walk_at "sx"
        refine st_I (by show (0 : Int) < 26; decide) ?_
        repeat walk_at "sx"
        obtain ⟨c, ec, hc⟩ := nat_emod (n / 16 + (i : Int) * (1 + n / 416 % 25)) 26 26 rfl (by decide)
        have q2 := q H2 (Gr.refl _)
        rw [ec] at q2 ⊢
        rw [Int.toNat_natCast] at q2
        exact st_ixS (by decide +kernel) (abc_at hc) q2
      · intro D H2 hD g e
        have e2 : H2 D = some (.lst ((signs (fun i => ((n / 16 + (i : Int) * (1 + n / 416 % 25)) % 26).toNat) (1 + n % 8).toNat).map V.str)) := by
          rw [e]
          unfold signs
          rw [List.map_map] <;> rfl
        refine st_join (.inl (SqL.of e2)) ?_ (k H2 g)
        rw [signs_sum, signs_len]
        show _ + _ * 0 ≤ _
        omega
theorem scrowsL : FnScope ["_law_seen", "_law_due", "_law_k", "_law_pair"] ["_law_seen", "_law_due"] (defScope srowsL) := ⟨rfl, rfl, rfl, by decide +kernel, rfl, by decide +kernel, by decide +kernel⟩
theorem ok_rowsL {f : Addr} {fd : FuncData} (F : Fun K "_law_rows" "_law_rows" srowsL f fd) (T : Txt K mg) (C : CB P w K mg base) : FnOk P w K mg base (L2.CX P w) 2 f fd ["_law_seen", "_law_due"] (spRowsL K) := by
  refine F.okX scrowsL (fun vs H Q E h => ?_) (fun cdv A outer s H vs Q E hr h => ?_)
  · obtain ⟨a, b, xs, ys, rs, rfl, _⟩ := h
    rfl
  · obtain ⟨a, b, xs, ys, rs, rfl, hX, hY, pX, pY, hl, k⟩ := h
    refine ⟨_, (pss_cons (ps_if (PW.pt (pw_or (pt_not (pt_val (pe_callB (cIsi (K := K) rfl) (by rfl) T.isinstance boot_isinstance (pa_cons (pv 0) (pa_cons (pe_bltn (by rfl) T.list PyProof.Rows.boot_list (v := .ty "list") rfl) pa_nil))))) (pw_or1 (pt_cmpR op_ne (pe_callB (cLenQ (K := K) rfl) (by rfl) T.len PySem.boot_len (pa_cons (pv 0) pa_nil)) (pe_callB (cLenQ (K := K) rfl) (by rfl) T.len PySem.boot_len (pa_cons (pv 1) pa_nil)) (nomark _)))))
  (pss_one (ps_ret pe_bl))
  pss_nil)
  (pss_cons (ps_for (passes_of rfl) rfl (pi_range1 rfl T.range (pa_cons (pe_callB (cLenQ (K := K) rfl) (by rfl) T.len PySem.boot_len (pa_cons (pv 1) pa_nil)) pa_nil)) (pg_name (i := 2) scrowsL.nd rfl (Or.inl rfl))
  (pss_cons (ps_set (i := 3) scrowsL.nd rfl (Or.inl rfl) (pe_ix (ixL (K := K) rfl) (pv 0) (pv 2) (fun _ _ => rfl)))
  (pss_cons (ps_if (PW.pt (pw_or (pt_not (pt_val (pe_callB (cIsi (K := K) rfl) (by rfl) T.isinstance boot_isinstance (pa_cons (pv 3) (pa_cons (pe_bltn (by rfl) T.tuple PyProof.Rows.boot_tuple (v := .ty "tuple") rfl) pa_nil))))) (pw_or (pt_cmpR op_ne (pe_callB (cLenQ (K := K) rfl) (by rfl) T.len PySem.boot_len (pa_cons (pv 3) pa_nil)) pe_int (nomark _)) (pw_or (pt_not (pt_val (pe_callB (cIsi (K := K) rfl) (by rfl) T.isinstance boot_isinstance (pa_cons (pe_ix (ixT (K := K) rfl) (pv 3) pe_int (fun _ _ => rfl)) (pa_cons (pe_bltn (by rfl) T.str PyProof.Rows.boot_str (v := .ty "str") rfl) pa_nil))))) (pw_or1 (pt_not (pt_val (pe_d0 C.whole (hr.mono (by decide)) rfl (pa_cons (pe_ix (ixT (K := K) rfl) (pv 3) pe_int (fun _ _ => rfl)) pa_nil)))))))))
  (pss_one (ps_ret pe_bl))
  pss_nil)
  (pss_one (ps_if (PW.pt (pw_or (pt_cmpR op_ne (pe_ix (ixT (K := K) rfl) (pv 3) pe_int (fun _ _ => rfl)) (pe_ix (ixT (K := K) rfl) (pe_ix (ixL (K := K) rfl) (pv 1) (pv 2) (fun _ _ => rfl)) pe_int (fun _ _ => rfl)) (nomark _)) (pw_or1 (pt_cmpR op_ne (pe_ix (ixT (K := K) rfl) (pv 3) pe_int (fun _ _ => rfl)) (pe_ix (ixT (K := K) rfl) (pe_ix (ixL (K := K) rfl) (pv 1) (pv 2) (fun _ _ => rfl)) pe_int (fun _ _ => rfl)) (nomark _)))))
  (pss_one (ps_ret pe_bl))
  pss_nil)))))
  (pss_one (ps_ret pe_bl)))), ?_⟩
    have lx := pX.len
    have ly := pY.len
    repeat walk_at "sx"
    refine st_isi (tyL hX) (b := true) (by decide +kernel) ?_
    repeat walk_at "sx"
    refine st_lenL hX ?_
    repeat walk_at "sx"
    refine st_lenL hY ?_
    rw [lx, ly]
    repeat walk_at "sx"
    repeat walk_at "sx"
    refine st_lenL hY ?_
    rw [ly]
    repeat walk_at "sx"
    refine st_exR (by omega) (by omega) ?_
    rw [Int.toNat_natCast]
    refine st_loopR (fun i σ H' => H' = H ∧ ∃ u v, σ = [some (.ref a), some (.ref b), u, v]) ⟨rfl, none, none, rfl⟩ ?_ ?_
    · rintro i σ H' hi ⟨rfl, u, v, rfl⟩
      obtain ⟨r, hr2⟩ : ∃ r, rs[i]? = some r := ⟨rs[i]'hi, List.getElem?_eq_getElem _⟩
      obtain ⟨p, hp1, hp2⟩ := pX.at hr2
      obtain ⟨q, hq1, hq2⟩ := pY.at hr2
      repeat walk_at "sx"
      refine st_ixL hX (atI_nat hp1) ?_
      repeat walk_at "sx"
      refine st_isi (tyT hp2) (b := true) (by decide +kernel) ?_
      repeat walk_at "sx"
      refine st_lenT2 hp2 ?_
      repeat walk_at "sx"
      repeat walk_at "sx"
      refine st_ixT hp2 (atI_nat (j := 0) rfl) ?_
      repeat walk_at "sx"
      refine st_isi (.base (.str _)) (b := true) (by decide +kernel) ?_
      repeat walk_at "sx"
      refine st_ixT hp2 (atI_nat (j := 1) rfl) ?_
      repeat walk_at "sx"
      refine ⟨_, rfl, ?_⟩
      repeat walk_at "sx"
      refine st_ixT hp2 (atI_nat (j := 0) rfl) ?_
      repeat walk_at "sx"
      refine st_ixL hY (atI_nat hq1) ?_
      repeat walk_at "sx"
      refine st_ixT hq2 (atI_nat (j := 0) rfl) ?_
      repeat walk_at "sx"
      refine st_ixT hp2 (atI_nat (j := 1) rfl) ?_
      repeat walk_at "sx"
      refine st_ixL hY (atI_nat hq1) ?_
      repeat walk_at "sx"
      refine st_ixT hq2 (atI_nat (j := 1) rfl) ?_
      repeat walk_at "sx"
      exact ⟨rfl, _, _, rfl⟩
    · rintro σ H' ⟨rfl, u, v, rfl⟩
      repeat walk_at "sx"
      exact k
theorem scroom : FnScope ["_law_script"] ["_law_script"] (defScope sroom) := ⟨rfl, rfl, rfl, by decide +kernel, rfl, by decide +kernel, by decide +kernel⟩
theorem ok_room {f : Addr} {fd : FuncData} (F : Fun K "_law_room" "_law_room" sroom f fd) (T : Txt K mg) (C : CB P w K mg base) : FnOk P w K mg base (L2.CX P w) 2 f fd ["_law_script"] (spRoom K) := by
  refine F.okX scroom (fun vs H Q E h => ?_) (fun cdv A outer s H vs Q E hr h => ?_)
  · obtain ⟨l, ns, rfl, _⟩ := h
    rfl
  · obtain ⟨l, ns, rfl, hS, k⟩ := h
    refine ⟨_, (pss_cons (ps_if (pt_cmpR op_eq (pe_op op_mod (pe_d0 C.cell (hr.mono (by decide)) rfl (pa_cons (pv 0) (pa_cons pe_int pa_nil))) pe_int) pe_int (nomark _))
  (pss_one (ps_ret (pe_op op_mod (pe_op op_fdiv (pe_d0 C.cell (hr.mono (by decide)) rfl (pa_cons (pv 0) (pa_cons pe_int pa_nil))) pe_int) pe_int)))
  pss_nil)
  (pss_one (ps_ret (pe_op op_mod (pe_op op_fdiv (pe_d0 C.cell (hr.mono (by decide)) rfl (pa_cons (pv 0) (pa_cons pe_int pa_nil))) pe_int) pe_int)))), ?_⟩
    unfold roomF at k
    repeat walk_at "sx"
    refine ⟨l, ns, 0, rfl, hS, ?_⟩
    repeat walk_at "sx"
    refine st_I (by show (0 : Int) < 6; decide) ?_
    repeat walk_at "sx"
    refine ite3 (fun h => ?_) (fun h => ?_)
    · have e : cellOf ns 0 % 6 = 5 := V.int.inj (of_decide_eq_true h)
      rw [if_pos e] at k
      repeat walk_at "sx"
      refine ⟨l, ns, 0, rfl, hS, ?_⟩
      repeat walk_at "sx"
      refine st_I ⟨by decide, by decide⟩ ?_
      repeat walk_at "sx"
      refine st_I (by show (0 : Int) < 70; decide) ?_
      have e2 : ((cellOf ns 0 / 6 % 70).toNat : Int) = cellOf ns 0 / 6 % 70 := by omega
      rw [e2] at k
      exact k
    · have e : ¬ cellOf ns 0 % 6 = 5 := fun z => (of_decide_eq_false h) (by rw [z])
      rw [if_neg e] at k
      repeat walk_at "sx"
      refine ⟨l, ns, 0, rfl, hS, ?_⟩
      repeat walk_at "sx"
      refine st_I ⟨by decide, by decide⟩ ?_
      repeat walk_at "sx"
      refine st_I (by show (0 : Int) < 15; decide) ?_
      have e2 : ((cellOf ns 0 / 6 % 15).toNat : Int) = cellOf ns 0 / 6 % 15 := by omega
      rw [e2] at k
      exact k
end
def spLaw (K : PySem.W.Frag) : Sp := fun vs H Q _ => ∃ (l : Addr) (ns : List Int), vs = [.ref l] ∧ SqL K H l (ns.map V.int) ∧ ns.length ≤ 63 ∧ ∀ H', Q (.bl true) H'
structure CL (P : Program) (w : World) (K : PySem.W.Frag) (mg : Str → Option Value) (base : Heap) : Prop extends CB P w K mg base where
  boxOf : Df P w K mg base 2 "box_of" ["rows", "name"] (spBoxOf K)
  placed : Df P w K mg base 2 "placed" ["rows", "name", "box"] (spPlaced K)
  without : Df P w K mg base 2 "without" ["rows", "name"] (spWithout K)
  nameBy : Df P w K mg base 1 "_law_name_by" ["_law_cell"] spNameBy
  rowsL : Df P w K mg base 2 "_law_rows" ["_law_seen", "_law_due"] (spRowsL K)
  room : Df P w K mg base 2 "_law_room" ["_law_script"] (spRoom K)
theorem rowsOf_snoc {m : Rw} {ys : List Str} {i : Nat} {y : Str} (h : ys[i]? = some y) : rowsOf m (ys.take (i + 1)) = rowsOf m (ys.take i) ++ [(y, (findR m y).getD 0)] := by
  obtain ⟨hi, e⟩ := List.getElem?_eq_some_iff.mp h
  rw [List.take_succ_eq_append_getElem hi, e]
  unfold rowsOf
  rw [List.map_append] <;> rfl
section
variable {P : Program} {w : World} {K : PySem.W.Frag} {mg : Str → Option Value} {base : Heap}
/-- [(y, d[y]) for y in a list of texts], of a dict that holds them all -/
theorem lc_rowsD {l d : Addr} {m : Rw} {ys : List Str} {j : Nat} {te : TE} {vs : List Nat} {σ : L2.St} {H1 : Hp} {Q : VK} (hl : SqL K H1 l (ys.map V.str)) (hd : H1 d = some (.dK (kvR m))) (hy : ∀ y ∈ ys, (findR m y).isSome = true) (hz : ys.length ≤ 1000000)
    (he : ∀ (y : Str) (b : Int) (H2 : Hp), y ∈ ys → findR m y = some b → Gr H1 H2 → ∀ Qy : VK, (∀ p H3, Gr H2 H3 → H3 p = some (.tup [.str y, .int b]) → Qy (.ref p) H3) → te ((wipe σ vs).set j (some (.str y))) H2 Qy)
    (hw : ∀ x, wipe ((wipe σ vs).set j (some x)) vs = wipe σ vs) (hq : ∀ D acc H2, H1 D = none → Gr H1 H2 → H2 D = some (.lst acc) → Prs K H2 acc (rowsOf m ys) → Q (.ref D) H2) : LC (gName j) tYes te vs σ Q (Itl K l) H1 := by
  refine lc_acc (n := ys.length) (Y := fun i x => (ys.map V.str)[i]? = some x) (by rw [← List.length_map (f := V.str)]; exact walk_list) (fun H' g => g.l hl) (fun i acc H' => Prs K H' acc (rowsOf m (ys.take i)))
    (fun H2 _ => .nil) (fun i acc H H' g h => h.gr g) (fun i acc H D xs zs e _ h => h.mut e) ?_ (fun D acc H2 hD g e _ h => hq D acc H2 hD g e (by rw [List.take_length] at h; exact h)) hz hw
  intro i x acc H2 hi y g a Qy Qn q1 q2
  obtain ⟨z, ez⟩ : ∃ z, ys[i]? = some z := ⟨_, List.getElem?_eq_getElem hi⟩
  rw [List.getElem?_map, ez] at y
  cases y
  have hm := List.mem_of_getElem? ez
  obtain ⟨b, eb⟩ := Option.isSome_iff_exists.mp (hy z hm)
  refine iteT (B := Qn H2) (he z b H2 hm eb g Qy fun p H3 g3 e3 => q1 _ H3 g3 ?_)
  rw [rowsOf_snoc ez, eb]
  exact (a.gr g3).app (.one (.of e3))
theorem sclaw : FnScope ["_law_script", "_law_boxes", "_law_k", "_law_cell", "_law_rows_here", "_law_name", "_law_box", "_law_due", "_law_handed", "_law_told", "_law_less", "_law_more", "_law_pair", "_law_one"] ["_law_script"] (defScope slaw) := ⟨rfl, rfl, rfl, by decide +kernel, rfl, by decide +kernel, by decide +kernel⟩
set_option maxHeartbeats 20000000 in
theorem ok_law {f : Addr} {fd : FuncData} (F : Fun K "law" "law" slaw f fd) (T : Txt K mg) (C : CL P w K mg base) : FnOk P w K mg base (L2.CX P w) 3 f fd ["_law_script"] (spLaw K) := by
  refine F.okX sclaw (fun vs H Q E h => ?_) (fun cdv A outer s H vs Q E hr h => ?_)
  · obtain ⟨l, ns, rfl, _⟩ := h
    rfl
  · obtain ⟨l, ns, rfl, hS, hlen, k⟩ := h
    have hu := hu_of hr
    refine ⟨_, (pss_cons (ps_set (i := 1) sclaw.nd rfl (Or.inr rfl) pe_dnewK)
  (pss_cons (ps_for (passes_of rfl) rfl (pi_range1 rfl T.range (pa_cons (pe_d0 C.room (hr.mono (by decide)) rfl (pa_cons (pv 0) pa_nil)) pa_nil)) (pg_name (i := 2) sclaw.nd rfl (Or.inl rfl))
  (pss_cons (ps_set (i := 3) sclaw.nd rfl (Or.inl rfl) (pe_op op_add (pe_op op_add (pe_d0 C.cell (hr.mono (by decide)) rfl (pa_cons (pv 0) (pa_cons (pe_op op_add pe_int (pe_op op_mod (pv 2) pe_int)) pa_nil))) (pe_op op_mul pe_int (pe_op op_fdiv (pv 2) pe_int))) (pv 2)))
  (pss_one (ps_dput hu (pv 1) (pe_d0 C.nameBy (hr.mono (by decide)) rfl (pa_cons (pv 3) pa_nil)) (pe_op op_mod (pe_op op_mul (pv 3) pe_int) (pe_op op_pow pe_int pe_int)) rfl))))
  (pss_cons (ps_setLc (i := 4) (own := [("_law_name", 5)]) (g := gName 5) (tt := tYes) rfl sclaw.nd rfl rfl (sw_true rfl rfl rfl (by decide +kernel)) (pi_list (pe_callB (cr_sortedDSA rfl) (by rfl) T.sorted boot_sorted (pa_cons (pv 1) pa_nil))) (blkOk_by (N := ["_law_script", "_law_boxes", "_law_k", "_law_cell", "_law_rows_here", "_law_name", "_law_box", "_law_due", "_law_handed", "_law_told", "_law_less", "_law_more", "_law_pair", "_law_one"]) (sc := defScope slaw) (by decide +kernel)) (fun _ _ _ _ _ => pg_name (i := 5) sclaw.nd rfl (Or.inl rfl)) (fun _ _ _ _ _ => pts_nil) (fun _ _ _ _ _ => (pe_tup (pa_cons (pv 5) (pa_cons (pe_dget hu (pv 1) (pv 5) (fun _ _ => rfl)) pa_nil)))))
  (pss_cons (ps_set (i := 5) sclaw.nd rfl (Or.inr rfl) (pe_d0 C.nameBy (hr.mono (by decide)) rfl (pa_cons (pe_d0 C.cell (hr.mono (by decide)) rfl (pa_cons (pv 0) (pa_cons pe_int pa_nil))) pa_nil)))
  (C8.pss_cut (ps_if (PW.pt (pw_and (pt_cmpR (oNeD (K := K) rfl hr.units) (pv 4) (pe_lst pa_nil) (nomark _)) (pw_and1 (pt_cmpR op_eq (pe_op op_mod (pe_d0 C.cell (hr.mono (by decide)) rfl (pa_cons (pv 0) (pa_cons pe_int pa_nil))) pe_int) pe_int (nomark _)))))
  (pss_one (ps_set (i := 5) sclaw.nd rfl (Or.inr rfl) (pe_ix (ixT (K := K) rfl) (pe_ix (ixL (K := K) rfl) (pv 4) (pe_op op_mod (pe_d0 C.cell (hr.mono (by decide)) rfl (pa_cons (pv 0) (pa_cons pe_int pa_nil))) (pe_callB (cLenQ (K := K) rfl) (by rfl) T.len PySem.boot_len (pa_cons (pv 4) pa_nil))) (fun _ _ => rfl)) pe_int (fun _ _ => rfl))))
  pss_nil)
  (pss_cons (ps_set (i := 6) sclaw.nd rfl (Or.inl rfl) (pe_op op_mod (pe_d0 C.cell (hr.mono (by decide)) rfl (pa_cons (pv 0) (pa_cons pe_int pa_nil))) (pe_op op_pow pe_int pe_int)))
  (pss_cons (ps_set (i := 7) sclaw.nd rfl (Or.inl rfl) pe_non)
  (C8.pss_cut (ps_if (pt_cmp (pc_din hu (pv 5) (pv 1)))
  (pss_one (ps_set (i := 7) sclaw.nd rfl (Or.inl rfl) (pe_dget hu (pv 1) (pv 5) (fun _ _ => rfl))))
  pss_nil)
  (pss_cons (ps_set (i := 8) sclaw.nd rfl (Or.inl rfl) (pe_callTy (cListOf (K := K) rfl) (by rfl) T.list PyProof.Rows.boot_list (pa_cons (pv 4) pa_nil)))
  (pss_cons (ps_set (i := 9) sclaw.nd rfl (Or.inl rfl) (pe_d0 C.boxOf (hr.mono (by decide)) rfl (pa_cons (pv 8) (pa_cons (pv 5) pa_nil))))
  (C8.pss_cut (ps_if (PW.pt (pw_or (PW.pt (pw_and (pt_cmpR oIsNo (pv 7) pe_non (nomark _)) (pw_and1 (pt_cmpR oIsNot (pv 9) pe_non (nomark _))))) (pw_or1 (PW.pt (pw_and (pt_cmpR oIsNot (pv 7) pe_non (nomark _)) (pw_and1 (PW.pt (pw_or (pt_not (pt_val (pe_d0 C.whole (hr.mono (by decide)) rfl (pa_cons (pv 9) pa_nil)))) (pw_or1 (pt_cmpR op_ne (pv 9) (pv 7) (nomark _)))))))))))
  (pss_one (ps_ret pe_bl))
  pss_nil)
  (pss_cons (ps_set (i := 10) sclaw.nd rfl (Or.inl rfl) (pe_d0 C.without (hr.mono (by decide)) rfl (pa_cons (pv 8) (pa_cons (pv 5) pa_nil))))
  (pss_cons (ps_set (i := 11) sclaw.nd rfl (Or.inl rfl) (pe_d0 C.placed (hr.mono (by decide)) rfl (pa_cons (pv 8) (pa_cons (pv 5) (pa_cons (pv 6) pa_nil)))))
  (pss_cons (ps_if (pt_not (pt_val (pe_d0 C.rowsL (hr.mono (by decide)) rfl (pa_cons (pv 10) (pa_cons (pe_lc (own := [("_law_pair", 12)]) (g := gName 12) rfl sclaw.nd (pi_list (pv 4)) (blkOk_by (N := ["_law_script", "_law_boxes", "_law_k", "_law_cell", "_law_rows_here", "_law_name", "_law_box", "_law_due", "_law_handed", "_law_told", "_law_less", "_law_more", "_law_pair", "_law_one"]) (sc := defScope slaw) (by decide +kernel)) (fun _ _ _ _ _ => pg_name (i := 12) sclaw.nd rfl (Or.inl rfl)) (fun _ _ _ _ _ => (pts_one (pt_cmpR op_ne (pe_ix (ixT (K := K) rfl) (pv 12) pe_int (fun _ _ => rfl)) (pv 5) (nomark _)))) (fun _ _ _ _ _ => (pv 12))) pa_nil)))))
  (pss_one (ps_ret pe_bl))
  pss_nil)
  (pss_cons (ps_dput hu (pv 1) (pv 5) (pv 6) rfl)
  (pss_cons (ps_if (pt_not (pt_val (pe_d0 C.rowsL (hr.mono (by decide)) rfl (pa_cons (pv 11) (pa_cons (pe_lc (own := [("_law_one", 13)]) (g := gName 13) (tt := tYes) rfl sclaw.nd (pi_list (pe_callB (cr_sortedDSA rfl) (by rfl) T.sorted boot_sorted (pa_cons (pv 1) pa_nil))) (blkOk_by (N := ["_law_script", "_law_boxes", "_law_k", "_law_cell", "_law_rows_here", "_law_name", "_law_box", "_law_due", "_law_handed", "_law_told", "_law_less", "_law_more", "_law_pair", "_law_one"]) (sc := defScope slaw) (by decide +kernel)) (fun _ _ _ _ _ => pg_name (i := 13) sclaw.nd rfl (Or.inl rfl)) (fun _ _ _ _ _ => pts_nil) (fun _ _ _ _ _ => (pe_tup (pa_cons (pv 13) (pa_cons (pe_dget hu (pv 1) (pv 13) (fun _ _ => rfl)) pa_nil))))) pa_nil)))))
  (pss_one (ps_ret pe_bl))
  pss_nil)
  (pss_cons (ps_expr (pe_bm PySem.F.plainAttrs_list PySem.F.slot_list_append PySem.F.type_list_append mt_append (pv 10) (pa_cons (pe_tup (pa_cons pe_str (pa_cons pe_int pa_nil))) pa_nil)))
  (pss_cons (ps_expr (pe_bm PySem.F.plainAttrs_list PySem.F.slot_list_append PySem.F.type_list_append mt_append (pv 11) (pa_cons (pe_tup (pa_cons pe_str (pa_cons pe_int pa_nil))) pa_nil)))
  (pss_one (ps_ret (pe_d0 C.rowsL (hr.mono (by decide)) rfl (pa_cons (pv 8) (pa_cons (pv 4) pa_nil))))))))))))))))))))))), ?_⟩
    repeat walk_at "sx"
    walk_at "dx"
    walk_at "new"; rename_i d hdn H1 g1 e1
    repeat walk_at "sx"
    refine ⟨l, ns, rfl, g1.l hS, ?_⟩
    repeat walk_at "sx"
    have hroom : roomF (cellOf ns 0) ≤ 70 := by
      unfold roomF
      split <;> omega
    refine st_exR (by omega) (by omega) ?_
    rw [Int.toNat_natCast]
    refine st_loopR (fun i σ H' => ∃ (m : Rw) (u v : Option V), σ = [some (.ref l), some (.ref d), u, v, none, none, none, none, none, none, none, none, none, none] ∧ Gr H H' ∧ H' d = some (.dK (kvR m)) ∧ (m.map (·.1)).Nodup ∧ m.length ≤ i ∧ lowR m)
      ⟨[], none, none, rfl, g1, e1, List.nodup_nil, Nat.le_refl _, fun r hr => by cases hr⟩ ?_ ?_
    · rintro i σ H2 hi ⟨m, u, v, rfl, g2, e2, nd, hml, hlow⟩
      repeat walk_at "sx"
      refine st_I (by show (0 : Int) < 20; decide) ?_
      repeat walk_at "sx"
      rw [show (4 : Int) + (i : Int) % 20 = ((4 + i % 20 : Nat) : Int) by omega]
      refine ⟨l, ns, 4 + i % 20, rfl, g2.l hS, ?_⟩
      repeat walk_at "sx"
      refine st_I ⟨by decide, by decide⟩ ?_
      repeat walk_at "sx"
      refine st_I (.inl ⟨by decide, by decide⟩) ?_
      repeat walk_at "sx"
      generalize cellOf ns (4 + i % 20) + 7919 * ((i : Int) / 20) + (i : Int) = c
      walk_at "dx"
      repeat walk_at "sx"
      refine st_I (.inr ⟨by decide, by decide⟩) ?_
      repeat walk_at "sx"
      refine st_I ⟨by decide, by decide, by decide⟩ ?_
      repeat walk_at "sx"
      refine st_I (by show (0 : Int) < 10 ^ 12; decide) ?_
      repeat walk_at "sx"
      generalize c * 48271 % 10 ^ Int.toNat 12 = bx
      refine ⟨c, rfl, fun H3 g3 => ?_⟩
      refine lf_dput (k := .inr (nameF c)) (g3.dK e2) (by rw [kvR_len]; omega) ?_
      repeat walk_at "sx"
      refine ⟨putM m (nameF c) bx, _, _, rfl, (g2.trans g3).mut hdn, ?_, putM_nodup nd _ _, ?_, lowR_put hlow (okN_le (nameF_ok c)).2.2 _⟩
      · rw [kvR_put]
        exact upd_same
      · have := putM_len m (nameF c) bx
        exact Nat.le_trans this (by omega)
    · rintro σ H2 ⟨m, u, v, rfl, g2, e2, nd, hml, hlow⟩
      repeat walk_at "sx"
      refine ⟨d, kvR m, m.map (·.1), rfl, .inl e2, kvR_keys m, by rw [List.length_map]; omega, fun ys p hp hs hpn => ?_⟩
      generalize hH : upd H2 p _ = H3
      have g3 := gr_of hpn hH
      have e3 := at_of hH
      clear hH
      have hyl : ys.length = m.length := by rw [hp.length_eq, List.length_map]
      repeat walk_at "sx"
      refine st_exL (.of e3) ?_
      refine lc_rowsD (K := K) (.of e3) (g3.dK e2) (fun y hy => ?_) (by omega) ?_ (fun _ => rfl) ?_
      · cases q : findR m y with
        | none => exact absurd (hp.mem_iff.mp hy) (findR_none.mp q)
        | some b => rfl
      · intro y b H4 hy eb g4 Qy q
        repeat walk_at "sx"
        walk_at "dx"
        repeat walk_at "sx"
        refine lf_dget (k := .inr y) (g4.dK (g3.dK e2)) (by rw [kvR_val, eb]; rfl) ?_
        repeat walk_at "sx"
        refine ⟨by show 2 ≤ sizeLine; decide, ?_⟩
        walk_at "new"; rename_i t htn H5 g5 e5
        exact q t H5 g5 e5
      · intro D acc H4 hDn g4 e4 pr4
        repeat walk_at "sx"
        refine ⟨l, ns, 1, rfl, (g2.trans (g3.trans g4)).l hS, ?_⟩
        repeat walk_at "sx"
        refine ⟨_, rfl, fun H5 g5 => ?_⟩
        repeat walk_at "sx"
        refine st_cut (fun σ' H' => ∃ (z : Str), σ' = [some (.ref l), some (.ref d), u, v, some (.ref D), some (.str z), none, none, none, none, none, none, none, none] ∧ Gr H4 H') ?_ ?_
        · repeat walk_at "sx"
          refine ⟨Nat.zero_le _, ?_⟩
          walk_at "new"; rename_i q hqn H6 g6 e6
          have g46 := g5.trans g6
          refine st_neNilR (g46.l (.of e4)) (pr4.gr g46) (.of e6) (lowR_rowsOf hlow hp) ?_
          repeat walk_at "sx"
          refine ite3 (fun hne => ?_) (fun _ => ?_)
          · repeat walk_at "sx"
            refine ⟨l, ns, 2, rfl, ((g2.trans (g3.trans g4)).trans g46).l hS, ?_⟩
            repeat walk_at "sx"
            refine st_I (by show (0 : Int) < 2; decide) ?_
            repeat walk_at "sx"
            refine ite3 (fun _ => ?_) (fun _ => ?_)
            · repeat walk_at "sx"
              refine ⟨l, ns, 1, rfl, ((g2.trans (g3.trans g4)).trans g46).l hS, ?_⟩
              repeat walk_at "sx"
              refine st_lenL (g46.l (.of e4)) ?_
              have hpos : 0 < acc.length := by
                rw [pr4.len]
                cases h0 : rowsOf m ys with
                | nil => rw [h0] at hne; cases hne
                | cons r rs => exact Nat.succ_pos _
              repeat walk_at "sx"
              refine st_I (by show (0 : Int) < _; omega) ?_
              obtain ⟨j, ej, hj⟩ := nat_emod (cellOf ns 1) acc.length _ rfl hpos
              rw [ej]
              obtain ⟨p2, r2, ep2, _, hp2⟩ := pr4.back (List.getElem?_eq_getElem hj)
              repeat walk_at "sx"
              refine st_ixL (g46.l (.of e4)) (atI_nat (by rw [List.getElem?_eq_getElem hj, ep2])) ?_
              repeat walk_at "sx"
              refine st_ixT (g46.t hp2) (atI_nat (j := 0) rfl) ?_
              exact ⟨_, rfl, g46⟩
            · repeat walk_at "sx"
              exact ⟨_, rfl, g46⟩
          · repeat walk_at "sx"
            exact ⟨_, rfl, g46⟩
        · rintro σ' H6 ⟨z, rfl, g6⟩
          have G06 := (g2.trans (g3.trans g4)).trans g6
          repeat walk_at "sx"
          refine ⟨l, ns, 3, rfl, G06.l hS, ?_⟩
          repeat walk_at "sx"
          refine st_I ⟨by decide, by decide, by decide⟩ ?_
          repeat walk_at "sx"
          refine st_I (by show (0 : Int) < 10 ^ 12; decide) ?_
          repeat walk_at "sx"
          generalize cellOf ns 3 % 10 ^ Int.toNat 12 = bx
          have e6d : H6 d = some (.dK (kvR m)) := g6.dK (g4.dK (g3.dK e2))
          refine st_cut (fun σ' H' => σ' = [some (.ref l), some (.ref d), u, v, some (.ref D), some (.str z), some (.int bx), some (optI (findR m z)), none, none, none, none, none, none] ∧ H' = H6) ?_ ?_
          · repeat walk_at "sx"
            walk_at "dx"
            repeat walk_at "sx"
            refine ⟨d, _, rfl, DGet.k (k := .inr z) e6d, ?_⟩
            rw [kvR_val]
            cases hf : findR m z with
            | none =>
              repeat walk_at "sx"
              refine iteF ?_
              repeat walk_at "sx"
              exact ⟨rfl, rfl⟩
            | some b =>
              refine ⟨_, rfl, ?_⟩
              refine iteT ?_
              repeat walk_at "sx"
              walk_at "dx"
              repeat walk_at "sx"
              refine lf_dget (k := .inr z) e6d (by rw [kvR_val, hf]; rfl) ?_
              exact ⟨rfl, rfl⟩
          · rintro σ' H' ⟨rfl, rfl⟩
            have hSr : SrR (rowsOf m ys) := rowsOf_srt nd hp hs
            have hRl : (rowsOf m ys).length ≤ 70 := by rw [rowsOf_len, hyl]; omega
            repeat walk_at "sx"
            refine st_listL (g6.l (.of e4)) ?_
            walk_at "new"; rename_i hd hhd H7 g7 e7
            have g67 := g6.trans g7
            repeat walk_at "sx"
            refine ⟨hd, acc, rowsOf m ys, z, rfl, .inl (.of e7), pr4.gr g67, hSr, by omega, ?_⟩
            rw [rowsOf_find hp]
            repeat walk_at "sx"
            refine st_cut (fun σ' H' => σ' = [some (.ref l), some (.ref d), u, v, some (.ref D), some (.str z), some (.int bx), some (optI (findR m z)), some (.ref hd), some (optI (findR m z)), none, none, none, none] ∧ H' = H7) ?_ ?_
            · cases hf : findR m z with
              | none =>
                show tIfS _ _ _ _ [_, _, _, _, _, _, _, some V.non, _, some V.non, _, _, _, _] _
                repeat walk_at "sx"
                exact ⟨rfl, rfl⟩
              | some b =>
                show tIfS _ _ _ _ [_, _, _, _, _, _, _, some (V.int b), _, some (V.int b), _, _, _, _] _
                repeat walk_at "sx"
                refine ⟨_, rfl, ?_⟩
                repeat walk_at "sx"
                exact ⟨rfl, rfl⟩
            · rintro σ' H' ⟨rfl, rfl⟩
              have e7d := g7.dK e6d
              repeat walk_at "sx"
              refine ⟨hd, acc, rowsOf m ys, z, rfl, .inl (.of e7), pr4.gr g67, hSr, by omega, fun le les H8 hle g8 e8 pr8 => ?_⟩
              repeat walk_at "sx"
              refine ⟨hd, acc, rowsOf m ys, z, bx, rfl, .inl (.of (g8.lst e7)), pr4.gr (g67.trans g8), hSr, by omega, fun mo mos H9 hmo g9 e9 pr9 => ?_⟩
              have g49 := (g67.trans g8).trans g9
              repeat walk_at "sx"
              refine st_exL (g49.l (.of e4)) ?_
              refine lc_filterR (K := K) (n := z) (g49.l (.of e4)) (pr4.gr g49) (by omega) ?_ ?_ (fun _ => rfl) ?_
              · intro p r H10 hp10 g10 Qb q
                repeat walk_at "sx"
                refine st_ixT hp10 (atI_nat (j := 0) rfl) ?_
                repeat walk_at "sx"
                have e : decide (V.str r.1 = V.str z) = decide (r.1 = z) := decide_eq_decide.mpr ⟨fun q => V.str.inj q, fun q => by rw [q]⟩
                rw [e]
                exact q
              · intro p H10 Qy q
                repeat walk_at "sx"
                exact q
              · intro F1 fs H10 hF1 g10 e10 pr10
                rw [delR_filter hSr] at pr10
                repeat walk_at "sx"
                refine ⟨le, F1, les, fs, delR (rowsOf m ys) z, rfl, (g9.trans g10).l (.of e8), .of e10, pr8.gr (g9.trans g10), pr10, ?_, ?_⟩
                · have h1 := List.length_filter_le (fun r => !decide (r.1 = z)) (rowsOf m ys)
                  rw [delR_filter hSr] at h1
                  omega
                repeat walk_at "sx"
                walk_at "dx"
                repeat walk_at "sx"
                have e10d := (g8.trans (g9.trans g10)).dK e7d
                refine lf_dput (k := .inr z) e10d (by rw [kvR_len]; omega) ?_
                generalize hH : upd H10 d _ = H11
                have e11d : H11 d = some (.dK (kvR (putM m z bx))) := by
                  rw [← hH, kvR_put]
                  exact upd_same
                have keep : ∀ b xs, H10 b = some (.lst xs) → H11 b = some (.lst xs) := fun b xs e => by
                  rw [← hH, upd_ne (ne_of e e10d (by intro z; cases z))]
                  exact e
                have keepP : ∀ {xs : List V} {rs : Rw}, Prs K H10 xs rs → Prs K H11 xs rs := fun h => by
                  rw [← hH]
                  exact h.mutD e10d
                have nd2 := putM_nodup nd z bx
                have len2 := putM_len m z bx
                repeat walk_at "sx"
                refine ⟨d, kvR (putM m z bx), (putM m z bx).map (·.1), rfl, .inl e11d, kvR_keys _, by rw [List.length_map]; omega, fun zs p2 hp2 hs2 hpn2 => ?_⟩
                generalize hH2 : upd H11 p2 _ = H12
                have g12 := gr_of hpn2 hH2
                have e12 := at_of hH2
                clear hH2
                have hzl : zs.length = (putM m z bx).length := by rw [hp2.length_eq, List.length_map]
                repeat walk_at "sx"
                refine st_exL (.of e12) ?_
                refine lc_rowsD (K := K) (.of e12) (g12.dK e11d) (fun y hy => ?_) (by omega) ?_ (fun _ => rfl) ?_
                · cases q : findR (putM m z bx) y with
                  | none => exact absurd (hp2.mem_iff.mp hy) (findR_none.mp q)
                  | some b => rfl
                · intro y b H13 hy eb g13 Qy q
                  repeat walk_at "sx"
                  walk_at "dx"
                  repeat walk_at "sx"
                  refine lf_dget (k := .inr y) (g13.dK (g12.dK e11d)) (by rw [kvR_val, eb]; rfl) ?_
                  repeat walk_at "sx"
                  refine ⟨by show 2 ≤ sizeLine; decide, ?_⟩
                  walk_at "new"; rename_i t htn H14 g14 e14
                  exact q t H14 g14 e14
                · intro R rrs H13 hR g13 e13 pr13
                  rw [rowsOf_put nd hp hs z bx hp2 hs2] at pr13
                  repeat walk_at "sx"
                  have g1213 := g12.trans g13
                  have emo := g1213.lst (keep _ _ (g10.lst e9))
                  have ele := g1213.lst (keep _ _ ((g9.trans g10).lst e8))
                  refine ⟨mo, R, mos, rrs, putR (rowsOf m ys) z bx, rfl, .of emo, .of e13, (keepP (pr9.gr g10)).gr g1213, pr13, ?_, ?_⟩
                  · have := putR_len (rowsOf m ys) z bx
                    omega
                  have ehd := g1213.lst (keep _ _ ((g8.trans (g9.trans g10)).lst e7))
                  have eD := g1213.lst (keep _ _ ((g49.trans g10).lst e4))
                  have prd := (keepP (pr4.gr (g49.trans g10))).gr g1213
                  have nle : hd ≠ le := ne_of_none e7 hle
                  have nmo : hd ≠ mo := ne_of_none (g8.lst e7) hmo
                  have nDl : D ≠ le := ne_of_none (g67.lst e4) hle
                  have nDm : D ≠ mo := ne_of_none ((g67.trans g8).lst e4) hmo
                  have nlm : mo ≠ le := (ne_of_none e8 hmo).symm
                  repeat walk_at "sx"
                  refine st_tyL (.of ele) ?_
                  repeat walk_at "sx"
                  refine ⟨by show 2 ≤ sizeLine; decide, ?_⟩
                  walk_at "new"; rename_i t1 ht1 H15 g15 e15
                  repeat walk_at "sx"
                  have llen : les.length ≤ 1000 := by
                    have h1 := pr8.len
                    have h2 := List.length_filter_le (fun r => !decide (r.1 = z)) (rowsOf m ys)
                    rw [delR_filter hSr] at h2
                    omega
                  refine st_append (g15.lst ele) (sz_lt (by omega)) ?_
                  generalize hH3 : upd H15 le _ = H16
                  have keep3 : ∀ b xs, b ≠ le → H15 b = some (.lst xs) → H16 b = some (.lst xs) := fun b xs n e => by
                    rw [← hH3, upd_ne n]
                    exact e
                  have emo16 := keep3 mo _ nlm (g15.lst emo)
                  have ehd16 := keep3 hd _ nle (g15.lst ehd)
                  have eD16 := keep3 D _ nDl (g15.lst eD)
                  have prd16 : Prs K H16 acc (rowsOf m ys) := by
                    rw [← hH3]
                    exact (prd.gr g15).mut (g15.lst ele)
                  repeat walk_at "sx"
                  refine st_tyL (.of emo16) ?_
                  repeat walk_at "sx"
                  refine ⟨by show 2 ≤ sizeLine; decide, ?_⟩
                  walk_at "new"; rename_i t2 ht2 H17 g17 e17
                  repeat walk_at "sx"
                  have mlen : mos.length ≤ 1000 := by
                    have h1 := pr9.len
                    have h2 := putR_len (rowsOf m ys) z bx
                    omega
                  refine st_append (g17.lst emo16) (sz_lt (by omega)) ?_
                  generalize hH4 : upd H17 mo _ = H18
                  have ehd18 : H18 hd = some (.lst acc) := by
                    rw [← hH4, upd_ne nmo]
                    exact g17.lst ehd16
                  have eD18 : H18 D = some (.lst acc) := by
                    rw [← hH4, upd_ne nDm]
                    exact g17.lst eD16
                  have prd18 : Prs K H18 acc (rowsOf m ys) := by
                    rw [← hH4]
                    exact (prd16.gr g17).mut (g17.lst emo16)
                  repeat walk_at "sx"
                  exact ⟨hd, D, acc, acc, rowsOf m ys, rfl, .of ehd18, .of eD18, prd18, prd18, by omega, k H18⟩
end
theorem walk_tabs {l : PySem.W.OpenLaw} {n k : Nat} {q : Program} {loose : List Str} {XP : (Str → Option Value) → Heap → Prop} {YP : World → Heap → Prop} {d : DefRec} {K : Params → PySem.W.Frag} {CX : World → CXT} {x : Str}
    (hn : l.most = some n) (hn2 : n ≤ sizeLine) (hdf : d.params.defaults = []) (hr : Room k callerA) (hY : ∀ (w : World) (h : Heap), YP w h → (K w.params).In h)
    (F : ∀ (w : World) (mg : Str → Option Value) (fa : Addr) (h : Heap), (K w.params).In h → h.Ns mainGlobals mg → mg d.name = some (.ref fa) →
      (∀ (y : Str) (d' : DefRec) (c P : Addr), (recsOf q).find? (fun e => e.name == y) = some d' → PySem.W.tabIn (K w.params) y = some (c, P) → PySem.W.CodeHd h c P ∧ h.get? P = some { cls := .none, data := .fields #[] }) → LamX.LawAtS l w (K w.params) (CX w) k n x mg fa h)
    (hCX : ∀ (w : World) (H : Hp) (s : Shared) (e : Value) (s' : Shared), CX w [] H s (fun _ _ _ => False) e s' → False) : PySem.W.WalkO q loose XP YP l.row.toRowW d [] (fun f vs => PySem.call f vs) := by
  refine Att.attach_callB hn hdf fun w s₀ s₁ mg mb fa o pm cd doc a vs ns G Y ho hd hcd hmg hobj hints hlen hbits hg => ?_
  obtain ⟨fd, cs, sp, hT, nT, C, hb, hsp, hF⟩ := F w mg fa _ (hY w _ Y) G.T.g hmg (fun y d' c P h1 h2 => PySem.W.tab_of G.T (hY w _ Y) h1 h2)
  exact LamX.law_callTs (hY w _ Y) G.T.g G.T.b G.T.builtins G.T.nolimit hg hT nT C G.T.bmain hobj hints (Nat.le_trans hlen hn2) hr hF hb (fun H hH hS => hsp H a ns hlen hbits hH hS) fun H e s' => hCX w H s₁ e s'
theorem all_mk {l : PySem.W.OpenLaw} {q : Program} {w : World} {K : PySem.W.Frag} {h : Heap} {mg : Str → Option Value} {fa f0 f1 f2 f3 f4 f5 f6 f7 f8 f9 f10 : Addr} (X : K.In h) (G : h.Ns mainGlobals mg) (hfa : mg "law" = some (.ref fa))
    (Tb : ∀ (y : Str) (d' : DefRec) (c P : Addr), (recsOf q).find? (fun e => e.name == y) = some d' → PySem.W.tabIn K y = some (c, P) → PySem.W.CodeHd h c P ∧ h.get? P = some { cls := .none, data := .fields #[] })
    {od0 an0 od1 an1 od2 an2 od3 an3 od4 an4 od5 an5 od6 an6 od7 an7 od8 an8 od9 an9 od10 an10 : Option Addr} {sl0 sl1 sl2 sl3 sl4 sl5 sl6 sl7 sl8 sl9 sl10 : Array (Option Value)} {oc0 kV0 dc0 pm0 ct0 cd0 oc1 kV1 dc1 pm1 ct1 cd1 oc2 kV2 dc2 pm2 ct2 cd2 oc3 kV3 dc3 pm3 ct3 cd3 oc4 kV4 dc4 pm4 ct4 cd4 oc5 kV5 dc5 pm5 ct5 cd5 oc6 kV6 dc6 pm6 ct6 cd6 oc7 kV7 dc7 pm7 ct7 cd7 oc8 kV8 dc8 pm8 ct8 cd8 oc9 kV9 dc9 pm9 ct9 cd9 oc10 kV10 dc10 pm10 ct10 cd10 : Value}
    (a0 : PySem.W.nsIn K mainGlobals "box_of" = some (some (.ref f0))) (l0 : K.lookup f0 = some ⟨oc0, od0, .func (PySem.W.fnOf "box_of" "box_of" (defArgs sboxOf) (defBody sboxOf) (defScope sboxOf) .none kV0 dc0 pm0 an0 cd0 ct0), sl0⟩) (c0 : PySem.W.codeIn K cd0 "box_of" = true) (k0 : PySem.W.keepIn K (.ref f0) = true)
    (a1 : PySem.W.nsIn K mainGlobals "placed" = some (some (.ref f1))) (l1 : K.lookup f1 = some ⟨oc1, od1, .func (PySem.W.fnOf "placed" "placed" (defArgs splaced) (defBody splaced) (defScope splaced) .none kV1 dc1 pm1 an1 cd1 ct1), sl1⟩) (c1 : PySem.W.codeIn K cd1 "placed" = true) (k1 : PySem.W.keepIn K (.ref f1) = true)
    (a2 : PySem.W.nsIn K mainGlobals "without" = some (some (.ref f2))) (l2 : K.lookup f2 = some ⟨oc2, od2, .func (PySem.W.fnOf "without" "without" (defArgs swithout) (defBody swithout) (defScope swithout) .none kV2 dc2 pm2 an2 cd2 ct2), sl2⟩) (c2 : PySem.W.codeIn K cd2 "without" = true) (k2 : PySem.W.keepIn K (.ref f2) = true)
    (a3 : PySem.W.nsIn K mainGlobals "_place" = some (some (.ref f3))) (l3 : K.lookup f3 = some ⟨oc3, od3, .func (PySem.W.fnOf "_place" "_place" (defArgs splace) (defBody splace) (defScope splace) .none kV3 dc3 pm3 an3 cd3 ct3), sl3⟩) (c3 : PySem.W.codeIn K cd3 "_place" = true) (k3 : PySem.W.keepIn K (.ref f3) = true)
    (a4 : PySem.W.nsIn K mainGlobals "_is_at" = some (some (.ref f4))) (l4 : K.lookup f4 = some ⟨oc4, od4, .func (PySem.W.fnOf "_is_at" "_is_at" (defArgs sisAt) (defBody sisAt) (defScope sisAt) .none kV4 dc4 pm4 an4 cd4 ct4), sl4⟩) (c4 : PySem.W.codeIn K cd4 "_is_at" = true) (k4 : PySem.W.keepIn K (.ref f4) = true)
    (a5 : PySem.W.nsIn K mainGlobals "_law_whole" = some (some (.ref f5))) (l5 : K.lookup f5 = some ⟨oc5, od5, .func (PySem.W.fnOf "_law_whole" "_law_whole" (defArgs swhole) (defBody swhole) (defScope swhole) .none kV5 dc5 pm5 an5 cd5 ct5), sl5⟩) (c5 : PySem.W.codeIn K cd5 "_law_whole" = true) (k5 : PySem.W.keepIn K (.ref f5) = true)
    (a6 : PySem.W.nsIn K mainGlobals "_law_cell_at" = some (some (.ref f6))) (l6 : K.lookup f6 = some ⟨oc6, od6, .func (PySem.W.fnOf "_law_cell_at" "_law_cell_at" (defArgs scell) (defBody scell) (defScope scell) .none kV6 dc6 pm6 an6 cd6 ct6), sl6⟩) (c6 : PySem.W.codeIn K cd6 "_law_cell_at" = true) (k6 : PySem.W.keepIn K (.ref f6) = true)
    (a7 : PySem.W.nsIn K mainGlobals "_law_name_by" = some (some (.ref f7))) (l7 : K.lookup f7 = some ⟨oc7, od7, .func (PySem.W.fnOf "_law_name_by" "_law_name_by" (defArgs snameBy) (defBody snameBy) (defScope snameBy) .none kV7 dc7 pm7 an7 cd7 ct7), sl7⟩) (c7 : PySem.W.codeIn K cd7 "_law_name_by" = true) (k7 : PySem.W.keepIn K (.ref f7) = true)
    (a8 : PySem.W.nsIn K mainGlobals "_law_rows" = some (some (.ref f8))) (l8 : K.lookup f8 = some ⟨oc8, od8, .func (PySem.W.fnOf "_law_rows" "_law_rows" (defArgs srowsL) (defBody srowsL) (defScope srowsL) .none kV8 dc8 pm8 an8 cd8 ct8), sl8⟩) (c8 : PySem.W.codeIn K cd8 "_law_rows" = true) (k8 : PySem.W.keepIn K (.ref f8) = true)
    (a9 : PySem.W.nsIn K mainGlobals "_law_room" = some (some (.ref f9))) (l9 : K.lookup f9 = some ⟨oc9, od9, .func (PySem.W.fnOf "_law_room" "_law_room" (defArgs sroom) (defBody sroom) (defScope sroom) .none kV9 dc9 pm9 an9 cd9 ct9), sl9⟩) (c9 : PySem.W.codeIn K cd9 "_law_room" = true) (k9 : PySem.W.keepIn K (.ref f9) = true)
    (a10 : PySem.W.nsIn K mainGlobals "law" = some (some (.ref f10))) (l10 : K.lookup f10 = some ⟨oc10, od10, .func (PySem.W.fnOf "law" "law" (defArgs slaw) (defBody slaw) (defScope slaw) .none kV10 dc10 pm10 an10 cd10 ct10), sl10⟩) (c10 : PySem.W.codeIn K cd10 "law" = true) (k10 : PySem.W.keepIn K (.ref f10) = true)
    (z_len : PySem.W.nsIn K mainGlobals "len" = some none) (z_isinstance : PySem.W.nsIn K mainGlobals "isinstance" = some none) (z_range : PySem.W.nsIn K mainGlobals "range" = some none) (z_sorted : PySem.W.nsIn K mainGlobals "sorted" = some none) (z_str : PySem.W.nsIn K mainGlobals "str" = some none) (z_int : PySem.W.nsIn K mainGlobals "int" = some none) (z_bool : PySem.W.nsIn K mainGlobals "bool" = some none) (z_list : PySem.W.nsIn K mainGlobals "list" = some none) (z_tuple : PySem.W.nsIn K mainGlobals "tuple" = some none) :
    LamX.LawAtS l w K (L2.CX l.prog w) 3 63 "_law_script" mg fa h := by
  have e := hfa.symm.trans (PySem.W.mg_of X G a10)
  cases e
  have T : Txt K mg :=
    { len := PySem.W.mg_none_of X G z_len, isinstance := PySem.W.mg_none_of X G z_isinstance, range := PySem.W.mg_none_of X G z_range, sorted := PySem.W.mg_none_of X G z_sorted, str := PySem.W.mg_none_of X G z_str, int := PySem.W.mg_none_of X G z_int, bool := PySem.W.mg_none_of X G z_bool, list := PySem.W.mg_none_of X G z_list, tuple := PySem.W.mg_none_of X G z_tuple }
  refine ⟨PySem.W.fnOf "law" "law" (defArgs slaw) (defBody slaw) (defScope slaw) .none kV10 dc10 pm10 an10 cd10 ct10, [], spLaw K, fun p hp => ?_, fun p hp => ?_, fun p hp => ?_, fun s u => .of_eq rfl, fun H a ns hl hbits hH hS => ⟨a, ns, rfl, hS, hl, fun _ => rfl⟩, fun base KB GB TB => ?_⟩
  · cases hp
  · cases hp
  · cases hp
  · skip
    have F0 := fun_mk (st := sboxOf) l0 c0 k0
    have b0 := F0.binds (ps := ["rows", "name"]) fun _ _ _ _ _ _ us hl => match us, hl with | [_, _], _ => rfl
    have F1 := fun_mk (st := splaced) l1 c1 k1
    have b1 := F1.binds (ps := ["rows", "name", "box"]) fun _ _ _ _ _ _ us hl => match us, hl with | [_, _, _], _ => rfl
    have F2 := fun_mk (st := swithout) l2 c2 k2
    have b2 := F2.binds (ps := ["rows", "name"]) fun _ _ _ _ _ _ us hl => match us, hl with | [_, _], _ => rfl
    have F3 := fun_mk (st := splace) l3 c3 k3
    have b3 := F3.binds (ps := ["rows", "name"]) fun _ _ _ _ _ _ us hl => match us, hl with | [_, _], _ => rfl
    have F4 := fun_mk (st := sisAt) l4 c4 k4
    have b4 := F4.binds (ps := ["rows", "name", "at"]) fun _ _ _ _ _ _ us hl => match us, hl with | [_, _, _], _ => rfl
    have F5 := fun_mk (st := swhole) l5 c5 k5
    have b5 := F5.binds (ps := ["_law_seen"]) fun _ _ _ _ _ _ us hl => match us, hl with | [_], _ => rfl
    have F6 := fun_mk (st := scell) l6 c6 k6
    have b6 := F6.binds (ps := ["_law_script", "_law_k"]) fun _ _ _ _ _ _ us hl => match us, hl with | [_, _], _ => rfl
    have F7 := fun_mk (st := snameBy) l7 c7 k7
    have b7 := F7.binds (ps := ["_law_cell"]) fun _ _ _ _ _ _ us hl => match us, hl with | [_], _ => rfl
    have F8 := fun_mk (st := srowsL) l8 c8 k8
    have b8 := F8.binds (ps := ["_law_seen", "_law_due"]) fun _ _ _ _ _ _ us hl => match us, hl with | [_, _], _ => rfl
    have F9 := fun_mk (st := sroom) l9 c9 k9
    have b9 := F9.binds (ps := ["_law_script"]) fun _ _ _ _ _ _ us hl => match us, hl with | [_], _ => rfl
    have F10 := fun_mk (st := slaw) l10 c10 k10
    have cPlace : Df l.prog w K mg base 1 "_place" ["rows", "name"] (spPlace K) := ⟨⟨_, _, ok_place F3 T, PySem.W.mg_of X G a3, k3, b3⟩⟩
    have cIsAt : Df l.prog w K mg base 1 "_is_at" ["rows", "name", "at"] (spIsAt K) := ⟨⟨_, _, ok_isAt F4 T, PySem.W.mg_of X G a4, k4, b4⟩⟩
    have CR := (⟨cPlace, cIsAt⟩ : CRows l.prog w K mg base)
    have cBoxOf : Df l.prog w K mg base 2 "box_of" ["rows", "name"] (spBoxOf K) := ⟨⟨_, _, ok_boxOf F0 T CR, PySem.W.mg_of X G a0, k0, b0⟩⟩
    have cPlaced : Df l.prog w K mg base 2 "placed" ["rows", "name", "box"] (spPlaced K) := ⟨⟨_, _, ok_placed F1 T CR, PySem.W.mg_of X G a1, k1, b1⟩⟩
    have cWithout : Df l.prog w K mg base 2 "without" ["rows", "name"] (spWithout K) := ⟨⟨_, _, ok_without F2 T CR, PySem.W.mg_of X G a2, k2, b2⟩⟩
    have cWhole : Df l.prog w K mg base 1 "_law_whole" ["_law_seen"] spWhole := ⟨⟨_, _, ok_whole F5 T, PySem.W.mg_of X G a5, k5, b5⟩⟩
    have cCell : Df l.prog w K mg base 1 "_law_cell_at" ["_law_script", "_law_k"] (spCell K) := ⟨⟨_, _, ok_cell F6 T, PySem.W.mg_of X G a6, k6, b6⟩⟩
    have CBB := (⟨cWhole, cCell⟩ : CB l.prog w K mg base)
    have cNameBy : Df l.prog w K mg base 1 "_law_name_by" ["_law_cell"] spNameBy := ⟨⟨_, _, ok_nameBy F7 T, PySem.W.mg_of X G a7, k7, b7⟩⟩
    have cRowsL : Df l.prog w K mg base 2 "_law_rows" ["_law_seen", "_law_due"] (spRowsL K) := ⟨⟨_, _, ok_rowsL F8 T CBB, PySem.W.mg_of X G a8, k8, b8⟩⟩
    have cRoom : Df l.prog w K mg base 2 "_law_room" ["_law_script"] (spRoom K) := ⟨⟨_, _, ok_room F9 T CBB, PySem.W.mg_of X G a9, k9, b9⟩⟩
    exact ok_law F10 T ⟨CBB, cBoxOf, cPlaced, cWithout, cNameBy, cRowsL, cRoom⟩
end My
open PySem PySem.W PyProof.Rows in
set_option maxRecDepth 100000 in
set_option maxHeartbeats 0 in
theorem PySem.Challenge.cw_snaptree_k02_rows_placed_holds : PySem.Challenge.rw_snaptree_k02_rows_placed.Holds := by
  w_on; o_law; k_head; (case hw => w_witness2)
  k_fill
  refine My.walk_tabs (n := 63) (k := 3) (x := "_law_script") (CX := fun w => L2.CX PySem.Challenge.rw_snaptree_k02_rows_placed.prog w) rfl (by decide) rfl ⟨rfl, by decide, by decide⟩ (fun w h Y => PySem.W.kIn_of Y) ?F ?CX
  case CX =>
    intro w H s e s' h
    obtain ⟨_, _, _, _, _, _, _, _, _, _, _, _, z⟩ := h
    exact z.elim
  case F =>
    intro w mg fa h KX G hmg Tb
    refine' My.all_mk KX G hmg Tb ?a0 ?l0 ?c0 ?k0 ?a1 ?l1 ?c1 ?k1 ?a2 ?l2 ?c2 ?k2 ?a3 ?l3 ?c3 ?k3 ?a4 ?l4 ?c4 ?k4 ?a5 ?l5 ?c5 ?k5 ?a6 ?l6 ?c6 ?k6 ?a7 ?l7 ?c7 ?k7 ?a8 ?l8 ?c8 ?k8 ?a9 ?l9 ?c9 ?k9 ?a10 ?l10 ?c10 ?k10 ?z_len ?z_isinstance ?z_range ?z_sorted ?z_str ?z_int ?z_bool ?z_list ?z_tuple
    (case a0 => k_is)
    (case l0 => k_is)
    (case c0 => k_is)
    (case k0 => k_is)
    (case a1 => k_is)
    (case l1 => k_is)
    (case c1 => k_is)
    (case k1 => k_is)
    (case a2 => k_is)
    (case l2 => k_is)
    (case c2 => k_is)
    (case k2 => k_is)
    (case a3 => k_is)
    (case l3 => k_is)
    (case c3 => k_is)
    (case k3 => k_is)
    (case a4 => k_is)
    (case l4 => k_is)
    (case c4 => k_is)
    (case k4 => k_is)
    (case a5 => k_is)
    (case l5 => k_is)
    (case c5 => k_is)
    (case k5 => k_is)
    (case a6 => k_is)
    (case l6 => k_is)
    (case c6 => k_is)
    (case k6 => k_is)
    (case a7 => k_is)
    (case l7 => k_is)
    (case c7 => k_is)
    (case k7 => k_is)
    (case a8 => k_is)
    (case l8 => k_is)
    (case c8 => k_is)
    (case k8 => k_is)
    (case a9 => k_is)
    (case l9 => k_is)
    (case c9 => k_is)
    (case k9 => k_is)
    (case a10 => k_is)
    (case l10 => k_is)
    (case c10 => k_is)
    (case k10 => k_is)
    (case z_len => k_is)
    (case z_isinstance => k_is)
    (case z_range => k_is)
    (case z_sorted => k_is)
    (case z_str => k_is)
    (case z_int => k_is)
    (case z_bool => k_is)
    (case z_list => k_is)
    (case z_tuple => k_is)
#print axioms PySem.Challenge.cw_snaptree_k02_rows_placed_holds
