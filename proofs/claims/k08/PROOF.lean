import PyProof.Rows.All
import Wide.All
import OpenK.AllK
import Wide.FinOn
import HandS.ForMost
import HandS.Exc
import HandS.ExcOwn
import HandS.TryOnly
import HandS.WordsExc
import HandS.IsInst
import HandS.ExcIs
import HandS.AnyAll
import HandS.EndTab
import HandS.EndOwn
import HandS.More
import HandS.Walk
import PyProof.Rows.SortShell
import HandS.SortOrd
import HandS.SortRule
import HandS.SortInts
import HandS.Flow
import HandS.Strs
import HandS.Set
import PyProof.Rows.SetFrom
import PyProof.TupleOfGen
import PyProof.WalksPairs
import KE.KNestM
import PyProof.StrOps2
import HandS.Conv
import PySem.Challenge.RW_snaptree_k08_whole_pile
set_option Elab.async false
set_option linter.all false
set_option maxRecDepth 100000
set_option maxHeartbeats 4000000
namespace My
open PySem PySem.Spec PyProof.Rows L2

/-! ### heaps: tables may grow, all else that is tracked stays -/
structure Gr (H H' : Hp) : Prop where
  keep : ∀ b o, H b = some o → (∀ ps, o ≠ HO.tbl ps) → H' b = some o
  tab : ∀ b, GxR.TabG H b → GxR.TabG H' b
  there : ∀ b o, H b = some o → ∃ o', H' b = some o'
theorem Gr.refl (H : Hp) : Gr H H := ⟨fun _ _ h _ => h, fun _ h => h, fun _ o h => ⟨o, h⟩⟩
theorem Gr.trans {H H1 H2 : Hp} (a : Gr H H1) (b : Gr H1 H2) : Gr H H2 :=
  ⟨fun c o h n => b.keep c o (a.keep c o h n) n, fun c h => b.tab c (a.tab c h), fun c o h => by
    obtain ⟨o1, h1⟩ := a.there c o h
    exact b.there c o1 h1⟩
theorem Gr.new {H : Hp} {p : Addr} {o : HO} (h : H p = none) : Gr H (upd H p o) :=
  ⟨fun b u e _ => by rw [upd_ne (ne_of_none e h)]; exact e,
   fun b ⟨ps, e, t⟩ => ⟨ps, by rw [upd_ne (ne_of_none e h)]; exact e, t⟩,
   fun b u e => ⟨u, by rw [upd_ne (ne_of_none e h)]; exact e⟩⟩
/-- a change of an object that the elder heap doesn't know -/
theorem Gr.mut {H H' : Hp} {p : Addr} {o : HO} (g : Gr H H') (h : H p = none) : Gr H (upd H' p o) :=
  ⟨fun b u e n => by rw [upd_ne (ne_of_none e h)]; exact g.keep b u e n,
   fun b t => by
    obtain ⟨ps, e, z⟩ := t
    obtain ⟨ps', e', z'⟩ := g.tab b ⟨ps, e, z⟩
    exact ⟨ps', by rw [upd_ne (ne_of_none e h)]; exact e', z'⟩,
   fun b u e => by
    rw [upd_ne (ne_of_none e h)]
    exact g.there b u e⟩
theorem Gr.tabbed {P : Addr} {H H' : Hp} (t : GxR.TabG H P) (h : GxR.Tabbed P H H') : Gr H H' := by
  obtain ⟨t', k⟩ := h
  obtain ⟨ps, e, z⟩ := t
  refine ⟨fun b o eb n => ?_, fun b tb => ?_, fun b o eb => ?_⟩
  · rw [k b fun q => ?_]
    · exact eb
    · rw [q, e] at eb
      exact n ps (Option.some.inj eb).symm
  · by_cases hb : b = P
    · rw [hb]
      exact t'
    · obtain ⟨qs, eq, zq⟩ := tb
      exact ⟨qs, by rw [k b hb]; exact eq, zq⟩
  · by_cases hb : b = P
    · rw [hb]
      obtain ⟨qs, eq, zq⟩ := t'
      exact ⟨_, eq⟩
    · exact ⟨o, by rw [k b hb]; exact eb⟩
theorem Gr.free {H H' : Hp} {p : Addr} (g : Gr H H') (h : H' p = none) : H p = none := by
  cases e : H p with
  | none => rfl
  | some o =>
    obtain ⟨o', e'⟩ := g.there p o e
    rw [e'] at h
    cases h
theorem Gr.l {K : PySem.W.Frag} {H H' : Hp} {a : Addr} {xs : List V} (g : Gr H H') (h : SqL K H a xs) : SqL K H' a xs := by
  rcases h with (h | ⟨o, h⟩) | h
  · exact .inl (.inl (g.keep _ _ h (fun _ z => by cases z)))
  · exact .inl (.inr ⟨o, g.keep _ _ h (fun _ z => by cases z)⟩)
  · exact .inr h
theorem Gr.t {K : PySem.W.Frag} {H H' : Hp} {a : Addr} {xs : List V} (g : Gr H H') (h : SqT K H a xs) : SqT K H' a xs := by
  rcases h with (h | ⟨o, h⟩) | h
  · exact .inl (.inl (g.keep _ _ h (fun _ z => by cases z)))
  · exact .inl (.inr ⟨o, g.keep _ _ h (fun _ z => by cases z)⟩)
  · exact .inr h
theorem Gr.lst {H H' : Hp} {a : Addr} {xs : List V} (g : Gr H H') (h : H a = some (.lst xs)) : H' a = some (.lst xs) := g.keep _ _ h (fun _ z => by cases z)
theorem Gr.tup {H H' : Hp} {a : Addr} {xs : List V} (g : Gr H H') (h : H a = some (.tup xs)) : H' a = some (.tup xs) := g.keep _ _ h (fun _ z => by cases z)
theorem Gr.dK {H H' : Hp} {a : Addr} {xs : List (Key × V)} (g : Gr H H') (h : H a = some (.dK xs)) : H' a = some (.dK xs) := g.keep _ _ h (fun _ z => by cases z)
/-- the things whose kind a law asks: built-in kinds -/
theorem Gr.ty {K : PySem.W.Frag} {H H' : Hp} {x : V} {m : Value} (g : Gr H H') (h : TyX K H x m) : TyX K H' x m := by
  have nt : ∀ (o : HO), (∀ ps, o ≠ .tbl ps) → ∀ a, H a = some o → H' a = some o := fun o n a e => g.keep a o e n
  cases h with
  | base b =>
    cases b with
    | non => exact .base .non
    | bl b => exact .base (.bl b)
    | int i => exact .base (.int i)
    | str z => exact .base (.str z)
    | flt z => exact .base (.flt z)
    | lst e => exact .base (.lst (nt _ (fun _ z => by cases z) _ e))
    | frz e => exact .base (.frz (nt _ (fun _ z => by cases z) _ e))
    | tup e => exact .base (.tup (nt _ (fun _ z => by cases z) _ e))
    | dK e => exact .base (.dK (nt _ (fun _ z => by cases z) _ e))
    | dT e => exact .base (.dT (nt _ (fun _ z => by cases z) _ e))
    | ins e cl ha hn htk hm => exact .base (.ins (nt _ (fun _ z => by cases z) _ e) cl ha hn htk hm)
  | byt b => exact .byt b
  | set e => exact .set (nt _ (fun _ z => by cases z) _ e)
  | kList e c => exact .kList e c
  | kTuple e c => exact .kTuple e c
  | kDict e c => exact .kDict e c
  | fTuple e => exact .fTuple (nt _ (fun _ z => by cases z) _ e)
  | fDict e => exact .fDict (nt _ (fun _ z => by cases z) _ e)
theorem tyL {K : PySem.W.Frag} {H : Hp} {a : Addr} {xs : List V} (h : SqL K H a xs) : TyX K H (.ref a) (.type "list") := by
  rcases h with (h | ⟨o, h⟩) | ⟨o, _, _, e, c, _⟩
  · exact .base (.lst h)
  · exact .base (.frz h)
  · exact .kList e c
theorem tyT {K : PySem.W.Frag} {H : Hp} {a : Addr} {xs : List V} (h : SqT K H a xs) : TyX K H (.ref a) (.type "tuple") := by
  rcases h with (h | ⟨o, h⟩) | ⟨o, _, _, e, c, _⟩
  · exact .base (.tup h)
  · exact .fTuple h
  · exact .kTuple e c
theorem gr_of {H H2 : Hp} {p : Addr} {o : HO} (hp : H p = none) (h : upd H p o = H2) : Gr H H2 := h ▸ Gr.new hp
theorem at_of {H H2 : Hp} {p : Addr} {o : HO} (h : upd H p o = H2) : H2 p = some o := h ▸ upd_same
theorem sz_of {n : Nat} (h : n ≤ 1000000) : n ≤ sizeLine := Nat.le_trans h (by decide)
theorem sz_lt {n : Nat} (h : n < 1000000) : n < sizeLine := Nat.lt_of_lt_of_le h (by decide)

/-! ### rules' readings by a name -/
def rLenQ (K : PySem.W.Frag) : List V → Hp → VK → Prop := fun xs H Q => ∃ p ys, xs = [.ref p] ∧ (SqL K H p ys ∨ SqT K H p ys) ∧ Q (.int ys.length) H
def rLenS : List V → Hp → VK → Prop := fun xs H Q => ∃ z, xs = [.str z] ∧ z.length ≤ sizeLine ∧ Q (.int z.length) H
def rListOf (K : PySem.W.Frag) : List V → Hp → VK → Prop := fun xs H Q => ∃ p ys, xs = [.ref p] ∧ (SqL K H p ys ∨ SqT K H p ys) ∧ ∀ l, H l = none → Q (.ref l) (upd H l (.lst ys))
def rTupOf (K : PySem.W.Frag) : List V → Hp → VK → Prop := fun xs H Q => ∃ p ys, xs = [.ref p] ∧ ((SqL K H p ys ∧ ∀ l, H l = none → Q (.ref l) (upd H l (.tup ys))) ∨ (SqT K H p ys ∧ Q (.ref p) H))
def rJoin (K : PySem.W.Frag) : V → List V → Hp → VK → Prop := fun x xs H Q => ∃ a p, ∃ ys : List Str, x = .str a ∧ xs = [.ref p] ∧ (SqL K H p (ys.map V.str) ∨ SqT K H p (ys.map V.str)) ∧ (ys.map (·.length)).sum + ys.length * a.length ≤ 16777216 ∧ Q (.str (Txt.join a ys)) H
def rSplit : V → List V → Hp → VK → Prop := fun x xs H Q => ∃ a b, x = .str a ∧ xs = [.str b] ∧ (b.length == 0) = false ∧ a.length + 2 ≤ sizeLine ∧ rNewStrs (Txt.split a b) H Q
def rStarts : V → List V → Hp → VK → Prop := fun x xs H Q => ∃ a b, x = .str a ∧ xs = [.str b] ∧ Q (.bl (Txt.startswith a b)) H
def rInSign : R2 := fun x y H Q => ∃ (c : Nat) (z : Str), x = .str ⟨#[c]⟩ ∧ y = .str z ∧ Q (.bl (decide (c ∈ z.cps.toList))) H
def rAddS : R2 := fun x y H Q => ∃ i j, x = .str i ∧ y = .str j ∧ i.length + j.length ≤ sizeLine ∧ Q (.str (i ++ j)) H
def rIsNo : R2 := fun x y H Q => y = .non ∧ Q (.bl (decide (x = .non))) H
section
variable {X : Cx}
theorem cLenQ {K : PySem.W.Frag} (h : X.K = K) : CallR X (.builtin "len") (rLenQ K) := h ▸ call_len_seq
theorem cIsi {K : PySem.W.Frag} (h : X.K = K) : CallR X (.builtin "isinstance") (rIsi K) := h ▸ call_isi
theorem cIsiT {K : PySem.W.Frag} (h : X.K = K) : CallR X (.builtin "isinstance") (rIsiT K) := h ▸ call_isiT
theorem cAll {K : PySem.W.Frag} (h : X.K = K) (hc : X.calm = true) : CallR X (.builtin "all") (rAll K) := h ▸ cr_all hc
theorem oEqD {K : PySem.W.Frag} (h : X.K = K) (hu : X.A.units + 64 < cLine) : OpR X (compareOp .Eq) (rEqD K) := h ▸ op_eqD hu
theorem oNeD {K : PySem.W.Frag} (h : X.K = K) (hu : X.A.units + 64 < cLine) : OpR X (compareOp .NotEq) (rNeD K) := h ▸ op_neD hu
theorem ixL {K : PySem.W.Frag} (h : X.K = K) : IxR X (rIxL K) := h ▸ ix_list
theorem ixT {K : PySem.W.Frag} (h : X.K = K) : IxR X (rIxT K) := h ▸ ix_tup
theorem cLenS : CallR X (.builtin "len") rLenS := call_len_str
theorem cListOf {K : PySem.W.Frag} (h : X.K = K) : CallR X (.type "list") (rListOf K) := h ▸ call_list_of
theorem cTupOf {K : PySem.W.Frag} (h : X.K = K) : CallR X (.type "tuple") (rTupOf K) := h ▸ call_tuple_of
theorem oInSign : OpR X (compareOp .In) rInSign := op_in_sign
theorem oAddS : OpR X (binaryOp .Add) rAddS := op_add_str
theorem oIsNo : OpR X (compareOp .Is) rIsNo := op_isN
variable {o e : Expr} {to te : TE}
theorem peJoin {apos pos : Pos} (ho : PE X o to) (he : PE X e te) (hs : starEach [e] X.env = [(false, eval e X.env)] := by rfl) (hbase : attributeBase o "join" X.env (eval o X.env) = eval o X.env := by rfl) (hline : (apos.endLine == pos.line) = true := by rfl) :
    PE X (.Call (.Attribute o "join" apos) [e] [] pos) (tM1 (rJoin X.K) to te) := pe_m1 F.slot_str_join F.type_str_join mt_join ho he hs hbase hline
theorem peSplit {apos pos : Pos} (ho : PE X o to) (he : PE X e te) (hs : starEach [e] X.env = [(false, eval e X.env)] := by rfl) (hbase : attributeBase o "split" X.env (eval o X.env) = eval o X.env := by rfl) (hline : (apos.endLine == pos.line) = true := by rfl) :
    PE X (.Call (.Attribute o "split" apos) [e] [] pos) (tM1 rSplit to te) := pe_m1 F.slot_str_split F.type_str_split mt_split ho he hs hbase hline
theorem peStarts {apos pos : Pos} (ho : PE X o to) (he : PE X e te) (hs : starEach [e] X.env = [(false, eval e X.env)] := by rfl) (hbase : attributeBase o "startswith" X.env (eval o X.env) = eval o X.env := by rfl) (hline : (apos.endLine == pos.line) = true := by rfl) :
    PE X (.Call (.Attribute o "startswith" apos) [e] [] pos) (tM1 rStarts to te) := pe_m1 F.slot_str_startswith F.type_str_startswith mt_startswith ho he hs hbase hline
end

/-! ### one step of a reading -/
section
variable {K : PySem.W.Frag} {σ : L2.St} {H : Hp} {Q : VK} {ta tb tc te : TE} {v x y : V} {r r' : R2} {t u : TT}
theorem st_var {i : Nat} (h : σ[i]? = some (some v)) (q : Q v H) : tVar i σ H Q := ⟨v, h, q⟩
theorem st_c (q : Q v H) : tC v σ H Q := q
theorem st_op (h : ta σ H fun x H1 => tb σ H1 fun y H2 => r x y H2 Q) : tOp r ta tb σ H Q := h
theorem st_un {r : V → Hp → VK → Prop} (h : ta σ H fun x H1 => r x H1 Q) : tUn r ta σ H Q := h
theorem st_I0 {g : Int → Int → V} {i j : Int} (q : Q (g i j) H) : rI0 g (.int i) (.int j) H Q := ⟨i, j, rfl, rfl, q⟩
theorem st_I {C : Int → Int → Prop} {g : Int → Int → V} {i j : Int} (c : C i j) (q : Q (g i j) H) : rI C g (.int i) (.int j) H Q := ⟨i, j, rfl, rfl, c, q⟩
theorem st_eq (h : scal x y = true) (q : Q (.bl (decide (x = y))) H) : rEq x y H Q := ⟨h, q⟩
theorem st_ne (h : scal x y = true) (q : Q (.bl (!decide (x = y))) H) : rNe x y H Q := ⟨h, q⟩
theorem st_test {Q : Bool → Hp → Prop} (h : te σ H fun x H' => ∃ k, x = .bl k ∧ Q k H') : tTest te σ H Q := h
theorem st_tB {Q : Bool → Hp → Prop} (h : te σ H fun x H' => ∃ k, x = .bl k ∧ Q k H') : tB te σ H Q := h
theorem st_bl {P : Bool → Prop} {k : Bool} (q : P k) : ∃ k', V.bl k = V.bl k' ∧ P k' := ⟨k, rfl, q⟩
theorem st_and {Q : Bool → Hp → Prop} (h : t σ H fun c H1 => if c = true then u σ H1 Q else Q false H1) : tAnd t u σ H Q := h
theorem st_or {Q : Bool → Hp → Prop} (h : t σ H fun c H1 => if c = true then Q true H1 else u σ H1 Q) : tOr t u σ H Q := h
theorem st_not {Q : Bool → Hp → Prop} (h : t σ H fun c H1 => Q (!c) H1) : tNot t σ H Q := h
theorem st_yes {Q : Bool → Hp → Prop} (h : Q true H) : tYes σ H Q := h
theorem st_andV (h : ta σ H fun x H1 => ∃ c, x = .bl c ∧ if c = true then tb σ H1 Q else Q (.bl false) H1) : tAndV ta tb σ H Q := h
theorem st_orV (h : ta σ H fun x H1 => ∃ c, x = .bl c ∧ if c = true then Q (.bl true) H1 else tb σ H1 Q) : tOrV ta tb σ H Q := h
theorem st_notV (h : ta σ H fun x H1 => ∃ c, x = .bl c ∧ Q (.bl (!c)) H1) : tNotV ta σ H Q := h
theorem st_ifE (h : t σ H fun c H1 => if c = true then ta σ H1 Q else tb σ H1 Q) : tIf t ta tb σ H Q := h
theorem st_chain (h : ta σ H fun x H1 => tb σ H1 fun y H2 => r x y H2 fun z H3 => ∃ k, z = .bl k ∧ (if k = true then tc σ H3 fun w' H4 => r' y w' H4 Q else Q (.bl false) H3)) : tChain r r' ta tb tc σ H Q := h
/-- a way of an if -/
theorem ite3 {c : Bool} {A B : Prop} (h1 : c = true → A) (h2 : c = false → B) : if c = true then A else B := by
  cases c with
  | true => exact iteT (h1 rfl)
  | false => exact iteF (h2 rfl)
theorem st_nil {Q : List V → Hp → Prop} (q : Q [] H) : tNil σ H Q := q
theorem st_cons {tr : TA} {Q : List V → Hp → Prop} (h : te σ H fun x H1 => tr σ H1 fun xs H2 => Q (x :: xs) H2) : tCons te tr σ H Q := h
theorem st_CB {rc : List V → Hp → VK → Prop} {ta : TA} (h : ta σ H fun vs H1 => rc vs H1 Q) : tCB rc ta σ H Q := h
theorem st_call {sp : Sp} {E : XK} {ta : TA} (h : ta σ H fun vs H1 => sp vs H1 Q E) : tCall sp [] E ta σ H Q := by
  have e : (fun (vs : List V) (H1 : Hp) => sp (vs ++ []) H1 Q E) = fun vs H1 => sp vs H1 Q E := by
    funext vs H1
    rw [List.append_nil]
  show ta σ H fun vs H1 => sp (vs ++ []) H1 Q E
  rw [e]
  exact h
theorem st_m1 {rm : V → List V → Hp → VK → Prop} (h : ta σ H fun x H1 => (∃ a, x = .str a) ∧ tb σ H1 fun y H2 => rm x [y] H2 Q) : tM1 rm ta tb σ H Q := h
theorem st_bm {T : String} {rm : V → List V → Hp → VK → Prop} {t : TA} (h : ta σ H fun x H1 => tyV K T x H1 ∧ t σ H1 fun xs H2 => rm x xs H2 Q) : tBM K T rm ta t σ H Q := h
theorem st_lst {t : TA} (h : t σ H fun xs H1 => xs.length ≤ sizeLine ∧ ∀ p, H1 p = none → Q (.ref p) (upd H1 p (.lst xs))) : tLst t σ H Q := h
theorem st_tup {t : TA} (h : t σ H fun xs H1 => xs.length ≤ sizeLine ∧ ∀ p, H1 p = none → Q (.ref p) (upd H1 p (.tup xs))) : tTup t σ H Q := h
/-- a new object: its heap is a letter -/
theorem st_new {o : HO} (q : ∀ p H2, H p = none → Gr H H2 → H2 p = some o → Q (.ref p) H2) : ∀ p, H p = none → Q (.ref p) (upd H p o) := fun p hp => q p _ hp (Gr.new hp) upd_same
theorem st_sl {rs : V → Option Int → Option Int → Hp → VK → Prop} {tl th : TO} (h : te σ H fun x H1 => tl σ H1 fun l H2 => th σ H2 fun u H3 => rs x l u H3 Q) : tSl rs te tl th σ H Q := h
theorem st_noPart {Q : Option Int → Hp → Prop} (q : Q none H) : tNoPart σ H Q := q
theorem st_part {Q : Option Int → Hp → Prop} (h : te σ H fun x H1 => ∃ i, x = .int i ∧ Q (some i) H1) : tPart te σ H Q := h
theorem st_exi {P : Int → Prop} {i : Int} (q : P i) : ∃ j, V.int i = V.int j ∧ P j := ⟨i, rfl, q⟩
theorem st_ixL {p : Addr} {xs : List V} {i : Int} (h : SqL K H p xs) (ha : atI xs i = some v) (q : Q v H) : rIxL K (.ref p) (.int i) H Q := ⟨p, xs, i, v, rfl, rfl, h, ha, q⟩
theorem st_ixS {z : Str} {i : Int} {c : Nat} (h : z.length ≤ sizeLine) (ha : atI z.cps.toList i = some c) (q : Q (.str ⟨#[c]⟩) H) : rIxS (.str z) (.int i) H Q := ⟨z, i, c, rfl, rfl, h, ha, q⟩
theorem st_slS {z : Str} {lo hi : Option Int} (h : z.length ≤ sizeLine) (q : Q (.str (cutS z lo hi)) H) : rSlS (.str z) lo hi H Q := ⟨z, rfl, h, q⟩
/-- isinstance(x, a built-in kind) -/
theorem st_isi {m n : String} {b : Bool} (ty : TyX K H x (.type m)) (e : kitB m n = some b) (q : Q (.bl b) H) : rIsi K [x, .ty n] H Q := ⟨x, .ty n, .type m, .type n, b, rfl, .ty n, ty, kit_ty e, q⟩
theorem st_all {p : Addr} {bs : List Bool} (h : SqL K H p (bs.map V.bl)) (q : Q (.bl (bs.all id)) H) : rAll K [.ref p] H Q := ⟨p, bs, rfl, h, q⟩

theorem st_lenL {p : Addr} {ys : List V} (h : SqL K H p ys) (q : Q (.int ys.length) H) : rLenQ K [.ref p] H Q := ⟨p, ys, rfl, .inl h, q⟩
theorem st_lenT {p : Addr} {ys : List V} (h : SqT K H p ys) (q : Q (.int ys.length) H) : rLenQ K [.ref p] H Q := ⟨p, ys, rfl, .inr h, q⟩
theorem st_lenS {z : Str} (h : z.length ≤ sizeLine) (q : Q (.int z.length) H) : rLenS [.str z] H Q := ⟨z, rfl, h, q⟩
theorem st_listL {p : Addr} {ys : List V} (h : SqL K H p ys) (q : ∀ l, H l = none → Q (.ref l) (upd H l (.lst ys))) : rListOf K [.ref p] H Q := ⟨p, ys, rfl, .inl h, q⟩
theorem st_listT {p : Addr} {ys : List V} (h : SqT K H p ys) (q : ∀ l, H l = none → Q (.ref l) (upd H l (.lst ys))) : rListOf K [.ref p] H Q := ⟨p, ys, rfl, .inr h, q⟩
theorem st_tupL {p : Addr} {ys : List V} (h : SqL K H p ys) (q : ∀ l, H l = none → Q (.ref l) (upd H l (.tup ys))) : rTupOf K [.ref p] H Q := ⟨p, ys, rfl, .inl ⟨h, q⟩⟩
theorem st_joinL {a : Str} {p : Addr} {ys : List Str} (h : SqL K H p (ys.map V.str)) (hz : (ys.map (·.length)).sum + ys.length * a.length ≤ 16777216) (q : Q (.str (Txt.join a ys)) H) : (∃ b, V.str a = .str b) ∧ rJoin K (.str a) [.ref p] H Q := ⟨⟨a, rfl⟩, a, p, ys, rfl, rfl, .inl h, hz, q⟩
theorem st_join {a : Str} {p : Addr} {ys : List Str} (h : SqL K H p (ys.map V.str) ∨ SqT K H p (ys.map V.str)) (hz : (ys.map (·.length)).sum + ys.length * a.length ≤ 16777216) (q : Q (.str (Txt.join a ys)) H) : rJoin K (.str a) [.ref p] H Q := ⟨a, p, ys, rfl, rfl, h, hz, q⟩
theorem st_split {a b : Str} (hb : (b.length == 0) = false) (ha : a.length + 2 ≤ sizeLine) (q : ∀ p, H p = none → Q (.ref p) (upd H p (.lst ((Txt.split a b).map V.str)))) : rSplit (.str a) [.str b] H Q := ⟨a, b, rfl, rfl, hb, ha, q⟩
theorem st_starts {a b : Str} (q : Q (.bl (Txt.startswith a b)) H) : rStarts (.str a) [.str b] H Q := ⟨a, b, rfl, rfl, q⟩
theorem st_inSign {c : Nat} {z : Str} (q : Q (.bl (decide (c ∈ z.cps.toList))) H) : rInSign (.str ⟨#[c]⟩) (.str z) H Q := ⟨c, z, rfl, rfl, q⟩
theorem st_addS {i j : Str} (h : i.length + j.length ≤ sizeLine) (q : Q (.str (i ++ j)) H) : rAddS (.str i) (.str j) H Q := ⟨i, j, rfl, rfl, h, q⟩
theorem st_isNo (q : Q (.bl (decide (x = .non))) H) : rIsNo x .non H Q := ⟨rfl, q⟩
theorem st_strx {A : Prop} {a : Str} (h : A) : (∃ b, V.str a = .str b) ∧ A := ⟨⟨a, rfl⟩, h⟩
theorem st_cat {p q : Addr} {xs ys : List V} (h1 : H p = some (.lst xs)) (h2 : H q = some (.lst ys)) (hz : xs.length + ys.length ≤ sizeLine) (k : ∀ r, H r = none → Q (.ref r) (upd H r (.lst (xs ++ ys)))) : rCat (.ref p) (.ref q) H Q := ⟨p, q, xs, ys, rfl, rfl, h1, h2, hz, k⟩
theorem st_setL {p : Addr} {xs : List V} {i : Int} {j : Nat} {Q : Hp → Prop} (h : H p = some (.lst xs)) (hi : ixN xs.length i = some j) (q : Q (upd H p (.lst (xs.set j v)))) : rSetL (.ref p) (.int i) v H Q := ⟨p, xs, i, j, rfl, rfl, h, hi, q⟩
theorem st_append {l : Addr} {xs : List V} (h : H l = some (.lst xs)) (hz : xs.length < sizeLine) (q : Q .non (upd H l (.lst (xs ++ [y])))) : rAppend (.ref l) [y] H Q := ⟨l, xs, y, rfl, rfl, h, hz, q⟩
theorem st_tyL {p : Addr} {xs : List V} {A : Prop} (h : SqL K H p xs) (a : A) : tyV K "list" (.ref p) H ∧ A := ⟨.inl ⟨rfl, xs, h⟩, a⟩

/-- a and b as a value: the ways meet again -/
theorem st_meet {R : VK} {te : L2.St → Hp → VK → Prop} {d b : Bool} (hte : d = true → ∀ R' : VK, (∀ H2, Gr H H2 → R' (.bl b) H2) → te σ H R') (hf : d = false → b = false) (k : ∀ H2, Gr H H2 → R (.bl b) H2) : if d = true then te σ H R else R (.bl false) H := by
  cases d with
  | true => exact iteT (hte rfl R k)
  | false =>
    have k0 := k H (Gr.refl H)
    rw [hf rfl] at k0
    exact iteF k0
theorem iteNT {A B : Prop} (h : A) : if (!false) = true then A else B := iteT h
theorem iteNF {A B : Prop} (h : B) : if (!true) = true then A else B := iteF h
theorem st_tAllS {Pt : Addr} {pb : Nat → Bool} (h : te σ H fun v H1 => ∃ a : Str, v = .str a ∧ GxR.TabG H1 Pt ∧ ∀ H2, GxR.Tabbed Pt H1 H2 → Q (.bl (a.cps.toList.all pb)) H2) : GxR.tAllS Pt pb te σ H Q := h
theorem st_allS {z : Str} {Pt : Addr} {pb : Nat → Bool} (t : GxR.TabG H Pt) (q : ∀ H2, Gr H H2 → Q (.bl (z.cps.toList.all pb)) H2) : GxR.TabG H Pt ∧ ∀ H2, GxR.Tabbed Pt H H2 → Q (.bl (z.cps.toList.all pb)) H2 := ⟨t, fun H2 tb => q H2 (Gr.tabbed t tb)⟩

/-! ### statements -/
variable {n : L2.St → Hp → Prop} {rt : VK} {b c : L2.St → Hp → Prop} {ts us : TS} {D : Ends}
theorem st_seq (h : ts ⟨us ⟨n, rt, b, c⟩, rt, b, c⟩ σ H) : tSeq ts us ⟨n, rt, b, c⟩ σ H := h
theorem st_asg {i : Nat} (h : te σ H fun x H1 => n (σ.set i (some x)) H1) : tAsg te (gName i) ⟨n, rt, b, c⟩ σ H := h
theorem st_asgSub {to ti : TE} {tset : TSet} (h : te σ H fun x H1 => to σ H1 fun o H2 => ti σ H2 fun i H3 => tset o i x H3 fun H4 => n σ H4) : tAsg te (gSub to ti tset) ⟨n, rt, b, c⟩ σ H := h
theorem st_ifS (h : t σ H fun k H1 => if k = true then ts D σ H1 else us D σ H1) : tIfS t ts us D σ H := h
theorem st_next (q : n σ H) : tNext ⟨n, rt, b, c⟩ σ H := q
theorem st_ret (h : te σ H rt) : tRet te ⟨n, rt, b, c⟩ σ H := h
theorem st_retN (q : rt .non H) : tRetN ⟨n, rt, b, c⟩ σ H := q
theorem st_drop (h : te σ H fun _ H1 => n σ H1) : tDrop te ⟨n, rt, b, c⟩ σ H := h
/-- a loop's end, a comprehension's end, by a name -/
def LF (g : TG) (tb : TS) (D : Ends) (σ : L2.St) (J : It) (H : Hp) : Prop := ∃ W : Nat → Nat → L2.St → Hp → Prop, (∃ m, W 0 m σ H) ∧ ∀ i m σ H, W i m σ H →
  (J.stop i H ∧ D.nx σ H) ∨ (J.go i H ∧ ∃ N : L2.St → Hp → Prop, (∀ σ' H', N σ' H' → ∃ m', m' < m ∧ W (i + 1) m' σ' H') ∧ ∀ x H', J.yld i H x H' → g x σ H' fun σ2 H2 => tb { D with nx := N, ct := N, bk := D.nx } σ2 H2)
def LC (g : TG) (tt : TT) (te : TE) (vs : List Nat) (σ : L2.St) (Q : VK) (J : It) (H1 : Hp) : Prop := ∀ D, H1 D = none → ∃ W : Nat → Nat → Hp → Prop, (∃ m, W 0 m (upd H1 D (.lst []))) ∧ ∀ i m H, W i m H →
  (J.stop i H ∧ Q (.ref D) H) ∨ (J.go i H ∧ ∃ Nx : Hp → Prop, (∀ H', Nx H' → ∃ m', m' < m ∧ W (i + 1) m' H') ∧ ∀ x H', J.yld i H x H' → g x (wipe σ vs) H' fun σ2 H2 => wipe σ2 vs = wipe σ vs ∧ tt σ2 H2 fun b H3 =>
    if b = true then te σ2 H3 fun y H4 => ∃ acc, H4 D = some (.lst acc) ∧ acc.length < sizeLine ∧ Nx (upd H4 D (.lst (acc ++ [y]))) else Nx H3)
theorem st_lc {wi : TI} {g : TG} {tt : TT} {vs : List Nat} (h : wi σ H (LC g tt te vs σ Q)) : tLc wi g tt te vs σ H Q := h
theorem st_for {wi : TI} {g : TG} {tb : TS} (h : wi σ H (LF g tb D σ)) : tFor wi g tb D σ H := h
variable {R : It → Hp → Prop}
theorem st_iL {tl : TE} (h : tl σ H fun x H1 => ∃ a, x = .ref a ∧ (∃ xs, SqL K H1 a xs) ∧ R (Itl K a) H1) : iList K tl σ H R := h
theorem st_exL {a : Addr} {xs : List V} (hs : SqL K H a xs) (h : R (Itl K a) H) : ∃ a', V.ref a = .ref a' ∧ (∃ xs, SqL K H a' xs) ∧ R (Itl K a') H := ⟨a, rfl, ⟨xs, hs⟩, h⟩
theorem st_iT {tl : TE} (h : tl σ H fun x H1 => ∃ a, x = .ref a ∧ (∃ xs, SqT K H1 a xs) ∧ R (Itt K a) H1) : iTup K tl σ H R := h
theorem st_exT {a : Addr} {xs : List V} (hs : SqT K H a xs) (h : R (Itt K a) H) : ∃ a', V.ref a = .ref a' ∧ (∃ xs, SqT K H a' xs) ∧ R (Itt K a') H := ⟨a, rfl, ⟨xs, hs⟩, h⟩
theorem st_iR {ta : TA} (h : ta σ H fun vs H1 => ∃ j : Int, vs = [.int j] ∧ -(2 ^ 62) ≤ j ∧ j < 2 ^ 62 ∧ R (Itr 0 j.toNat) H1) : iRng1 ta σ H R := h
theorem st_exR {j : Int} (h1 : 0 ≤ j) (h2 : j ≤ 1000000) (h : R (Itr 0 j.toNat) H) : ∃ i : Int, [V.int j] = [V.int i] ∧ -(2 ^ 62) ≤ i ∧ i < 2 ^ 62 ∧ R (Itr 0 i.toNat) H := ⟨j, rfl, by omega, by omega, h⟩
theorem st_iS {te : TE} (h : te σ H fun v H1 => ∃ x, v = .str x ∧ R (Its x) H1) : iStr te σ H R := h
theorem st_exS {P : Str → Prop} {z : Str} (h : P z) : ∃ x, V.str z = .str x ∧ P x := ⟨z, rfl, h⟩
end

/-! ### comprehensions: what each turn gives (f), nothing else changed but by growth -/
theorem filterMap_snoc {n : Nat} {f : Nat → Option V} : (List.range (n + 1)).filterMap f = (List.range n).filterMap f ++ (match f n with | some v => [v] | none => []) := by
  rw [List.range_succ, List.filterMap_append]
  congr 1
  cases e : f n <;> simp [e]
theorem filterMap_len (n : Nat) (f : Nat → Option V) : ((List.range n).filterMap f).length ≤ n := by
  have h := List.length_filterMap_le f (List.range n)
  rw [List.length_range] at h
  exact h
theorem lc_gr {J : It} {n : Nat} {G : Hp → Prop} {Y : Nat → V → Prop} {j : Nat} {tt : TT} {te : TE} {vs : List Nat} {σ : L2.St} {H1 : Hp} {Q : VK} (w : Walk J n G (fun i H x H' => H' = H ∧ Y i x)) (hG : ∀ H', Gr H1 H' → G H') (f : Nat → Option V)
    (hs : ∀ i x H2, i < n → Y i x → Gr H1 H2 → ∀ (Qy : VK) (Qn : Hp → Prop), (∀ v H3, f i = some v → Gr H2 H3 → Qy v H3) → (f i = none → ∀ H3, Gr H2 H3 → Qn H3) → tt ((wipe σ vs).set j (some x)) H2 fun b H3 => if b = true then te ((wipe σ vs).set j (some x)) H3 Qy else Qn H3)
    (hq : ∀ D H2, H1 D = none → Gr H1 H2 → H2 D = some (.lst ((List.range n).filterMap f)) → Q (.ref D) H2)
    (hn : n ≤ 1000000) (hw : ∀ x, wipe ((wipe σ vs).set j (some x)) vs = wipe σ vs) : LC (gName j) tt te vs σ Q J H1 := by
  intro D hD
  refine lc_it w (fun i H' => Gr H1 H' ∧ H' D = some (.lst ((List.range i).filterMap f))) ⟨Gr.new hD, upd_same⟩ (fun i H' _ p => hG H' p.1) ?_ (fun H' p => hq D H' hD p.1 p.2)
  rintro i x H' H'' hi ⟨g, e⟩ ⟨rfl, y⟩
  refine ⟨hw x, hs i x H'' hi y g _ _ (fun v H3 ef g3 => ?_) (fun ef H3 g3 => ?_)⟩
  · refine ⟨(List.range i).filterMap f, g3.lst e, ?_, (g.trans g3).mut hD, ?_⟩
    · have := filterMap_len i f
      exact sz_lt (by omega)
    · rw [filterMap_snoc, ef]
      exact upd_same
  · refine ⟨g.trans g3, ?_⟩
    rw [filterMap_snoc, ef]
    show H3 D = some (HO.lst (_ ++ []))
    rw [List.append_nil]
    exact g3.lst e
/-- a for over it -/
theorem st_loop {J : It} {m : Nat} {G : Hp → Prop} {Y : Nat → V → Prop} {j : Nat} {tb : TS} {n : L2.St → Hp → Prop} {rt : VK} {b c : L2.St → Hp → Prop} {σ : L2.St} {H : Hp} (w : Walk J m G (fun i H x H' => H' = H ∧ Y i x)) (Pv : Nat → L2.St → Hp → Prop) (h0 : Pv 0 σ H)
    (hG : ∀ i σ H, i ≤ m → Pv i σ H → G H) (hs : ∀ i x σ H, i < m → Pv i σ H → Y i x → tb ⟨Pv (i + 1), rt, n, Pv (i + 1)⟩ (σ.set j (some x)) H) (hd : ∀ σ H, Pv m σ H → n σ H) : LF (gName j) tb ⟨n, rt, b, c⟩ σ J H :=
  for_it w Pv h0 hG (fun i x σ H H' hi p y => by
    obtain ⟨rfl, y⟩ := y
    exact hs i x σ H' hi p y) hd
theorem filterMap_some {n : Nat} (f : Nat → V) : (List.range n).filterMap (fun i => some (f i)) = (List.range n).map f := by
  induction n with
  | zero => rfl
  | succ n ih => rw [List.range_succ, List.filterMap_append, List.map_append, ih] <;> rfl
theorem range_map_get (xs : List V) (f : V → V) (d : V) : (List.range xs.length).map (fun i => f (xs.getD i d)) = xs.map f := by
  induction xs with
  | nil => rfl
  | cons x r ih =>
    rw [List.length_cons, List.range_succ_eq_map, List.map_cons, List.map_map, List.map_cons, ← ih]
    rfl
/-- over a list, each item gives f of it -/
theorem lc_l {K : PySem.W.Frag} {a : Addr} {xs : List V} {j : Nat} {te : TE} {vs : List Nat} {σ : L2.St} {H1 : Hp} {Q : VK} (f : V → V) (h : SqL K H1 a xs)
    (hs : ∀ (i : Nat) (x : V) (H2 : Hp), xs[i]? = some x → Gr H1 H2 → ∀ Qy : VK, (∀ H3, Gr H2 H3 → Qy (f x) H3) → te ((wipe σ vs).set j (some x)) H2 Qy)
    (hq : ∀ D H2, H1 D = none → Gr H1 H2 → H2 D = some (.lst (xs.map f)) → Q (.ref D) H2)
    (hn : xs.length ≤ 1000000) (hw : ∀ x, wipe ((wipe σ vs).set j (some x)) vs = wipe σ vs := by intro _; rfl) : LC (gName j) tYes te vs σ Q (Itl K a) H1 := by
  refine lc_gr (n := xs.length) (Y := fun i x => xs[i]? = some x) walk_list (fun H' g => g.l h) (fun i => some (f (xs.getD i .non))) (fun i x H2 hi y g Qy Qn q1 q2 => ?_) (fun D H2 hD g e => hq D H2 hD g ?_) hn hw
  · refine iteT (B := Qn H2) (hs i x H2 y g Qy fun H3 g3 => q1 _ H3 ?_ g3)
    rw [List.getD_eq_getElem?_getD, y] <;> rfl
  · rw [e, filterMap_some, range_map_get xs f .non]
/-- over a list, with a test: f of an item, where it is some *-/
theorem lc_lf {K : PySem.W.Frag} {a : Addr} {xs : List V} {j : Nat} {tt : TT} {te : TE} {vs : List Nat} {σ : L2.St} {H1 : Hp} {Q : VK} (f : V → Option V) (h : SqL K H1 a xs)
    (hs : ∀ (i : Nat) (x : V) (H2 : Hp), xs[i]? = some x → Gr H1 H2 → ∀ (Qy : VK) (Qn : Hp → Prop), (∀ v H3, f x = some v → Gr H2 H3 → Qy v H3) → (f x = none → ∀ H3, Gr H2 H3 → Qn H3) → tt ((wipe σ vs).set j (some x)) H2 fun b H3 => if b = true then te ((wipe σ vs).set j (some x)) H3 Qy else Qn H3)
    (hq : ∀ D H2, H1 D = none → Gr H1 H2 → H2 D = some (.lst (xs.filterMap f)) → Q (.ref D) H2)
    (hn : xs.length ≤ 1000000) (hw : ∀ x, wipe ((wipe σ vs).set j (some x)) vs = wipe σ vs := by intro _; rfl) : LC (gName j) tt te vs σ Q (Itl K a) H1 := by
  have e0 : ∀ (i : Nat) (x : V), xs[i]? = some x → f (xs.getD i .non) = f x := fun i x y => by rw [List.getD_eq_getElem?_getD, y] <;> rfl
  refine lc_gr (n := xs.length) (Y := fun i x => xs[i]? = some x) walk_list (fun H' g => g.l h) (fun i => f (xs.getD i .non)) (fun i x H2 hi y g Qy Qn q1 q2 => ?_) (fun D H2 hD g e => hq D H2 hD g ?_) hn hw
  · refine hs i x H2 y g Qy Qn (fun v H3 q => q1 v H3 ?_) (fun q => q2 ?_)
    · rw [e0 i x y]
      exact q
    · rw [e0 i x y]
      exact q
  · rw [e]
    have k : ∀ l : List V, (List.range l.length).filterMap (fun i => f (l.getD i .non)) = l.filterMap f := by
      intro l
      induction l with
      | nil => rfl
      | cons x r ih =>
        rw [List.length_cons, List.range_succ_eq_map, List.filterMap_cons, List.filterMap_cons, List.filterMap_map, ← ih]
        rfl
    rw [k]
theorem lc_r {n : Nat} {j : Nat} {te : TE} {vs : List Nat} {σ : L2.St} {H1 : Hp} {Q : VK} (f : Nat → V)
    (hs : ∀ (i : Nat) H2, i < n → Gr H1 H2 → ∀ Qy : VK, (∀ H3, Gr H2 H3 → Qy (f i) H3) → te ((wipe σ vs).set j (some (.int (i : Int)))) H2 Qy)
    (hq : ∀ D H2, H1 D = none → Gr H1 H2 → H2 D = some (.lst ((List.range n).map f)) → Q (.ref D) H2)
    (hn : n ≤ 1000000) (hw : ∀ x, wipe ((wipe σ vs).set j (some x)) vs = wipe σ vs := by intro _; rfl) : LC (gName j) tYes te vs σ Q (Itr 0 n) H1 := by
  refine lc_gr (n := n) (Y := fun i x => x = .int (0 + (i : Int))) walk_range (fun _ _ => True.intro) (fun i => some (f i)) (fun i x H2 hi y g Qy Qn q1 q2 => ?_) (fun D H2 hD g e => hq D H2 hD g ?_) hn hw
  · subst y
    rw [Int.zero_add]
    exact iteT (B := Qn H2) (hs i H2 hi g Qy fun H3 g3 => q1 _ H3 rfl g3)
  · rw [e, filterMap_some]
theorem lc_s {z : Str} {j : Nat} {te : TE} {vs : List Nat} {σ : L2.St} {H1 : Hp} {Q : VK} (f : Nat → V)
    (hs : ∀ (c : Nat) H2, c ∈ z.cps.toList → Gr H1 H2 → ∀ Qy : VK, (∀ H3, Gr H2 H3 → Qy (f c) H3) → te ((wipe σ vs).set j (some (.str ⟨#[c]⟩))) H2 Qy)
    (hq : ∀ D H2, H1 D = none → Gr H1 H2 → H2 D = some (.lst (z.cps.toList.map f)) → Q (.ref D) H2)
    (hn : z.length ≤ 1000000) (hw : ∀ x, wipe ((wipe σ vs).set j (some x)) vs = wipe σ vs := by intro _; rfl) : LC (gName j) tYes te vs σ Q (Its z) H1 := by
  refine lc_gr (n := z.cps.size) (Y := fun i v => ∃ c, z.cps[i]? = some c ∧ v = .str ⟨#[c]⟩) walk_str (fun _ _ => True.intro) (fun i => some (f (z.cps.toList.getD i 0))) (fun i x H2 hi y g Qy Qn q1 q2 => ?_) (fun D H2 hD g e => hq D H2 hD g ?_) hn hw
  · obtain ⟨c, e, rfl⟩ := y
    have e2 : z.cps.toList[i]? = some c := by rw [Array.getElem?_toList]; exact e
    refine iteT (B := Qn H2) (hs c H2 (List.mem_of_getElem? e2) g Qy fun H3 g3 => q1 _ H3 ?_ g3)
    rw [List.getD_eq_getElem?_getD, e2] <;> rfl
  · rw [e, filterMap_some]
    have k : ∀ l : List Nat, (List.range l.length).map (fun i => f (l.getD i 0)) = l.map f := by
      intro l
      induction l with
      | nil => rfl
      | cons x r ih =>
        rw [List.length_cons, List.range_succ_eq_map, List.map_cons, List.map_map, List.map_cons, ← ih]
        rfl
    rw [← Array.length_toList, k]

/-! ### a def of the module, called by its name -/
structure Df (P : Program) (w : World) (K : PySem.W.Frag) (mg : Str → Option Value) (base : Heap) (k : Nat) (x : Str) (ps : List Str) (sp : Sp) : Prop where
  ex : ∃ (f : Addr) (fd : FuncData), FnOk P w K mg base (L2.CX P w) k f fd ps sp ∧ mg x = some (.ref f) ∧ PySem.W.keepIn K (.ref f) = true ∧ Binds K fd ps []
section
variable {X : Cx} {k j : Nat} {ps : List Str} {x : Str} {sp : Sp} {p pos : Pos} {e : Expr} {es : List Expr} {t : TA}
theorem pe_d0 (c : Df X.prog X.w X.K X.mg X.base k x ps sp) (hr : Room k X.A) (hg : Gl X x) (ha : PA X (e :: es) t)
    (hdb : (x == ("__debug__" : Str)) = false := by decide) (he : starEach (e :: es) X.env = (false, eval e X.env) :: starEach es X.env := by rfl) (hpl : (backTo pos (starEach es X.env)).any (·.1) = false := by rfl) :
    PE X (.Call (.Name x p) (e :: es) [] pos) (tCall sp [] E0 t) := by
  obtain ⟨f, fd, F, hm, kp, b⟩ := c.ex
  exact pe_call F hr hg hm kp b .nil passL ha hdb he hpl
theorem pe_dE {E : XK} (c : Df X.prog X.w X.K X.mg X.base k x ps sp) (hr : Room k X.A) (hg : Gl X x) (tk : Takes X (fun cls d _ H => E cls d H)) (ha : PA X (e :: es) t)
    (hdb : (x == ("__debug__" : Str)) = false := by decide) (he : starEach (e :: es) X.env = (false, eval e X.env) :: starEach es X.env := by rfl) (hpl : (backTo pos (starEach es X.env)).any (·.1) = false := by rfl) :
    PE X (.Call (.Name x p) (e :: es) [] pos) (tCall sp [] E t) := by
  obtain ⟨f, fd, F, hm, kp, b⟩ := c.ex
  exact pe_call F hr hg hm kp b .nil (passes_call tk fun _ _ _ _ h => h) ha hdb he hpl
end
/-! ### a call of a local that holds a def which may raise; what is raised is wished for at the slots -/
def tCallLS (i : Nat) (S : Addr → Sp → Prop) (E : L2.St → XK) (t : TA) : TE := fun σ H Q => ∃ f sp, σ[i]? = some (some (.ref f)) ∧ S f sp ∧ t σ H fun vs H1 => sp vs H1 Q (E σ)
structure HeldX (P : Program) (w : World) (K : PySem.W.Frag) (mg : Str → Option Value) (base : Heap) (k : Nat) (f : Addr) (sp : Sp) : Prop where
  ex : ∃ (fd : FuncData) (ps : List Str), FnOk P w K mg base (L2.CX P w) k f fd ps sp ∧ PySem.W.keepIn K (.ref f) = true ∧ Binds K fd ps []
section
variable {X : Cx} {k i : Nat} {x : Str} {p pos : Pos} {e : Expr} {es : List Expr} {t : TA}
theorem pe_callLS {S : Addr → Sp → Prop} {E : L2.St → XK} (A : ∀ f sp, S f sp → HeldX X.prog X.w X.K X.mg X.base k f sp) (hr : Room k X.A) (hx : ∀ σ, PassesAt (L2.CX X.prog X.w) X σ (E σ)) (hN : X.N[i]? = some x) (hv : Vis X.env.scope x) (ha : PA X (e :: es) t)
    (hdb : (x == ("__debug__" : Str)) = false := by decide) (hcd : (x == ("__classdict__" : Str)) = false := by decide)
    (he : starEach (e :: es) X.env = (false, eval e X.env) :: starEach es X.env := by rfl) (hpl : (backTo pos (starEach es X.env)).any (·.1) = false := by rfl) : PE X (.Call (.Name x p) (e :: es) [] pos) (tCallLS i S E t) := by
  refine ⟨fun pins s σ H Q I h => ?_⟩
  obtain ⟨f, sp, hs, hS, ht⟩ := h
  obtain ⟨fd, ps, F, hk, hb⟩ := (A f sp hS).ex
  refine wpAny_Call_Name_kw (thn ((pe_var (pos := p) hN hv hdb hcd).run pins s σ H (fun v H1 => v = .ref f ∧ H1 = H) I ⟨.ref f, hs, rfl, rfl⟩) fun u s1 ⟨v, H1, I1, r1, q1⟩ => ?_)
  obtain ⟨rfl, rfl⟩ := q1
  cases r1
  refine PySem.W.callWith_K (h₀ := X.base) I.ok.mod.kin hk (thn (ha.run pos pins s1 σ _ _ I1 ht) fun us s2 ⟨vs, H2, I2, r, q⟩ => ⟨I2.kIn, ?_⟩) he hpl
  exact run_fnS F hr hb (hx σ) I2 r q
/-- a block whose rules stand on a fact: the fact is asked ahead of it -/
theorem pss_guard {sts : List Stmt} {ts : TS} {p : Prop} (h : p → PSs X sts ts) : PSs X sts (fun D σ H => p ∧ ts D σ H) :=
  ⟨fun pins s σ H D I q => (h q.1).run pins s σ H D I q.2⟩
end
theorem atI_getD {l : List Nat} {i : Int} (h0 : 0 ≤ i) (h1 : i < (l.length : Int)) : atI l i = some (l.getD i.toNat 0) := by
  have e : i = ((i.toNat : Nat) : Int) := (Int.toNat_of_nonneg h0).symm
  have hl : i.toNat < l.length := by omega
  rw [e]
  refine atI_nat ?_
  rw [List.getD_eq_getElem?_getD, Int.toNat_natCast, List.getElem?_eq_getElem hl] <;> rfl
theorem atI_getV {l : List V} {i : Int} (h0 : 0 ≤ i) (h1 : i < (l.length : Int)) : ∃ v, v ∈ l ∧ atI l i = some v := by
  obtain ⟨j, rfl⟩ : ∃ j : Nat, i = (j : Int) := ⟨i.toNat, (Int.toNat_of_nonneg h0).symm⟩
  have hl : j < l.length := by omega
  exact ⟨l[j], List.getElem_mem hl, atI_nat (List.getElem?_eq_getElem hl)⟩
end My
namespace My
open PySem PySem.Spec PyProof.Rows L2
/-! ### texts by their order -/
def ltS (a b : Str) : Bool := decide (a.cps.toList < b.cps.toList)
theorem ltS_irr (a : Str) : ltS a a = false := decide_eq_false (List.lt_irrefl _)
theorem ltS_tr {a b c : Str} (h : ltS a b = true) (h2 : ltS b c = true) : ltS a c = true := decide_eq_true (List.lt_trans (of_decide_eq_true h) (of_decide_eq_true h2))
theorem ltS_as {a b : Str} (h : ltS a b = true) : ltS b a = false := decide_eq_false (List.lt_asymm (of_decide_eq_true h))
theorem str_ext {a b : Str} (h : a.cps.toList = b.cps.toList) : a = b := by
  cases a with
  | mk x =>
    cases b with
    | mk y =>
      have e : x = y := by
        cases x with
        | mk u =>
          cases y with
          | mk v => exact congrArg _ h
      rw [e]
theorem ltS_tri {a b : Str} (h : ltS a b = false) (h2 : ltS b a = false) : a = b := str_ext (List.le_antisymm (List.not_lt.mp (of_decide_eq_false h2)) (List.not_lt.mp (of_decide_eq_false h)))
theorem ltS_ne {a b : Str} (h : ltS a b = true) : a ≠ b := fun e => by
  rw [e, ltS_irr] at h
  cases h
theorem ltS_cot {a b c : Str} (h1 : ltS b a = false) (h2 : ltS c b = false) : ltS c a = false := by
  cases e : ltS c a with
  | false => rfl
  | true =>
    cases e2 : ltS a b with
    | true =>
      rw [ltS_tr e e2] at h2
      cases h2
    | false =>
      rw [ltS_tri e2 h1] at e
      rw [e] at h2
      cases h2
/-! ### sorting texts and keys of a dict, any number of them -/
namespace St
open SrtO Srt
section
variable {prog : Program} {w : World} {A : Around} {E : Value → Shared → Prop} {s : Shared}
def sv : Value → Str
  | .str x _ => x
  | _ => ⟨#[]⟩
def ltSv (v u : Value) : Bool := ltS (sv v) (sv u)
theorem swo_str : Swo ltSv := ⟨fun x y h => ltS_as h, fun x y z h1 h2 => ltS_cot h1 h2⟩
theorem strs_mem : ∀ {vs : List Value} {ns : List Str}, StrsAre vs ns → ∀ v ∈ vs, ∃ i t, v = Value.str i t
  | _, _, .nil, v, h => absurd h (by simp)
  | _, _, .cons n t r, v, h => by
    rcases List.mem_cons.mp h with e | h
    · exact ⟨n, t, e⟩
    · exact strs_mem r v h
theorem strs_sv : ∀ {vs : List Value}, (∀ v ∈ vs, ∃ i t, v = Value.str i t) → StrsAre vs (vs.map sv)
  | [], _ => .nil
  | v :: vs, h => by
    obtain ⟨i, t, e⟩ := h v List.mem_cons_self
    subst e
    exact .cons i t (strs_sv fun u hu => h u (List.mem_cons_of_mem _ hu))
theorem sv_strs : ∀ {vs : List Value} {ns : List Str}, StrsAre vs ns → vs.map sv = ns
  | _, _, .nil => rfl
  | _, _, .cons n t r => congrArg (n :: ·) (sv_strs r)
theorem str_cmp {vs : List Value} {ns : List Str} (hI : StrsAre vs ns) : Cmp prog w A s oneType' (fun p => p.1 ∈ vs) (lt2 ltSv) := by
  intro p q hm hm'
  obtain ⟨a, t, e⟩ := strs_mem hI _ hm
  obtain ⟨b, u, e'⟩ := strs_mem hI _ hm'
  show wpAny (model prog w) A (keyLt' oneType' p.1 q.1) (fun r s' => s' = s ∧ r = ltSv p.1 q.1) (fun _ _ => False) s
  rw [e, e', keyLt'_oneType]
  exact oneLt_str ⟨rfl, rfl⟩
theorem strs_sortable {a : Addr} {vs : List Value} {ns : List Str} (hI : StrsAre vs ns) (h2 : 2 ≤ vs.length) : SortableO prog w A s a vs ltSv := by
  intro h' _
  refine ⟨oneType', fun Q E hq => ?_, str_cmp hI⟩
  match vs, hI, h2 with
  | v1 :: v2 :: rest, hI, _ =>
    rw [keyKind_strs hI]
    exact wpAny_pure hq
  | [], _, h => exact absurd h (by decide)
  | [v], _, h => exact absurd h (by simp)
theorem strs_out {vs out : List Value} {ns : List Str} (hI : StrsAre vs ns) (hs : Srtd ltSv out) (hb : Stb ltSv out vs) : StrsAre out (out.map sv) ∧ (out.map sv).Perm ns ∧ (out.map sv).Pairwise (fun a b => ltS b a = false) := by
  refine ⟨strs_sv fun v hv => strs_mem hI v (hb.perm.mem_iff.mp hv), ?_, ?_⟩
  · have q := hb.perm.map sv
    rw [sv_strs hI] at q
    exact q
  · exact List.pairwise_map.mpr (hs.imp fun {x y} h => h)
end
end St
def SrtS (ys : List Str) : Prop := ys.Pairwise fun a b => ltS b a = false
def rSortedSA (K : PySem.W.Frag) : List V → Hp → VK → Prop := fun vs H Q => ∃ (a : Addr) (ns : List Str), vs = [V.ref a] ∧ SqL K H a (ns.map V.str) ∧
  ∀ (ns' : List Str) (p : Addr), ns'.Perm ns → SrtS ns' → H p = none → Q (.ref p) (upd H p (.lst (ns'.map V.str)))
def rSortedDSA : List V → Hp → VK → Prop := fun xs H Q => ∃ (a : Addr) (kvs : List (Key × V)) (ks : List Str), xs = [.ref a] ∧ Rd H a (.dK kvs) ∧ kvs.map (·.1) = ks.map Sum.inr ∧ ks.length ≤ 1000000 ∧
    ∀ ys p, ys.Perm ks → SrtS ys → H p = none → Q (.ref p) (upd H p (.lst (ys.map V.str)))
def rSortedDIA : List V → Hp → VK → Prop := fun xs H Q => ∃ (a : Addr) (kvs : List (Key × V)) (ks : List Int), xs = [.ref a] ∧ Rd H a (.dK kvs) ∧ kvs.map (·.1) = ks.map Sum.inl ∧ ks.length ≤ 1000000 ∧
    ∀ (ys : List Int) p, ys.Perm ks → ys.Pairwise (· ≤ ·) → H p = none → Q (.ref p) (upd H p (.lst (ys.map V.int)))
section
variable {X : Cx}
theorem cr_sortedSA : CallR X (.builtin "sorted") (rSortedSA X.K) := by
  intro pins s σ H vs us Q I r h
  obtain ⟨a, ns, rfl, hs, q⟩ := h
  obtain ⟨its, rv, hl, hz⟩ := I.list hs
  rw [Vals.ref1 r]
  have hi := rv.strs
  refine SrtO.sorted_ord St.swo_str hl.isList (by rw [← rv.length]; exact hz) (fun h2 h₁ a' _ _ => St.strs_sortable hi h2) fun out h1 h2 => ?_
  obtain ⟨k1, k2, k3⟩ := St.strs_out hi h1 h2
  obtain ⟨ep, he'⟩ := PyProof.Rows.sortedAll_at s.heap its out.toArray
  have hlen : ((out.map St.sv).map V.str).length ≤ sizeLine := by
    rw [List.length_map, k2.length_eq]
    rw [List.length_map] at hz
    exact hz
  exact ⟨.ref _, upd H (s.heap.objs.size + 1) (.lst ((out.map St.sv).map V.str)), I.laid (t' := s.toks) (fun _ _ => PyProof.Rows.sortedAll_old) (Nat.le_succ _) ⟨hlen, out, ep, vals_of_strs k1, he'⟩, rfl, q _ _ k2 k3 (I.hok.fresh (Nat.le_succ _))⟩
theorem cr_sortedDSA (hcalm : X.calm = true) : CallR X (.builtin "sorted") rSortedDSA := by
  intro pins s σ H xs us Q I r q
  obtain ⟨a, kvs, ks, ex, hd, hks, h64, q⟩ := q
  subst ex
  obtain ⟨u, eu, rx⟩ := vals1 r
  subst eu
  cases rx
  obtain ⟨z, lo, vs, rel, dd⟩ := dk_rd I.hok hd
  obtain ⟨ep, hat⟩ := dd.dictAt
  have hkeys : vs.map (·.1) = ks.map Sum.inr := rel.keys.symm.trans hks
  have hl : vs.length = ks.length := by
    have e := congrArg List.length hkeys
    rw [List.length_map, List.length_map] at e
    exact e
  have h16 : vs.length ≤ sizeLine := by rw [hl, sizeLine_eq]; omega
  refine Calls.call_function_entry PyProof.Rows.kind_sorted PyProof.Rows.plain_sorted PyProof.Rows.entry_sorted (PyProof.Rows.args_sorted1 _) ?_
  unfold Builtin.«sorted»
  refine wpAny_bind (m := checkCount "sorted" 1 1 _) (wpAny_pure ?_)
  refine wpAny_bind (PySem.W.kdu_collect (A := X.A.in1) (PySem.W.kdl_dict (knd := mixKind X.prog X.w) (kvs := vs) (ep := ep) lo) (I.ok.hd hcalm) hat h16 fun h' tk acc hk hacc => ?_)
  have hal : acc.toList.length = ks.length := by rw [Array.length_toList, hacc.1, hl]
  have hS : StrsAre acc.toList ks := strs_at hal fun j v e => by
    obtain ⟨k, x, e1, e2⟩ := hacc.2 j v (by rw [← Array.getElem?_toList]; exact e)
    have e3 : (vs.map (·.1))[j]? = some k := by rw [List.getElem?_map, e1]; all_goals rfl
    rw [hkeys, List.getElem?_map] at e3
    cases e4 : ks[j]? with
    | none => rw [e4] at e3; cases e3
    | some y =>
      rw [e4] at e3
      have e5 : Sum.inr y = k := Option.some.inj e3
      subst e5
      obtain ⟨t, ev⟩ := Value.isStrOf_shape (x := y) (v := v) e2
      exact ⟨y, t, rfl, ev⟩
  have I1 : Inv X pins σ H { s with heap := h', toks := tk } := I.kept hk
  refine wpAny_bind (wpAny_newList ?_ (by rw [hal, sizeLine_eq]; omega))
  have hoL : (h'.push (seqObj "list" acc.toList.toArray 0)).get? h'.objs.size = some (seqObj "list" acc.toList.toArray 0) := Heap.get?_push_size _ rfl
  show wpAny _ _ _ _ _ { s with heap := h'.push (seqObj "list" acc.toList.toArray 0), toks := tk }
  refine wpAny_bind (wpAny_holding (wpAny_call_entry PyProof.Rows.slot_list_sort ⟨_, hoL, rfl⟩ PyProof.Rows.entry_list_sort
    (SrtO.list_sort_ord (s := { s with heap := h'.push (seqObj "list" acc.toList.toArray 0), toks := tk }) St.swo_str hoL (by rw [hal, sizeLine_eq]; omega) (fun h2 => St.strs_sortable hS h2) fun out h1 h2 => ⟨_, rfl, ?_⟩)
    (PyProof.Rows.args_list_sort _)))
  obtain ⟨k1, k2, k3⟩ := St.strs_out hS h1 h2
  obtain ⟨e', he'⟩ := PyProof.Rows.sortedHeap_at (vs := acc.toList) (out := out.toArray) hoL
  have hlen : ((out.map St.sv).map V.str).length ≤ sizeLine := by
    rw [List.length_map, k2.length_eq, sizeLine_eq]
    omega
  refine wpAny_pure ⟨_, rfl, .ref h'.objs.size, upd H h'.objs.size (.lst ((out.map St.sv).map V.str)), I1.laid (t' := tk) (fun b u e => ?_) (Nat.le_refl _)
    (show ObjOk X.prog X.w _ _ _ (.lst ((out.map St.sv).map V.str)) from ⟨hlen, out, e', vals_of_strs k1, he'⟩), rfl, q _ _ k2 k3 (I1.hok.fresh (Nat.le_refl _))⟩
  have hb : b < h'.objs.size := Heap.lt_size e
  rw [PyProof.Rows.sortedHeap_old (Nat.ne_of_lt hb) (by rw [size_push']; exact Nat.lt_succ_of_lt hb)]
  exact Heap.get?_push_of_some _ e
theorem cr_sortedDIA (hcalm : X.calm = true) : CallR X (.builtin "sorted") rSortedDIA := by
  intro pins s σ H xs us Q I r q
  obtain ⟨a, kvs, ks, ex, hd, hks, h64, q⟩ := q
  subst ex
  obtain ⟨u, eu, rx⟩ := vals1 r
  subst eu
  cases rx
  obtain ⟨z, lo, vs, rel, dd⟩ := dk_rd I.hok hd
  obtain ⟨ep, hat⟩ := dd.dictAt
  have hkeys : vs.map (·.1) = ks.map Sum.inl := rel.keys.symm.trans hks
  have hl : vs.length = ks.length := by
    have e := congrArg List.length hkeys
    rw [List.length_map, List.length_map] at e
    exact e
  have h16 : vs.length ≤ sizeLine := by rw [hl, sizeLine_eq]; omega
  refine Calls.call_function_entry PyProof.Rows.kind_sorted PyProof.Rows.plain_sorted PyProof.Rows.entry_sorted (PyProof.Rows.args_sorted1 _) ?_
  unfold Builtin.«sorted»
  refine wpAny_bind (m := checkCount "sorted" 1 1 _) (wpAny_pure ?_)
  refine wpAny_bind (PySem.W.kdu_collect (A := X.A.in1) (PySem.W.kdl_dict (knd := mixKind X.prog X.w) (kvs := vs) (ep := ep) lo) (I.ok.hd hcalm) hat h16 fun h' tk acc hk hacc => ?_)
  have hal : acc.toList.length = ks.length := by rw [Array.length_toList, hacc.1, hl]
  have hS : IntsAre acc.toList ks := ints_each hal fun j v e => by
    obtain ⟨k, x, e1, e2⟩ := hacc.2 j v (by rw [← Array.getElem?_toList]; exact e)
    have e3 : (vs.map (·.1))[j]? = some k := by rw [List.getElem?_map, e1]; all_goals rfl
    rw [hkeys, List.getElem?_map] at e3
    cases e4 : ks[j]? with
    | none => rw [e4] at e3; cases e3
    | some y =>
      rw [e4] at e3
      have e5 : Sum.inl y = k := Option.some.inj e3
      subst e5
      rcases keyIs_shape (show keyIs (Sum.inl y) v = true from e2) with ⟨i, t, ek, ev⟩ | ⟨z, t, ek, ev⟩
      · cases ek
        exact ⟨y, t, rfl, ev⟩
      · cases ek
  have I1 : Inv X pins σ H { s with heap := h', toks := tk } := I.kept hk
  refine wpAny_bind (wpAny_newList ?_ (by rw [hal, sizeLine_eq]; omega))
  have hoL : (h'.push (seqObj "list" acc.toList.toArray 0)).get? h'.objs.size = some (seqObj "list" acc.toList.toArray 0) := Heap.get?_push_size _ rfl
  show wpAny _ _ _ _ _ { s with heap := h'.push (seqObj "list" acc.toList.toArray 0), toks := tk }
  refine wpAny_bind (wpAny_holding (wpAny_call_entry PyProof.Rows.slot_list_sort ⟨_, hoL, rfl⟩ PyProof.Rows.entry_list_sort
    (SrtO.list_sort_ord (s := { s with heap := h'.push (seqObj "list" acc.toList.toArray 0), toks := tk }) SrtO.swo_int hoL (by rw [hal, sizeLine_eq]; omega) (fun h2 => SrtO.ints_sortable hS h2) fun out h1 h2 => ⟨_, rfl, ?_⟩)
    (PyProof.Rows.args_list_sort _)))
  obtain ⟨k1, k2, k3⟩ := SrtO.ints_out hS h1 h2
  obtain ⟨e', he'⟩ := PyProof.Rows.sortedHeap_at (vs := acc.toList) (out := out.toArray) hoL
  have hlen : ((out.map SrtO.iv).map V.int).length ≤ sizeLine := by
    rw [List.length_map, k2.length_eq, sizeLine_eq]
    omega
  refine wpAny_pure ⟨_, rfl, .ref h'.objs.size, upd H h'.objs.size (.lst ((out.map SrtO.iv).map V.int)), I1.laid (t' := tk) (fun b u e => ?_) (Nat.le_refl _)
    (show ObjOk X.prog X.w _ _ _ (.lst ((out.map SrtO.iv).map V.int)) from ⟨hlen, out, e', vals_of_ints k1, he'⟩), rfl, q _ _ k2 k3 (I1.hok.fresh (Nat.le_refl _))⟩
  have hb : b < h'.objs.size := Heap.lt_size e
  rw [PyProof.Rows.sortedHeap_old (Nat.ne_of_lt hb) (by rw [size_push']; exact Nat.lt_succ_of_lt hb)]
  exact Heap.get?_push_of_some _ e
end
end My
namespace My
open PySem PySem.Spec PyProof.Rows L2
/-- a list or a tuple -/
def SqQ (K : PySem.W.Frag) (H : Hp) (p : Addr) (xs : List V) : Prop := SqL K H p xs ∨ SqT K H p xs
theorem Gr.q {K : PySem.W.Frag} {H H' : Hp} {a : Addr} {xs : List V} (g : Gr H H') (h : SqQ K H a xs) : SqQ K H' a xs := h.imp (fun z => g.l z) fun z => g.t z
def rIxQ (K : PySem.W.Frag) : R2 := fun x y H Q => ∃ p xs i v, x = .ref p ∧ y = .int i ∧ SqQ K H p xs ∧ atI xs i = some v ∧ Q v H
def rLtS : R2 := fun x y H Q => ∃ i j, x = .str i ∧ y = .str j ∧ Q (.bl (decide (i.cps.toList < j.cps.toList))) H
section
variable {X : Cx}
theorem ixQ {K : PySem.W.Frag} (h : X.K = K) : IxR X (rIxQ K) := by
  subst h
  intro value slice pins s σ H x y v u Q I rx ry q hs
  obtain ⟨p, xs, i, z, e1, e2, hq, he, k⟩ := q
  refine ix_seq value slice pins s σ H x y v u Q I rx ry ?_ hs
  rcases hq with hq | hq
  · exact .inl ⟨p, xs, i, z, e1, e2, hq, he, k⟩
  · exact .inr (.inl ⟨p, xs, i, z, e1, e2, hq, he, k⟩)
theorem cSortedSA {K : PySem.W.Frag} (h : X.K = K) : CallR X (.builtin "sorted") (rSortedSA K) := h ▸ cr_sortedSA
theorem oLtS : OpR X (compareOp .Lt) rLtS := op_lt_str
end
section
variable {K : PySem.W.Frag} {σ : L2.St} {H : Hp} {Q : VK} {v x y z : V} {te td ty tv tx to ti : TE} {rt : VK} {n b c : L2.St → Hp → Prop}
theorem st_ixQ {p : Addr} {xs : List V} {i : Int} (h : SqQ K H p xs) (ha : atI xs i = some v) (q : Q v H) : rIxQ K (.ref p) (.int i) H Q := ⟨p, xs, i, v, rfl, rfl, h, ha, q⟩
theorem st_ixT {p : Addr} {xs : List V} {i : Int} (h : SqT K H p xs) (ha : atI xs i = some v) (q : Q v H) : rIxT K (.ref p) (.int i) H Q := ⟨p, xs, i, v, rfl, rfl, h, ha, q⟩
theorem st_ltS {i j : Str} (q : Q (.bl (ltS i j)) H) : rLtS (.str i) (.str j) H Q := ⟨i, j, rfl, rfl, q⟩
theorem st_lenQ {p : Addr} {ys : List V} (h : SqQ K H p ys) (q : Q (.int ys.length) H) : rLenQ K [.ref p] H Q := ⟨p, ys, rfl, h, q⟩
theorem st_listQ {p : Addr} {ys : List V} (h : SqQ K H p ys) (q : ∀ l, H l = none → Q (.ref l) (upd H l (.lst ys))) : rListOf K [.ref p] H Q := ⟨p, ys, rfl, h, q⟩
theorem st_dnewK (q : ∀ p, H p = none → Q (.ref p) (upd H p (.dK []))) : tDNewK σ H Q := q
theorem st_dget (h : td σ H fun x H1 => ty σ H1 fun y H2 => ∃ a v, x = .ref a ∧ DGet H2 a y (some v) ∧ Q v H2) : tDGet td ty σ H Q := h
theorem st_din (h : ty σ H fun y H1 => td σ H1 fun x H2 => ∃ a o, x = .ref a ∧ DGet H2 a y o ∧ Q (.bl o.isSome) H2) : tDIn ty td σ H Q := h
theorem st_dnotin (h : ty σ H fun y H1 => td σ H1 fun x H2 => ∃ a o, x = .ref a ∧ DGet H2 a y o ∧ Q (.bl (!o.isSome)) H2) : tDNotIn ty td σ H Q := h
theorem st_dput (h : tv σ H fun v H1 => td σ H1 fun x H2 => ty σ H2 fun y H3 => ∃ a H4, x = .ref a ∧ DPut H3 a y v H4 ∧ n σ H4) : sDPut td ty tv ⟨n, rt, b, c⟩ σ H := h
theorem st_daug {rd : V → V → Hp → VK → Prop} (h : td σ H fun x H1 => ty σ H1 fun y H2 => ∃ a v, x = .ref a ∧ DGet H2 a y (some v) ∧
  tv σ H2 fun y2 H3 => rd v y2 H3 fun z H4 => ∃ H5, DPut H4 a y z H5 ∧ n σ H5) : sDAug td ty tv rd ⟨n, rt, b, c⟩ σ H := h
theorem st_ddel (h : td σ H fun x H1 => ty σ H1 fun y H2 => ∃ a kvs k, x = .ref a ∧ H2 a = some (.dK kvs) ∧ y = kV k ∧ (valV kvs k).isSome = true ∧ n σ (upd H2 a (.dK (dropK kvs k)))) : sDDel td ty ⟨n, rt, b, c⟩ σ H := h
theorem st_dget2 (h : td σ H fun x H1 => ∃ a, x = .ref a ∧ IsD H1 a ∧ ty σ H1 fun y H2 => tx σ H2 fun z H3 => ∃ o, DGet H3 a y o ∧ Q (o.getD z) H3) : tDGet2 td ty tx σ H Q := h
theorem st_dpop2 (h : td σ H fun x H1 => ∃ a, x = .ref a ∧ IsD H1 a ∧ ty σ H1 fun y H2 => tx σ H2 fun z H3 => ∃ kvs k, H3 a = some (.dK kvs) ∧ y = kV k ∧
  (∀ v, valV kvs k = some v → Q v (upd H3 a (.dK (dropK kvs k)))) ∧ (valV kvs k = none → Q z H3)) : tDPop2 td ty tx σ H Q := h
/-- the leaves: a dict with number and text keys -/
theorem lf_dget {a : Addr} {kvs : List (Key × V)} {k : Key} {P : V → Prop} (h : H a = some (.dK kvs)) (e : valV kvs k = some v) (q : P v) : ∃ a' v', V.ref a = .ref a' ∧ DGet H a' (kV k) (some v') ∧ P v' := ⟨a, v, rfl, e ▸ DGet.k h, q⟩
theorem lf_din {a : Addr} {kvs : List (Key × V)} {k : Key} {P : Bool → Prop} (h : H a = some (.dK kvs)) (q : P (valV kvs k).isSome) : ∃ a' o, V.ref a = .ref a' ∧ DGet H a' (kV k) o ∧ P o.isSome := ⟨a, _, rfl, DGet.k h, q⟩
theorem lf_dput {a : Addr} {kvs : List (Key × V)} {k : Key} {P : Hp → Prop} (h : H a = some (.dK kvs)) (hz : kvs.length < 1000000) (q : P (upd H a (.dK (putK kvs k v)))) : ∃ a' H4, V.ref a = .ref a' ∧ DPut H a' (kV k) v H4 ∧ P H4 := ⟨a, _, rfl, DPut.k h (sz_lt hz), q⟩
theorem st_delL (h : to σ H fun x H1 => ti σ H1 fun y H2 => ∃ (l : Addr) (xs : List V) (i : Int) (k : Nat), x = .ref l ∧ y = .int i ∧ H2 l = some (.lst xs) ∧ -(2 ^ 63) ≤ i ∧ i < 2 ^ 63 ∧ seqIndex? i xs.length = some k ∧ n σ (upd H2 l (.lst (xs.eraseIdx k)))) : tDelL to ti ⟨n, rt, b, c⟩ σ H := h
theorem seqIx_nat {j m : Nat} (h : j < m) : seqIndex? (j : Int) m = some j := by
  have e : ixN m (j : Int) = some j := by
    unfold ixN
    rw [if_pos (Int.natCast_nonneg j), if_pos (by omega), Int.toNat_natCast]
  exact (ixN_seq e).1
theorem lf_delL {l : Addr} {xs : List V} {j : Nat} {P : Hp → Prop} (h : H l = some (.lst xs)) (hj : j < xs.length) (hz : xs.length ≤ 1000000) (q : P (upd H l (.lst (xs.eraseIdx j)))) :
    ∃ (l' : Addr) (xs : List V) (i : Int) (k : Nat), V.ref l = .ref l' ∧ V.int (j : Int) = .int i ∧ H l' = some (.lst xs) ∧ -(2 ^ 63) ≤ i ∧ i < 2 ^ 63 ∧ seqIndex? i xs.length = some k ∧ P (upd H l' (.lst (xs.eraseIdx k))) :=
  ⟨l, xs, (j : Int), j, rfl, rfl, h, by omega, by omega, seqIx_nat hj, q⟩
theorem ixN_nat {j m : Nat} (h : j < m) : ixN m (j : Int) = some j := by
  unfold ixN
  rw [if_pos (Int.natCast_nonneg j), if_pos (by omega), Int.toNat_natCast]
theorem st_neg {b : Bool} {A B : Prop} (h1 : b = true → A) (h2 : b = false → B) : if b = true then A else B := ite3 h1 h2
end
/-! ### a comprehension whose turns make things: what has been made, told of the heap -/
theorem lc_acc {J : It} {n : Nat} {G : Hp → Prop} {Y : Nat → V → Prop} {j : Nat} {tt : TT} {te : TE} {vs : List Nat} {σ : L2.St} {H1 : Hp} {Q : VK} (w : Walk J n G (fun i H x H' => H' = H ∧ Y i x)) (hG : ∀ H', Gr H1 H' → G H') (A : Nat → List V → Hp → Prop)
    (a0 : ∀ H2, Gr H1 H2 → A 0 [] H2) (am : ∀ i acc H H', Gr H H' → A i acc H → A i acc H') (au : ∀ i acc H D xs ys, H D = some (.lst xs) → H1 D = none → A i acc H → A i acc (upd H D (.lst ys)))
    (hs : ∀ i x acc H2, i < n → Y i x → Gr H1 H2 → A i acc H2 → ∀ (Qy : VK) (Qn : Hp → Prop), (∀ v H3, Gr H2 H3 → A (i + 1) (acc ++ [v]) H3 → Qy v H3) → (∀ H3, Gr H2 H3 → A (i + 1) acc H3 → Qn H3) → tt ((wipe σ vs).set j (some x)) H2 fun b H3 => if b = true then te ((wipe σ vs).set j (some x)) H3 Qy else Qn H3)
    (hq : ∀ D acc H2, H1 D = none → Gr H1 H2 → H2 D = some (.lst acc) → acc.length ≤ n → A n acc H2 → Q (.ref D) H2)
    (hn : n ≤ 1000000) (hw : ∀ x, wipe ((wipe σ vs).set j (some x)) vs = wipe σ vs) : LC (gName j) tt te vs σ Q J H1 := by
  intro D hD
  refine lc_it w (fun i H' => Gr H1 H' ∧ ∃ acc, H' D = some (.lst acc) ∧ acc.length ≤ i ∧ A i acc H') ⟨Gr.new hD, [], upd_same, Nat.le_refl _, a0 _ (Gr.new hD)⟩ (fun i H' _ p => hG H' p.1) ?_ (fun H' p => ?_)
  · rintro i x H' H'' hi ⟨g, acc, e, hl, ha⟩ ⟨rfl, y⟩
    refine ⟨hw x, hs i x acc H'' hi y g ha _ _ (fun v H3 g3 a3 => ?_) (fun H3 g3 a3 => ?_)⟩
    · refine ⟨acc, g3.lst e, sz_lt (by omega), (g.trans g3).mut hD, acc ++ [v], upd_same, ?_, au _ _ _ _ _ _ (g3.lst e) hD a3⟩
      rw [List.length_append, List.length_singleton]
      omega
    · exact ⟨g.trans g3, acc, g3.lst e, by omega, a3⟩
  · obtain ⟨g, acc, e, hl, ha⟩ := p
    exact hq D acc H' hD g e hl ha
end My
/-! ### a set of texts made of a list, and told in order -/
namespace TxS
open PySem PySem.Spec PyProof.Rows L2
def txOf (e : Int × Value) : Str := match e.2 with
  | .str x _ => x
  | _ => ⟨#[]⟩
def TxE (w : World) (e : Int × Value) : Prop := ∃ x t, e.2 = Value.str x t ∧ e.1 = hashStr w x
structure TxT (w : World) (M : Str → Prop) (es : Array (Int × Value)) (t : SetTable) : Prop where
  each : ∀ e ∈ es.toList, TxE w e
  nd : (es.toList.map txOf).Nodup
  mem : ∀ x, x ∈ es.toList.map txOf ↔ M x
  room : es.size < scanBound
  fits : t.fits es.size = true
  ris : Ris t.place.toList
  led : w.params.followText "set-order" = true ∨ t.led = true
def TxSet (w : World) (h : Heap) (a : Addr) (M : Str → Prop) (n : Nat) : Prop := ∃ o es ep t, h.get? a = some o ∧ o.ExactSet ∧ o.data = .set es ep t ∧ TxT w M es t ∧ es.size ≤ n
section
variable {P : Program} {w : World} {h h' : Heap} {a : Addr} {M : Str → Prop} {n : Nat} {es : Array (Int × Value)} {t : SetTable}
theorem TxSet.at (R : TxSet w h a M n) (k : ∀ o, h.get? a = some o → h'.get? a = some o) : TxSet w h' a M n := by
  obtain ⟨o, es, ep, t, ho, r⟩ := R
  exact ⟨o, es, ep, t, k o ho, r⟩
theorem TxSet.le (R : TxSet w h a M n) {m : Nat} (q : n ≤ m) : TxSet w h a M m := by
  obtain ⟨o, es, ep, t, ho, hx, hd, T, hn⟩ := R
  exact ⟨o, es, ep, t, ho, hx, hd, T, Nat.le_trans hn q⟩
theorem TxT.elems (T : TxT w M es t) : ElemsOf (strKind P w) es.toList := fun e he => by
  obtain ⟨x, u, h1, h2⟩ := T.each e he
  refine ⟨⟨x, ?_, h2⟩, ?_⟩
  · rw [h1]; exact strKind_is P w x u
  · rw [h1]; rfl
theorem TxT.is (T : TxT w M es t) {e : Int × Value} (he : e ∈ es.toList) (x : Str) : (strKind P w).is x e.2 = true ↔ txOf e = x := by
  obtain ⟨y, u, h1, _⟩ := T.each e he
  unfold txOf
  rw [h1]
  constructor
  · intro z; exact (strKind P w).inj _ _ _ (strKind_is P w y u) z
  · intro z; rw [show y = x from z]; exact strKind_is P w x u
end
section
variable {P : Program} {w : World} {A : Around} {E : Value → Shared → Prop} {s : Shared} {a : Addr} {M : Str → Prop} {n : Nat}
theorem tx_tail {g : Bool → Sem Unit} (hg : ∀ (b : Bool) (s₁ : Shared) (Q' : Unit → Shared → Prop), Q' () s₁ → wpAny (model P w) A (g b) Q' E s₁)
    {o : Obj} {es es1 : Array (Int × Value)} {ep : Nat} {t t2 : SetTable} {wasDummy : Bool} {R : Option Bool → Shared → Prop} (ho : s.heap.get? a = some o) (hex : o.ExactSet) (hd : o.data = .set es ep t) (T : TxT w M es1 t2) (hn : es1.size ≤ n)
    (hR : ∀ h', Heap.SameBut a s.heap h' → TxSet w h' a M n → R (some true) { s with heap := h' }) :
    wpAny (model P w) A (do
        storeSet a es1 t2
        if (!wasDummy && t2.tooFull) = true then do
            g (relayAll t2 es1 (SetTable.grown es1.size)).2.2
            storeSet a (relayAll t2 es1 (SetTable.grown es1.size)).1 (relayAll t2 es1 (SetTable.grown es1.size)).2.1
            pure (some true)
          else pure (some true)) R E s := by
  refine wpAny_bind (wpAny_storeSet_of ho hd ?_ (fits_of_scanBound T.room))
  have at1 := store_at (es' := es1) (t' := t2) ho hd
  have same1 := Heap.SameBut.update s.heap a (Obj.putSet es1 t2)
  split
  · have f1 := relayAll_perm t2 es1 (SetTable.grown es1.size)
    have f2 := relayAll_fits t2 es1 (SetTable.grown es1.size)
    have f3 := relayAll_ris t2 es1 (SetTable.grown es1.size)
    have f4 := relayAll_led t2 es1 (SetTable.grown es1.size)
    generalize relayAll t2 es1 (SetTable.grown es1.size) = Z at f1 f2 f3 f4 ⊢
    obtain ⟨es2, t3, gave⟩ := Z
    dsimp only at f1 f2 f3 f4 ⊢
    have size2 : es2.size = es1.size := by rw [← Array.length_toList, f1.length_eq, Array.length_toList]
    have T2 : TxT w M es2 t3 := ⟨fun e he => T.each e (f1.mem_iff.mp he), (f1.map txOf).nodup_iff.mpr T.nd, fun x => (f1.map txOf).mem_iff.trans (T.mem x), by rw [size2]; exact T.room, f2, f3, T.led.imp id fun z => by rw [f4]; exact z⟩
    refine wpAny_bind (hg _ _ _ (wpAny_bind (wpAny_storeSet_of at1 rfl ?_ (fits_of_scanBound T2.room))))
    exact wpAny_pure (hR _ (same1.trans (Heap.SameBut.update _ a _)) ⟨_, es2, _, t3, store_at (es' := es2) (t' := t3) at1 rfl, hex, rfl, T2, by rw [size2]; exact hn⟩)
  · exact wpAny_pure (hR _ same1 ⟨_, es1, _, t2, at1, hex, rfl, T, hn⟩)
/-- a text is added -/
theorem tx_add {x : Str} {u : Tok} {Q : Bool → Shared → Prop} (R : TxSet w s.heap a M n) (room : n + 1 < scanBound)
    (hQ : ∀ (b : Bool) h', Heap.SameBut a s.heap h' → TxSet w h' a (fun y => M y ∨ y = x) (n + 1) → Q b { s with heap := h' }) :
    wpAny (model P w) A (setAddHashed a (.str x u) ((strKind P w).hash x)) Q E s := by
  obtain ⟨o, es, ep, t, ho, hex, hd, T, hn⟩ := R
  have hkey : (strKind P w).is x (.str x u) = true := strKind_is P w x u
  have hel : ElemsOf (strKind P w) es.toList := T.elems
  unfold setAddHashed setAddHashedIn
  refine wpAny_holding (wpAny_bind (wpAny_setState_of ho hd T.fits ?_))
  dsimp only
  rw [byScan_of rfl T.room hel]
  simp only [↓reduceIte]
  unfold setAddByScan
  refine wpAny_bind (wpAny_bind (wpAny_rule (wpAny_bind (wpAny_setScan_of hkey ho hd T.fits hel ?_))))
  cases hfi : List.findIdx? (fun e => (strKind P w).is x e.2) es.toList with
  | some j =>
    dsimp only
    obtain ⟨hj, pj, _⟩ := List.findIdx?_eq_some_iff_getElem.mp hfi
    have hM : M x := (T.mem x).mp (List.mem_map.mpr ⟨es.toList[j], List.getElem_mem hj, (T.is (P := P) (List.getElem_mem hj) x).mp pj⟩)
    refine wpAny_pure (wpAny_pure (hQ _ s.heap (Heap.SameBut.refl a s.heap) ⟨o, es, ep, t, ho, hex, hd, ⟨T.each, T.nd, fun y => (T.mem y).trans ⟨.inl, fun z => z.elim id fun q => q ▸ hM⟩, T.room, T.fits, T.ris, T.led⟩, Nat.le_succ_of_le hn⟩))
  | none =>
    dsimp only
    have hno : x ∉ es.toList.map txOf := fun z => by
      obtain ⟨e, he, q⟩ := List.mem_map.mp z
      have c := List.findIdx?_eq_none_iff.mp hfi e he
      rw [(T.is (P := P) he x).mpr q] at c
      cases c
    have quiet : ∀ (b : Bool) {s₁ : Shared} {Q' : Unit → Shared → Prop}, Q' () s₁ → wpAny (model P w) A (match b with | true => rule "set.scan.the-table-gave-way" | false => pure ()) Q' E s₁ :=
      fun b s₁ Q' q => match b with
        | true => wpAny_rule q
        | false => wpAny_pure q
    have f1 := layNew_perm t es ((strKind P w).hash x) (.str x u)
    have f2 := layNew_fits t es ((strKind P w).hash x) (.str x u)
    have f3 := layNew_ris t es ((strKind P w).hash x) (.str x u) T.ris
    have f4 := layNew_led t es ((strKind P w).hash x) (.str x u)
    generalize layNew t es ((strKind P w).hash x) (.str x u) = Z at f1 f2 f3 f4 ⊢
    obtain ⟨es1, t1, wasDummy, gave⟩ := Z
    dsimp only at f1 f2 f3 f4 ⊢
    rw [Array.toList_push] at f1
    have pc : es1.toList.Perm (((strKind P w).hash x, Value.str x u) :: es.toList) := f1.trans (List.perm_append_singleton _ _)
    have pk : (es1.toList.map txOf).Perm (x :: es.toList.map txOf) := pc.map txOf
    have size1 : es1.size = es.size + 1 := by rw [← Array.length_toList, pc.length_eq, List.length_cons, Array.length_toList]
    have mk : ∀ t' : SetTable, t'.fits es1.size = true → Ris t'.place.toList → t'.led = t1.led → TxT w (fun y => M y ∨ y = x) es1 t' := fun t' k1 k2 k3 => by
      refine ⟨fun e he => ?_, pk.nodup_iff.mpr (List.nodup_cons.mpr ⟨hno, T.nd⟩), fun y => ?_, by omega, k1, k2, T.led.imp id fun z => by rw [k3, f4]; exact z⟩
      · rcases List.mem_cons.mp (pc.mem_iff.mp he) with z | z
        · rw [z]; exact ⟨x, u, rfl, rfl⟩
        · exact T.each e z
      · rw [pk.mem_iff, List.mem_cons, T.mem y]
        exact Or.comm
    refine wpAny_bind (quiet _ ?_)
    split
    · refine wpAny_bind ?_
      rw [hashByValue_scannable 8 (show (Value.str x u).scannable = true from rfl)]
      refine wpAny_pure ?_
      refine tx_tail (n := n + 1) ?_ ho hex hd (mk _ ?_ ?_ ?_) (by omega) ?_
      · intro b s₁ Q' q; cases b <;> first | exact wpAny_pure q | exact wpAny_rule q
      · first | (split <;> first | exact f2 | exact SetTable.fits_plain_off f2) | exact f2
      · first | (split <;> exact f3) | exact f3
      · first | (split <;> rfl) | rfl
      · intro h' sb r; dsimp only; exact wpAny_pure (hQ _ h' sb r)
    · refine wpAny_bind (wpAny_pure ?_)
      simp only [↓reduceIte]
      refine tx_tail (n := n + 1) ?_ ho hex hd (mk t1 f2 f3 rfl) (by omega) ?_
      · intro b s₁ Q' q; cases b <;> first | exact wpAny_pure q | exact wpAny_rule q
      · intro h' sb r; dsimp only; exact wpAny_pure (hQ _ h' sb r)
end
section
variable {P : Program} {w : World} {A : Around} {R : Result → Shared → Prop} {I : Addr} {fp wr : List Addr} {G : Array GenState → Array GenState → Prop} {n : Nat} {Pv : Nat → Value → Prop} {St : Nat → Shared → Prop}
theorem tx_loop (W : WalksS P w A.in1 I fp wr G n Pv St) (S : Addr) (hSf : S ∉ fp) (xs : List Str) (hsz : xs.length = n) (hn : n + 1 < scanBound) (hval : ∀ i v, Pv i v → ∃ t, v = .str (xs.getD i Str.empty) t) :
    ∀ (k i : Nat) (s : Shared), n - i = k → i ≤ n → St i s → TxSet w s.heap S (fun y => y ∈ xs.take i) i →
      (∀ s', Moved (S :: wr) G s s' → TxSet w s'.heap S (fun y => y ∈ xs) n → R (.ok (.ret .none)) s') → codeAny (model P w) A (.builtin "set.update.loop" ⟨[.ref S, .ref I], []⟩) R s := by
  have notw : S ∉ wr := fun h => hSf (W.sub _ h)
  intro k
  induction k with
  | zero =>
    intro i s hk hi hst hS hR
    have ein : i = n := by omega
    subst ein
    refine codeAny_builtin F.entry_set_update_loop ?_
    rw [Around.under_plainId F.plain_set_update_loop _]
    show wpAny _ A.in1 (pyNext (.ref I) >>= _) _ _ s
    refine wpAny_bind (W.done s _ _ hst fun s' hm => ?_)
    show wpAny _ A.in1 (ret Value.none) _ _ s'
    rw [← hsz, List.take_length] at hS
    exact wpAny_pure (hR s' (hm.mono fun b hb => List.mem_cons_of_mem _ hb) (by rw [← hsz]; exact hS.at fun o ho => hm.heap S _ notw ho))
  | succ k ih =>
    intro i s hk hi hst hS hR
    refine codeAny_builtin F.entry_set_update_loop ?_
    rw [Around.under_plainId F.plain_set_update_loop _]
    show wpAny _ A.in1 (pyNext (.ref I) >>= _) _ _ s
    refine wpAny_bind (W.item i s _ _ (by omega) hst fun v s' hP hst' hm => ?_)
    obtain ⟨u, rfl⟩ := hval i v hP
    have hS' := hS.at (h' := s'.heap) fun o ho => hm.heap S _ notw ho
    show wpAny _ A.in1 (holding [Value.str (xs.getD i Str.empty) u] (setAdd S (.str (xs.getD i Str.empty) u)) >>= _) _ _ s'
    refine wpAny_bind (wpAny_holding ?_)
    unfold setAdd
    refine wpAny_holding (wpAny_bind ((strKind P w).pyHash (k := xs.getD i Str.empty) (strKind_is _ _ _ _) ?_))
    refine tx_add (s := { s' with toks := s'.toks + 1 }) hS' (by omega) fun b h' same hS2 => ?_
    have hS3 : TxSet w h' S (fun y => y ∈ xs.take (i + 1)) (i + 1) := by
      obtain ⟨o, es, ep, t, ho, hex, hd, T, hl⟩ := hS2
      refine ⟨o, es, ep, t, ho, hex, hd, ⟨T.each, T.nd, fun y => (T.mem y).trans ?_, T.room, T.fits, T.ris, T.led⟩, hl⟩
      have hi2 : i < xs.length := by omega
      have e : xs.getD i Str.empty = xs[i] := by rw [List.getD_eq_getElem?_getD, List.getElem?_eq_getElem hi2]; rfl
      rw [e, List.take_succ_eq_append_getElem hi2, List.mem_append, List.mem_singleton]
    refine wpAny_pure ⟨plainId_quiet F.plain_set_update_loop _, ih (i + 1) _ (by omega) (by omega) (W.frame _ s' _ _ hst' (Nat.le_succ _) fun c hc o e => ?_) hS3 fun s2 hm2 hS4 => ?_⟩
    · rw [same.2 c (fun h : c = S => hSf (by rw [← h]; exact hc))]; exact e
    · refine hR s2 (Moved.trans W.gtrans ((hm.mono fun c hc => List.mem_cons_of_mem _ hc).then_heap (Nat.le_succ _) fun c o hc e => ?_) hm2) hS4
      rw [same.2 c (fun h : c = S => hc (by rw [h]; exact List.mem_cons_self))]; exact e
end
section
variable {prog : Program} {w : World} {A : Around} {E : Value → Shared → Prop} {s : Shared}
theorem code_set_new_led (a : Value) {Q₁ : Value → Shared → Prop}
    (h : Q₁ (.ref s.heap.objs.size) { s with heap := s.heap.push { cls := .type "set", dict := none, data := .set #[] 0 (.fresh 0 0 (!w.params.followText "set-order")) } }) :
    codeAny (model prog w) A (.call (.builtin "set.__new__") ⟨[.type "set", a], []⟩) (wants Q₁ E) s := by
  refine codeAny_of_tree ?_
  show wpAny _ A.in1 (do checkBuiltinCall "set.__new__" ⟨[.type "set", a], []⟩; again (.builtin "set.__new__" ⟨[.type "set", a], []⟩)) _ _ s
  refine wpAny_bind (wpAny_of_eq (PySem.F.newCall_set_1 a) (wpAny_pure ⟨plainId_quiet PySem.F.plain_set_new _, codeAny_builtin PySem.F.entry_set_new ?_⟩))
  rw [Around.under_plainId PySem.F.plain_set_new _]
  unfold Builtin.«set.__new__» Builtin.Frozenset.newClass
  have hsub := sub_set_self
  obtain ⟨hp, g, d, tk, os⟩ := s
  dsimp only
  wp_walk
  refine wpAny_askSetting (wpAny_pure ?_)
  dsimp only
  simp only [newObj]
  refine wpAny_bind (wpAny_alloc (wpAny_pure ?_))
  exact wpAny_pure h
theorem tx_fresh {h : Heap} {b : Addr} (ho : h.get? b = some { cls := .type "set", dict := none, data := .set #[] 0 (.fresh 0 0 (!w.params.followText "set-order")) }) (xs : List Str) : TxSet w h b (fun y => y ∈ xs.take 0) 0 := by
  refine ⟨_, #[], 0, _, ho, ⟨rfl, rfl, rfl⟩, rfl, ⟨fun e he => by simp at he, by simp, fun x => by simp, by decide, by rfl, List.Pairwise.nil, ?_⟩, Nat.le_refl _⟩
  show _ ∨ (!w.params.followText "set-order") = true
  cases w.params.followText "set-order"
  · exact .inr rfl
  · exact .inl rfl
set_option maxHeartbeats 3200000 in
theorem tx_call {l : Addr} {items : Array Value} {xs : List Str} {Q : Value → Shared → Prop}
    (hh : A.handled = none) (hl : s.heap.IsList l items) (hi : StrsAre items.toList xs) (hb : xs.length + 1 < scanBound)
    (h : ∀ (h' : Heap) (tk : Nat), TxSet w h' s.heap.objs.size (fun y => y ∈ xs) xs.length → (∀ b o, b < s.heap.objs.size → s.heap.get? b = some o → h'.get? b = some o) → Q (.ref s.heap.objs.size) { s with heap := h', toks := tk }) :
    wpAny (model prog w) A (call (.type "set") [.ref l]) Q E s := by
  obtain ⟨c, tl, hmro⟩ := PySem.F.called_set.mro
  have hmade := PySem.F.called_set.made
  have hsub := PySem.F.called_set.sub
  have hsz : xs.length = items.size := by rw [← StrsAre.len_eq hi, Array.length_toList]
  refine wpAny_call (codeAny_of_tree ?_)
  show wpAny _ _ (callAny (.type "set") _) _ _ _
  refine wpAny_pure ⟨Code.quiet_builtin _ (by decide +kernel), codeAny_builtin PySem.F.entry_type_call ?_⟩
  rw [Around.under_plain (weight_type_call_type "set" [.ref l] []) rfl]
  have h1 := PySem.F.called_set.notType
  have h2 := PySem.F.called_set.canCreate
  have hct := PySem.F.typeCall_set_1 (.ref l)
  repeat (any_goals (first | assumption | wp_step))
  refine codeAny_mono (code_set_new_led (.ref l) (E := E) (Q₁ := fun obj s₁ => obj = .ref s.heap.objs.size ∧ s₁ = { s with heap := s.heap.push { cls := .type "set", dict := none, data := .set #[] 0 (.fresh 0 0 (!w.params.followText "set-order")) } }) ⟨rfl, rfl⟩) fun r s₁ hr => ?_
  cases r with
  | error e => exact hr
  | ok fl =>
    cases fl with
    | ret obj =>
      obtain ⟨rfl, rfl⟩ := hr
      generalize hled : (!w.params.followText "set-order") = led at *
      have hS : (s.heap.push { cls := .type "set", dict := none, data := .set #[] 0 (.fresh 0 0 led) }).get? s.heap.objs.size = some { cls := .type "set", dict := none, data := .set #[] 0 (.fresh 0 0 led) } := Heap.get?_push_size _ rfl
      have hT : Shared.TypeIs { s with heap := s.heap.push { cls := .type "set", dict := none, data := .set #[] 0 (.fresh 0 0 led) } } (.ref s.heap.objs.size) "set" := ⟨_, hS, rfl⟩
      have hli := PySem.F.called_set.init.lookup
      have hbi := PySem.F.called_set.init.bind (.ref s.heap.objs.size)
      repeat (any_goals (first | assumption | wp_step))
      refine codeAny_mono (codeAny_call_builtin (R := wants (fun r s₂ => r = .none ∧ ∃ h' tk, s₂ = { s with heap := h', toks := tk } ∧ TxSet w h' s.heap.objs.size (fun y => y ∈ xs) xs.length ∧
          (∀ b o, b < s.heap.objs.size → s.heap.get? b = some o → h'.get? b = some o)) E) PySem.F.called_set.init.plain PySem.F.entry_set_init (check_set_init_1 hT ?_)) fun r₂ s₂ hr₂ => ?_
      · obtain ⟨ol, hol, hcl, nl, hdl⟩ := hl
        obtain ⟨ocls, odict, odata, oslots⟩ := ol
        simp only at hcl hdl
        subst hcl; subst hdl
        have hol' : (s.heap.push { cls := .type "set", dict := none, data := .set #[] 0 (.fresh 0 0 led) }).get? l = some { cls := .type "list", dict := odict, data := .seq items nl, slots := oslots } := Heap.get?_push_of_some _ hol
        have hsls := PySem.F.sub_list_set
        have hslf := PySem.F.sub_list_frozenset
        have hne : (Value.type "list" == Value.type "dict") = false := by decide
        have hl1 : (s.heap.push { cls := .type "set", dict := none, data := .set #[] 0 (.fresh 0 0 led) }).IsList l items := ⟨_, hol', rfl, nl, rfl⟩
        unfold Builtin.«set.__init__» noKeywords Builtin.Frozenset.updateFrom
        generalize hPI : pyIter = PI
        wp_walk
        subst hPI
        refine wpAny_pyIter_list hl1 ?_
        refine wpAny_bind (wpAny_runValue ?_)
        have hlS : l < s.heap.objs.size := Heap.lt_size hol
        have hh3 : A.in1.in1.in1.handled = none := by simp [hh]
        have hneI : l ≠ (s.heap.push { cls := .type "set", dict := none, data := .set #[] 0 (.fresh 0 0 led) }).objs.size := by
          rw [Heap.size_push]; exact Nat.ne_of_lt (Nat.lt_succ_of_lt hlS)
        have hSf : s.heap.objs.size ∉ [(s.heap.push { cls := .type "set", dict := none, data := .set #[] 0 (.fresh 0 0 led) }).objs.size, l] := by
          rw [Heap.size_push]; simp only [List.mem_cons, List.mem_singleton, List.not_mem_nil, or_false, not_or]
          exact ⟨Nat.ne_of_lt (Nat.lt_succ_self _), Nat.ne_of_gt hlS⟩
        have hval : ∀ (i : Nat) (v : Value), items[i]? = some v → ∃ t, v = .str (xs.getD i Str.empty) t := fun i v hv => SS.strs_at hi i v (by rw [Array.getElem?_toList]; exact hv)
        refine tx_loop ((Walks.list hh3 _ l hneI items).toS) s.heap.objs.size hSf xs hsz (by rw [← hsz]; exact hb) hval (items.size - 0) 0 _ (by omega) (Nat.zero_le _)
          ⟨⟨_, Heap.get?_push_size _ rfl, rfl, rfl⟩, (hl1.push _)⟩ ?hS0 ?hR
        case hS0 => exact tx_fresh (by rw [hled]; exact Heap.get?_push_of_some _ hS) xs
        case hR =>
          intro s' hm hS'
          obtain ⟨h', g', d', tk', os'⟩ := s'
          have eg : g' = s.gens := hm.gens
          have ed : d' = s.drawn := hm.drawn
          have eo : os' = s.os := hm.os
          subst eg; subst ed; subst eo
          show wpAny _ _ _ _ _ _
          refine wpAny_pure ?_
          show wpAny _ _ (ret Value.none) _ _ _
          refine wpAny_pure ⟨rfl, h', tk', rfl, by rw [hsz]; exact hS', fun b o hb e => ?_⟩
          have hb1 : b ≠ s.heap.objs.size := Nat.ne_of_lt hb
          have hb2 : b ≠ (s.heap.push { cls := .type "set", dict := none, data := .set #[] 0 (.fresh 0 0 led) }).objs.size := by
            rw [Heap.size_push]; exact Nat.ne_of_lt (Nat.lt_succ_of_lt hb)
          exact hm.heap b o (by simp only [List.mem_cons, List.mem_singleton, List.not_mem_nil, or_false, not_or]; exact ⟨hb1, hb2⟩) (Heap.get?_push_of_some _ (Heap.get?_push_of_some _ e))
      · cases r₂ with
        | error e => exact hr₂
        | ok fl₂ =>
          cases fl₂ with
          | ret r =>
            obtain ⟨rfl, h', tk, rfl, hS', hk'⟩ := hr₂
            repeat (any_goals (first | assumption | wp_step))
            exact h _ _ hS' hk'
          | _ => exact hr₂.elim
    | _ => exact hr.elim
/-- sorted(a set of texts) -/
theorem tx_sorted {P : Program} {a : Addr} {M : Str → Prop} {n : Nat} {Q : Value → Shared → Prop} (R : TxSet w s.heap a M n) (hh : A.handled = none)
    (hQ : ∀ s' p (out : Array Value) (c : Nat) (ns : List Str), (∀ b o, s.heap.get? b = some o → s'.heap.get? b = some o) → s'.gens = s.gens → s'.os = s.os → s.heap.objs.size ≤ p →
      s'.heap.get? p = some (seqObj "list" out c) → StrsAre out.toList ns → My.SrtS ns → ns.Nodup → (∀ x, x ∈ ns ↔ M x) → ns.length ≤ n → Q (.ref p) s') :
    wpAny (model P w) A (call (.builtin "sorted") [.ref a]) Q E s := by
  obtain ⟨o, es, ep, t, ho, hex, hd, T, hn⟩ := R
  refine Calls.call_function_entry kind_sorted plain_sorted entry_sorted (args_sorted1 _) ?_
  unfold Builtin.«sorted»
  refine wpAny_bind (m := checkCount "sorted" 1 1 _) (wpAny_pure ?_)
  refine wpAny_bind (collect_set (A := A.in1) hh ⟨o, ho, hex.1, hd⟩ T.fits T.room T.ris T.led fun s1 vs k1 hz g1 o1 pm => ?_)
  have hvl : vs.length = es.size := by rw [pm.length_eq, List.length_map, Array.length_toList]
  have ev : ∀ v ∈ vs, ∃ x u, v = Value.str x u := fun v hv => by
    obtain ⟨e, he, q⟩ := List.mem_map.mp (pm.mem_iff.mp hv)
    obtain ⟨x, u, h1, _⟩ := T.each e he
    exact ⟨x, u, by rw [← q]; exact h1⟩
  have hI : StrsAre vs (vs.map My.St.sv) := My.St.strs_sv ev
  have pk : (vs.map My.St.sv).Perm (es.toList.map txOf) := by
    have q := pm.map My.St.sv
    rw [List.map_map] at q
    refine q.trans (List.Perm.of_eq (List.map_congr_left fun e he => ?_))
    show My.St.sv e.2 = txOf e
    unfold txOf My.St.sv
    obtain ⟨x, u, h1, _⟩ := T.each e he
    rw [h1]
  have small : vs.length ≤ sizeLine := by rw [hvl, sizeLine_eq]; have := T.room; unfold scanBound at this; omega
  refine wpAny_bind (wpAny_newList ?_ small)
  have hoL : (s1.heap.push (seqObj "list" vs.toArray 0)).get? s1.heap.objs.size = some (seqObj "list" vs.toArray 0) := Heap.get?_push_size _ rfl
  refine wpAny_bind (wpAny_holding (wpAny_call_entry slot_list_sort ⟨_, hoL, rfl⟩ entry_list_sort
    (SrtO.list_sort_ord (s := { s1 with heap := s1.heap.push (seqObj "list" vs.toArray 0) }) My.St.swo_str hoL small (fun h2 => My.St.strs_sortable hI h2) fun out h1 h2 => ⟨_, rfl, ?_⟩) (args_list_sort _)))
  obtain ⟨k2, k3, k4⟩ := My.St.strs_out hI h1 h2
  obtain ⟨c, hc⟩ := sortedHeap_at (vs := vs) (out := out.toArray) hoL
  have pn : (out.map My.St.sv).Perm (es.toList.map txOf) := k3.trans pk
  refine wpAny_pure ⟨_, rfl, hQ _ s1.heap.objs.size out.toArray c (out.map My.St.sv) (fun b u e => ?_) g1 o1 hz hc (by simpa using k2) k4 (pn.nodup_iff.mpr T.nd) (fun x => pn.mem_iff.trans (T.mem x)) ?_⟩
  · have q := k1 b u e
    have hlt := Heap.lt_size q
    show (sortedHeap (s1.heap.push (seqObj "list" vs.toArray 0)) s1.heap.objs.size vs out.toArray).get? b = some u
    rw [sortedHeap_old (Nat.ne_of_lt hlt) (by rw [size_push']; exact Nat.lt_succ_of_lt hlt)]
    exact Heap.get?_push_of_some _ q
  · rw [pn.length_eq, List.length_map, Array.length_toList]; exact hn
end
end TxS
namespace My
open PySem PySem.Spec PyProof.Rows L2
/-- a set of texts: its members, at most n -/
def SetX (w : World) (a : Addr) (M : Str → Prop) (n : Nat) : HO := .ext fun h => TxS.TxSet w h a M n
def rSetX (K : PySem.W.Frag) (w : World) : List V → Hp → VK → Prop := fun xs H Q => ∃ (l : Addr) (ys : List Str), xs = [V.ref l] ∧ SqL K H l (ys.map V.str) ∧ ys.length ≤ 4000 ∧ ∀ a, H a = none → Q (.ref a) (upd H a (SetX w a (fun y => y ∈ ys) ys.length))
def rSortedX (w : World) : List V → Hp → VK → Prop := fun xs H Q => ∃ (a : Addr) (M : Str → Prop) (n : Nat), xs = [V.ref a] ∧ H a = some (SetX w a M n) ∧ n ≤ 4000 ∧
  ∀ (ns : List Str) (p : Addr), SrtS ns → ns.Nodup → (∀ x, x ∈ ns ↔ M x) → ns.length ≤ n → H p = none → Q (.ref p) (upd H p (.lst (ns.map V.str)))
section
variable {X : Cx}
theorem setX_new {w : World} {P : Program} {H : Hp} {h : Heap} {a : Addr} {M : Str → Prop} {n : Nat} (R : TxS.TxSet w h a M n) : ObjOk P w H h a (SetX w a M n) := by
  have ⟨o, _, _, _, ho, _⟩ := R
  exact ⟨R, ⟨o, ho⟩, fun h1 h2 p k => TxS.TxSet.at p k⟩
theorem cr_setX (hc : X.calm = true) : CallR X (.type "set") (rSetX X.K X.w) := by
  intro pins s σ H xs us Q I r h
  obtain ⟨l, ys, rfl, hl, hn, q⟩ := h
  rw [Vals.ref1 r]
  obtain ⟨its, rv, pl, hz⟩ := I.list hl
  refine TxS.tx_call (xs := ys) (I.ok.hd hc) pl.isList (by simpa using rv.strs) (by unfold scanBound; omega) fun h' tk R k => ?_
  exact ⟨.ref s.heap.objs.size, upd H s.heap.objs.size (SetX X.w s.heap.objs.size (fun y => y ∈ ys) ys.length), I.laid (t' := tk) (fun b u e => k b u (Heap.lt_size e) e) (Nat.le_refl _) (setX_new R), rfl, q _ (I.hok.fresh (Nat.le_refl _))⟩
theorem cr_sortedX (hc : X.calm = true) : CallR X (.builtin "sorted") (rSortedX X.w) := by
  intro pins s σ H vs us Q I r h
  obtain ⟨a, M, n, rfl, ha, hn, q⟩ := h
  have R : TxS.TxSet X.w s.heap a M n := (I.hok a _ ha).1
  rw [Vals.ref1 r]
  refine TxS.tx_sorted R (I.ok.hd hc) fun s' p out c ns k g o hp hg hi hs hd hm hl => ?_
  have hlen : (ns.map V.str).length ≤ sizeLine := by rw [List.length_map, sizeLine_eq]; omega
  have hnone : H p = none := I.hok.fresh hp
  have J : Inv X pins σ (upd H p (.lst (ns.map V.str))) { s with heap := s'.heap, gens := s'.gens, drawn := s'.drawn, toks := s'.toks } :=
    I.call (ch := []) (Un.laid k hp hnone) (I.hok.laid k hp ⟨hlen, out.toList, c, vals_of_strs hi, hg⟩) (by rw [g]; exact I.bare) (fun _ z => nomatch z)
  have e : s' = { s with heap := s'.heap, gens := s'.gens, drawn := s'.drawn, toks := s'.toks } := by
    cases s'
    cases s
    cases o
    rfl
  rw [e]
  exact ⟨.ref p, _, J, rfl, q ns p hs hd hm hl hnone⟩
end
end My
namespace My
open PySem PySem.Spec PyProof.Rows L2
/-! ### rows: pairs of a name and a number, the names rising -/
abbrev Rw := List (Str × Int)
inductive Prs (K : PySem.W.Frag) (H : Hp) : List V → Rw → Prop
  | nil : Prs K H [] []
  | cons {p : Addr} {n : Str} {b : Int} {vs : List V} {rs : Rw} : SqT K H p [.str n, .int b] → Prs K H vs rs → Prs K H (.ref p :: vs) ((n, b) :: rs)
section
variable {K : PySem.W.Frag} {H H' : Hp}
theorem Prs.len : ∀ {vs : List V} {rs : Rw}, Prs K H vs rs → vs.length = rs.length
  | _, _, .nil => rfl
  | _, _, .cons _ r => congrArg (· + 1) r.len
theorem Prs.imp (g : ∀ p xs, SqT K H p xs → SqT K H' p xs) : ∀ {vs : List V} {rs : Rw}, Prs K H vs rs → Prs K H' vs rs
  | _, _, .nil => .nil
  | _, _, .cons a r => .cons (g _ _ a) (r.imp g)
theorem Prs.gr (g : Gr H H') {vs : List V} {rs : Rw} (h : Prs K H vs rs) : Prs K H' vs rs := h.imp fun _ _ => g.t
/-- a list changed -/
theorem sqT_mut {D p : Addr} {xs ys zs : List V} (e : H D = some (.lst xs)) (h : SqT K H p zs) : SqT K (upd H D (.lst ys)) p zs := by
  rcases h with (h | ⟨o, h⟩) | h
  · exact .inl (.inl (by rw [upd_ne (ne_of h e (by intro z; cases z))]; exact h))
  · exact .inl (.inr ⟨o, by rw [upd_ne (ne_of h e (by intro z; cases z))]; exact h⟩)
  · exact .inr h
theorem sqT_mutD {D p : Addr} {xs ys : List (Key × V)} {zs : List V} (e : H D = some (.dK xs)) (h : SqT K H p zs) : SqT K (upd H D (.dK ys)) p zs := by
  rcases h with (h | ⟨o, h⟩) | h
  · exact .inl (.inl (by rw [upd_ne (ne_of h e (by intro z; cases z))]; exact h))
  · exact .inl (.inr ⟨o, by rw [upd_ne (ne_of h e (by intro z; cases z))]; exact h⟩)
  · exact .inr h
theorem Prs.mut {D : Addr} {xs ys : List V} (e : H D = some (.lst xs)) {vs : List V} {rs : Rw} (h : Prs K H vs rs) : Prs K (upd H D (.lst ys)) vs rs := h.imp fun _ _ => sqT_mut e
theorem Prs.mutD {D : Addr} {xs ys : List (Key × V)} (e : H D = some (.dK xs)) {vs : List V} {rs : Rw} (h : Prs K H vs rs) : Prs K (upd H D (.dK ys)) vs rs := h.imp fun _ _ => sqT_mutD e
theorem Prs.at : ∀ {vs : List V} {rs : Rw} {i : Nat} {r : Str × Int}, Prs K H vs rs → rs[i]? = some r → ∃ p, vs[i]? = some (.ref p) ∧ SqT K H p [.str r.1, .int r.2]
  | _, _, i, r, .nil, h => by simp at h
  | _, _, 0, r, .cons (n := n) (b := b) a _, h => by
    have e : (n, b) = r := by simpa using h
    subst e
    exact ⟨_, rfl, a⟩
  | _, _, i + 1, r, .cons _ q, h => q.at (by simpa using h)
theorem Prs.back : ∀ {vs : List V} {rs : Rw} {i : Nat} {v : V}, Prs K H vs rs → vs[i]? = some v → ∃ p r, v = .ref p ∧ rs[i]? = some r ∧ SqT K H p [.str r.1, .int r.2]
  | _, _, i, r, .nil, h => by simp at h
  | _, _, 0, v, .cons (n := n) (b := b) a _, h => by
    have e := (Option.some.inj (show some _ = some v from h)).symm
    exact ⟨_, (n, b), e, rfl, a⟩
  | _, _, i + 1, v, .cons _ q, h => q.back (by simpa using h)
theorem Prs.app : ∀ {vs : List V} {rs : Rw} {ws : List V} {qs : Rw}, Prs K H vs rs → Prs K H ws qs → Prs K H (vs ++ ws) (rs ++ qs)
  | _, _, _, _, .nil, h => h
  | _, _, _, _, .cons a r, h => .cons a (r.app h)
theorem Prs.take : ∀ {vs : List V} {rs : Rw} (i : Nat), Prs K H vs rs → Prs K H (vs.take i) (rs.take i)
  | _, _, 0, _ => by rw [List.take_zero, List.take_zero]; exact .nil
  | _, _, i + 1, .nil => by rw [List.take_nil, List.take_nil]; exact .nil
  | _, _, i + 1, .cons a r => .cons a (r.take i)
theorem Prs.drop : ∀ {vs : List V} {rs : Rw} (i : Nat), Prs K H vs rs → Prs K H (vs.drop i) (rs.drop i)
  | _, _, 0, h => h
  | _, _, i + 1, .nil => by rw [List.drop_nil, List.drop_nil]; exact .nil
  | _, _, i + 1, .cons a r => r.drop i
theorem Prs.one {p : Addr} {n : Str} {b : Int} (h : SqT K H p [.str n, .int b]) : Prs K H [.ref p] [(n, b)] := .cons h .nil
end
def SrR (rs : Rw) : Prop := rs.Pairwise fun a b => ltS a.1 b.1 = true
def lo (rs : Rw) (n : Str) : Rw := rs.filter fun r => ltS r.1 n
def hi (rs : Rw) (n : Str) : Rw := rs.filter fun r => ltS n r.1
def mid (rs : Rw) (n : Str) : Rw := rs.filter fun r => decide (r.1 = n)
def place (rs : Rw) (n : Str) : Nat := (lo rs n).length
def putR (rs : Rw) (n : Str) (b : Int) : Rw := lo rs n ++ (n, b) :: hi rs n
def delR (rs : Rw) (n : Str) : Rw := lo rs n ++ hi rs n
def findR (rs : Rw) (n : Str) : Option Int := (rs.find? fun r => decide (r.1 = n)).map (·.2)
theorem place_le (rs : Rw) (n : Str) : place rs n ≤ rs.length := List.length_filter_le _ _
theorem ltS_or (a n : Str) : ltS a n = true ∨ a = n ∨ ltS n a = true := by
  cases h : ltS a n with
  | true => exact .inl rfl
  | false =>
    cases h2 : ltS n a with
    | true => exact .inr (.inr rfl)
    | false => exact .inr (.inl (ltS_tri h h2))
theorem all_above {rs : Rw} {n : Str} (h : ∀ r ∈ rs, ltS n r.1 = true) : lo rs n = [] ∧ mid rs n = [] ∧ hi rs n = rs := by
  refine ⟨List.filter_eq_nil_iff.mpr fun r m q => ?_, List.filter_eq_nil_iff.mpr fun r m q => ?_, List.filter_eq_self.mpr h⟩
  · rw [ltS_as (h r m)] at q
    cases q
  · have e := h r m
    rw [of_decide_eq_true q, ltS_irr] at e
    cases e
theorem split_rows : ∀ {rs : Rw} (n : Str), SrR rs → rs = lo rs n ++ (mid rs n ++ hi rs n)
  | [], _, _ => rfl
  | r :: rs, n, h => by
    obtain ⟨h1, h2⟩ := List.pairwise_cons.mp h
    rcases ltS_or r.1 n with e | e | e
    · have e1 : lo (r :: rs) n = r :: lo rs n := List.filter_cons_of_pos e
      have e2 : mid (r :: rs) n = mid rs n := List.filter_cons_of_neg (by simp [ltS_ne e])
      have e3 : hi (r :: rs) n = hi rs n := List.filter_cons_of_neg (by simp [ltS_as e])
      rw [e1, e2, e3]
      exact congrArg (r :: ·) (split_rows n h2)
    · obtain ⟨a1, a2, a3⟩ := all_above (rs := rs) (n := n) fun x m => e ▸ h1 x m
      have e1 : lo (r :: rs) n = lo rs n := List.filter_cons_of_neg (by simp [e, ltS_irr])
      have e2 : mid (r :: rs) n = r :: mid rs n := List.filter_cons_of_pos (by simp [e])
      have e3 : hi (r :: rs) n = hi rs n := List.filter_cons_of_neg (by simp [e, ltS_irr])
      rw [e1, e2, e3, a1, a2, a3] <;> rfl
    · obtain ⟨a1, a2, a3⟩ := all_above (rs := r :: rs) (n := n) fun x m => by
        rcases List.mem_cons.mp m with q | q
        · rw [q]; exact e
        · exact ltS_tr e (h1 x q)
      rw [a1, a2, a3] <;> rfl
theorem mid_le : ∀ {rs : Rw} (n : Str), SrR rs → mid rs n = [] ∨ ∃ b, mid rs n = [(n, b)]
  | [], _, _ => .inl rfl
  | r :: rs, n, h => by
    obtain ⟨h1, h2⟩ := List.pairwise_cons.mp h
    by_cases e : r.1 = n
    · right
      obtain ⟨_, a2, _⟩ := all_above (rs := rs) (n := n) fun x m => e ▸ h1 x m
      refine ⟨r.2, ?_⟩
      have e2 : mid (r :: rs) n = r :: mid rs n := List.filter_cons_of_pos (by simp [e])
      rw [e2, a2, ← e]
    · have e2 : mid (r :: rs) n = mid rs n := List.filter_cons_of_neg (by simp [e])
      rw [e2]
      exact mid_le n h2
theorem find_mid (rs : Rw) (n : Str) : findR rs n = (mid rs n).head?.map (·.2) := by
  unfold findR mid
  rw [List.head?_filter]
theorem take_place {rs : Rw} (n : Str) (h : SrR rs) : rs.take (place rs n) = lo rs n := by
  have e := split_rows n h
  have e2 : rs.take (place rs n) = (lo rs n ++ (mid rs n ++ hi rs n)).take (place rs n) := by rw [← e]
  rw [e2]
  exact List.take_left
theorem drop_place {rs : Rw} (n : Str) (h : SrR rs) : rs.drop (place rs n) = mid rs n ++ hi rs n := by
  have e := split_rows n h
  have e2 : rs.drop (place rs n) = (lo rs n ++ (mid rs n ++ hi rs n)).drop (place rs n) := by rw [← e]
  rw [e2]
  exact List.drop_left
/-- a row stands ahead just where its name is below -/
theorem below_iff {rs : Rw} {n : Str} (h : SrR rs) {i : Nat} {r : Str × Int} (hr : rs[i]? = some r) : ltS r.1 n = true ↔ i < place rs n := by
  by_cases hi : i < place rs n
  · refine ⟨fun _ => hi, fun _ => ?_⟩
    have e : (rs.take (place rs n))[i]? = some r := by rw [List.getElem?_take_of_lt hi]; exact hr
    rw [take_place n h] at e
    have hm := List.mem_of_getElem? e
    exact (List.mem_filter.mp hm).2
  · refine ⟨fun q => ?_, fun q => absurd q hi⟩
    have e : (rs.drop (place rs n))[i - place rs n]? = some r := by
      rw [List.getElem?_drop, Nat.add_sub_cancel' (Nat.not_lt.mp hi)]
      exact hr
    rw [drop_place n h] at e
    have hm := List.mem_of_getElem? e
    rcases List.mem_append.mp hm with hm | hm
    · have z := of_decide_eq_true (List.mem_filter.mp hm).2
      rw [z, ltS_irr] at q
      cases q
    · have z := (List.mem_filter.mp hm).2
      rw [ltS_as z] at q
      cases q
def isAt (rs : Rw) (n : Str) (k : Nat) : Bool := match rs[k]? with
  | some r => decide (r.1 = n)
  | none => false
theorem isAt_yes {rs : Rw} {n : Str} (h : SrR rs) (e : isAt rs n (place rs n) = true) : ∃ b, rs[place rs n]? = some (n, b) ∧ findR rs n = some b ∧ rs.drop (place rs n + 1) = hi rs n ∧ mid rs n = [(n, b)] := by
  unfold isAt at e
  rcases mid_le n h with m | ⟨b, m⟩
  · exfalso
    have e2 : rs[place rs n]? = (hi rs n)[0]? := by
      have := drop_place n h
      rw [m, List.nil_append] at this
      rw [← this, List.getElem?_drop] <;> rfl
    rw [e2] at e
    cases q : (hi rs n)[0]? with
    | none => rw [q] at e; cases e
    | some r =>
      rw [q] at e
      have z := (List.mem_filter.mp (List.mem_of_getElem? q)).2
      rw [of_decide_eq_true e, ltS_irr] at z
      cases z
  · have dp := drop_place n h
    rw [m] at dp
    refine ⟨b, ?_, ?_, ?_, m⟩
    · have : (rs.drop (place rs n))[0]? = some (n, b) := by rw [dp] <;> rfl
      rw [List.getElem?_drop] at this
      exact this
    · rw [find_mid, m] <;> rfl
    · have : (rs.drop (place rs n)).drop 1 = hi rs n := by rw [dp] <;> rfl
      rw [List.drop_drop] at this
      exact this
theorem isAt_no {rs : Rw} {n : Str} (h : SrR rs) (e : isAt rs n (place rs n) = false) : findR rs n = none ∧ rs.drop (place rs n) = hi rs n ∧ mid rs n = [] := by
  rcases mid_le n h with m | ⟨b, m⟩
  · refine ⟨?_, ?_, m⟩
    · rw [find_mid, m] <;> rfl
    · rw [drop_place n h, m] <;> rfl
  · exfalso
    have dp := drop_place n h
    rw [m] at dp
    have : (rs.drop (place rs n))[0]? = some (n, b) := by rw [dp] <;> rfl
    rw [List.getElem?_drop] at this
    have q : rs[place rs n]? = some (n, b) := this
    unfold isAt at e
    rw [q] at e
    simp at e
theorem delR_of_no {rs : Rw} {n : Str} (h : SrR rs) (m : mid rs n = []) : delR rs n = rs := by
  have e := split_rows n h
  rw [m, List.nil_append] at e
  exact e.symm
theorem SrR.lo_lt {rs : Rw} (n : Str) : ∀ r ∈ lo rs n, ltS r.1 n = true := fun r m => (List.mem_filter.mp m).2
theorem SrR.hi_gt {rs : Rw} (n : Str) : ∀ r ∈ hi rs n, ltS n r.1 = true := fun r m => (List.mem_filter.mp m).2
theorem SrR.put {rs : Rw} (h : SrR rs) (n : Str) (b : Int) : SrR (putR rs n b) := by
  refine List.pairwise_append.mpr ⟨h.sublist List.filter_sublist, List.pairwise_cons.mpr ⟨fun r m => SrR.hi_gt n r m, h.sublist List.filter_sublist⟩, fun x hx y hy => ?_⟩
  have h1 := SrR.lo_lt n x hx
  rcases List.mem_cons.mp hy with e | hy
  · rw [e]; exact h1
  · exact ltS_tr h1 (SrR.hi_gt n y hy)
theorem SrR.del {rs : Rw} (h : SrR rs) (n : Str) : SrR (delR rs n) :=
  List.pairwise_append.mpr ⟨h.sublist List.filter_sublist, h.sublist List.filter_sublist, fun x hx y hy => ltS_tr (SrR.lo_lt n x hx) (SrR.hi_gt n y hy)⟩
theorem putR_len (rs : Rw) (n : Str) (b : Int) : (putR rs n b).length ≤ rs.length + 1 := by
  have h : (lo rs n).length + (hi rs n).length ≤ rs.length := by
    unfold lo hi
    clear b
    induction rs with
    | nil => exact Nat.le_refl _
    | cons r rs ih =>
      rw [List.filter_cons, List.filter_cons]
      cases e1 : ltS r.1 n with
      | true =>
        rw [ltS_as e1]
        simp only [if_true, List.length_cons, Bool.false_eq_true, if_false]
        omega
      | false =>
        cases e2 : ltS n r.1 with
        | true =>
          simp only [if_true, List.length_cons, Bool.false_eq_true, if_false]
          omega
        | false =>
          simp only [List.length_cons, Bool.false_eq_true, if_false]
          omega
  unfold putR
  rw [List.length_append, List.length_cons]
  omega
end My
namespace My
open PySem PySem.Spec PyProof.Rows L2
/-! ### a dict with text keys and numbers as rows without an order -/
def kvR (m : Rw) : List (Key × V) := m.map fun r => ((Sum.inr r.1 : Key), V.int r.2)
def putM (m : Rw) (n : Str) (b : Int) : Rw := if (m.any fun r => decide (r.1 = n)) = true then m.map (fun r => if r.1 = n then (r.1, b) else r) else m ++ [(n, b)]
theorem findR_nil (n : Str) : findR [] n = none := rfl
theorem findR_cons (r : Str × Int) (m : Rw) (n : Str) : findR (r :: m) n = if r.1 = n then some r.2 else findR m n := by
  unfold findR
  by_cases e : r.1 = n
  · rw [if_pos e, List.find?_cons_of_pos (by simp [e])] <;> rfl
  · rw [if_neg e, List.find?_cons_of_neg (by simp [e])]
theorem findR_app (m m' : Rw) (n : Str) : findR (m ++ m') n = (findR m n).or (findR m' n) := by
  unfold findR
  rw [List.find?_append]
  cases List.find? (fun r => decide (r.1 = n)) m <;> rfl
theorem findR_none {m : Rw} {n : Str} : findR m n = none ↔ n ∉ m.map (·.1) := by
  induction m with
  | nil => simp [findR_nil]
  | cons r m ih =>
    rw [findR_cons]
    by_cases e : r.1 = n
    · rw [if_pos e]
      constructor
      · intro h; cases h
      · intro h; exact absurd (by rw [List.map_cons, e]; exact List.mem_cons_self) h
    · rw [if_neg e, ih, List.map_cons, List.mem_cons]
      constructor
      · intro h q
        rcases q with q | q
        · exact e q.symm
        · exact h q
      · intro h q; exact h (.inr q)
theorem key_inr {a b : Str} : ((Sum.inr a : Key) = Sum.inr b) ↔ a = b := ⟨fun h => Sum.inr.inj h, fun h => by rw [h]⟩
theorem kvR_val (m : Rw) (n : Str) : valV (kvR m) (Sum.inr n) = (findR m n).map V.int := by
  induction m with
  | nil => rfl
  | cons r m ih =>
    rw [findR_cons]
    by_cases e : r.1 = n
    · rw [if_pos e]
      exact valV_pos (p := ((Sum.inr r.1 : Key), V.int r.2)) (r := kvR m) (key_inr.mpr e)
    · rw [if_neg e, ← ih]
      exact valV_neg (p := ((Sum.inr r.1 : Key), V.int r.2)) (r := kvR m) fun q => e (key_inr.mp q)
theorem kvR_any (m : Rw) (n : Str) : ((kvR m).any fun kv => decide (kv.1 = (Sum.inr n : Key))) = m.any fun r => decide (r.1 = n) := by
  induction m with
  | nil => rfl
  | cons r m ih =>
    show (decide ((Sum.inr r.1 : Key) = Sum.inr n) || _) = (decide (r.1 = n) || _)
    rw [← ih, decide_eq_decide.mpr (key_inr (a := r.1) (b := n))] <;> rfl
theorem kvR_put (m : Rw) (n : Str) (b : Int) : putK (kvR m) (Sum.inr n) (V.int b) = kvR (putM m n b) := by
  unfold putK putM
  rw [kvR_any]
  by_cases e : (m.any fun r => decide (r.1 = n)) = true
  · rw [if_pos e, if_pos e]
    unfold kvR
    rw [List.map_map, List.map_map]
    refine List.map_congr_left fun r _ => ?_
    show (if (Sum.inr r.1 : Key) = Sum.inr n then ((Sum.inr r.1 : Key), V.int b) else ((Sum.inr r.1 : Key), V.int r.2)) = _
    by_cases q : r.1 = n
    · rw [if_pos (key_inr.mpr q)]
      show _ = ((Sum.inr (if r.1 = n then (r.1, b) else r).1 : Key), V.int (if r.1 = n then (r.1, b) else r).2)
      rw [if_pos q]
    · rw [if_neg fun z => q (key_inr.mp z)]
      show _ = ((Sum.inr (if r.1 = n then (r.1, b) else r).1 : Key), V.int (if r.1 = n then (r.1, b) else r).2)
      rw [if_neg q]
  · rw [if_neg e, if_neg e]
    unfold kvR
    rw [List.map_append] <;> rfl
theorem any_find (m : Rw) (n : Str) : (m.any fun r => decide (r.1 = n)) = (findR m n).isSome := by
  induction m with
  | nil => rfl
  | cons r m ih =>
    rw [findR_cons, List.any_cons, ih]
    by_cases e : r.1 = n
    · rw [if_pos e, decide_eq_true e] <;> rfl
    · rw [if_neg e, decide_eq_false e] <;> rfl
theorem putM_keys (m : Rw) (n : Str) (b : Int) : (putM m n b).map (·.1) = if (findR m n).isSome = true then m.map (·.1) else m.map (·.1) ++ [n] := by
  unfold putM
  rw [any_find]
  by_cases e : (findR m n).isSome = true
  · rw [if_pos e, if_pos e, List.map_map]
    refine List.map_congr_left fun r _ => ?_
    show (if r.1 = n then (r.1, b) else r).1 = r.1
    by_cases q : r.1 = n
    · rw [if_pos q]
    · rw [if_neg q]
  · rw [if_neg e, if_neg e, List.map_append] <;> rfl
theorem putM_nodup {m : Rw} (h : (m.map (·.1)).Nodup) (n : Str) (b : Int) : ((putM m n b).map (·.1)).Nodup := by
  rw [putM_keys]
  by_cases e : (findR m n).isSome = true
  · rw [if_pos e]; exact h
  · rw [if_neg e]
    have e2 : findR m n = none := by
      cases q : findR m n with
      | none => rfl
      | some v => rw [q] at e; exact absurd rfl e
    have hn := findR_none.mp e2
    refine List.nodup_append.mpr ⟨h, List.nodup_cons.mpr ⟨by simp, List.nodup_nil⟩, fun a ha c hc q => ?_⟩
    rw [List.mem_singleton.mp hc] at q
    rw [q] at ha
    exact hn ha
theorem putM_len (m : Rw) (n : Str) (b : Int) : (putM m n b).length ≤ m.length + 1 := by
  unfold putM
  split
  · rw [List.length_map]; omega
  · rw [List.length_append, List.length_singleton]; exact Nat.le_refl _
theorem findR_map (m : Rw) (n : Str) (b : Int) (k : Str) : findR (m.map fun r => if r.1 = n then (r.1, b) else r) k = if k = n then (findR m k).map (fun _ => b) else findR m k := by
  induction m with
  | nil => rw [List.map_nil, findR_nil]; split <;> rfl
  | cons r m ih =>
    rw [List.map_cons, findR_cons, findR_cons, ih]
    by_cases q : r.1 = n
    · rw [if_pos q]
      show (if r.1 = k then some b else _) = _
      by_cases e : r.1 = k
      · rw [if_pos e, if_pos e, if_pos (e.symm.trans q)] <;> rfl
      · have : ¬ k = n := fun z => e (q.trans z.symm)
        rw [if_neg e, if_neg e, if_neg this]
    · rw [if_neg q]
      by_cases e : r.1 = k
      · have : ¬ k = n := fun z => q (e.trans z)
        rw [if_pos e, if_neg this, if_pos e]
      · rw [if_neg e, if_neg e]
theorem findR_putM (m : Rw) (n : Str) (b : Int) (k : Str) : findR (putM m n b) k = if k = n then some b else findR m k := by
  unfold putM
  rw [any_find]
  by_cases e : (findR m n).isSome = true
  · rw [if_pos e, findR_map]
    by_cases q : k = n
    · rw [if_pos q, if_pos q, q]
      cases z : findR m n with
      | none => rw [z] at e; cases e
      | some v => rfl
    · rw [if_neg q, if_neg q]
  · rw [if_neg e, findR_app, findR_cons, findR_nil]
    have e2 : findR m n = none := by
      cases q : findR m n with
      | none => rfl
      | some v => rw [q] at e; exact absurd rfl e
    by_cases q : k = n
    · rw [if_pos q, if_pos q.symm, q, e2] <;> rfl
    · rw [if_neg q, if_neg fun z => q z.symm]
      cases findR m k <;> rfl
/-! ### rows told by what they find -/
theorem SrR.head_none {r : Str × Int} {rs : Rw} (h : SrR (r :: rs)) {k : Str} (hk : ltS k r.1 = true ∨ k = r.1) : findR rs k = none := by
  refine findR_none.mpr fun m => ?_
  obtain ⟨x, hx, e⟩ := List.mem_map.mp m
  have h1 := (List.pairwise_cons.mp h).1 x hx
  rw [e] at h1
  rcases hk with q | q
  · rw [ltS_as q] at h1; cases h1
  · rw [q, ltS_irr] at h1; cases h1
theorem SrR.ext : ∀ {a b : Rw}, SrR a → SrR b → (∀ n, findR a n = findR b n) → a = b
  | [], [], _, _, _ => rfl
  | [], r :: b, _, _, h => by
    have := h r.1
    rw [findR_nil, findR_cons, if_pos rfl] at this
    cases this
  | r :: a, [], _, _, h => by
    have := h r.1
    rw [findR_nil, findR_cons, if_pos rfl] at this
    cases this
  | r :: a, q :: b, ha, hb, h => by
    have e : r.1 = q.1 := by
      rcases ltS_or r.1 q.1 with e | e | e
      · have z := h r.1
        rw [findR_cons, if_pos rfl, findR_cons, if_neg fun u => ltS_ne e u.symm, hb.head_none (.inl e)] at z
        cases z
      · exact e
      · have z := h q.1
        rw [findR_cons, if_neg fun u => ltS_ne e u.symm, ha.head_none (.inl e), findR_cons, if_pos rfl] at z
        cases z
    have e2 : r.2 = q.2 := by
      have z := h r.1
      rw [findR_cons, if_pos rfl, findR_cons, if_pos e.symm] at z
      exact Option.some.inj z
    have e3 : r = q := Prod.ext e e2
    have e4 : a = b := SrR.ext (List.pairwise_cons.mp ha).2 (List.pairwise_cons.mp hb).2 fun n => by
      have z := h n
      rw [findR_cons, findR_cons] at z
      by_cases u : r.1 = n
      · rw [ha.head_none (.inr u.symm), hb.head_none (.inr (u.symm.trans e))]
      · rw [if_neg u, if_neg fun w => u (e.trans w)] at z
        exact z
    rw [e3, e4]
theorem findR_lo (rs : Rw) (n k : Str) : findR (lo rs n) k = if ltS k n = true then findR rs k else none := by
  induction rs with
  | nil => unfold lo; rw [List.filter_nil, findR_nil]; split <;> rfl
  | cons r rs ih =>
    unfold lo
    rw [List.filter_cons]
    by_cases e : ltS r.1 n = true
    · rw [if_pos e, findR_cons, findR_cons]
      by_cases q : r.1 = k
      · rw [if_pos q, if_pos q, if_pos (q ▸ e)]
      · rw [if_neg q, if_neg q]; exact ih
    · rw [if_neg e, findR_cons]
      by_cases q : r.1 = k
      · rw [if_pos q]
        have z := ih
        unfold lo at z
        rw [if_neg (q ▸ e)] at z ⊢
        exact z
      · rw [if_neg q]; exact ih
theorem findR_hi (rs : Rw) (n k : Str) : findR (hi rs n) k = if ltS n k = true then findR rs k else none := by
  induction rs with
  | nil => unfold hi; rw [List.filter_nil, findR_nil]; split <;> rfl
  | cons r rs ih =>
    unfold hi
    rw [List.filter_cons]
    by_cases e : ltS n r.1 = true
    · rw [if_pos e, findR_cons, findR_cons]
      by_cases q : r.1 = k
      · rw [if_pos q, if_pos q, if_pos (q ▸ e)]
      · rw [if_neg q, if_neg q]; exact ih
    · rw [if_neg e, findR_cons]
      by_cases q : r.1 = k
      · rw [if_pos q]
        have z := ih
        unfold hi at z
        rw [if_neg (q ▸ e)] at z ⊢
        exact z
      · rw [if_neg q]; exact ih
theorem findR_putR (rs : Rw) (n : Str) (b : Int) (k : Str) : findR (putR rs n b) k = if k = n then some b else findR rs k := by
  unfold putR
  rw [findR_app, findR_lo, findR_cons, findR_hi]
  rcases ltS_or k n with e | e | e
  · rw [if_pos e, if_neg (ltS_ne e), if_neg fun z => ltS_ne e z.symm, ltS_as e]
    cases findR rs k <;> rfl
  · rw [if_pos e, if_pos e.symm, e, ltS_irr] <;> rfl
  · rw [if_neg (by rw [ltS_as e]; simp), if_neg (fun z => ltS_ne e z : ¬ n = k), if_pos e, if_neg (fun z => ltS_ne e z.symm : ¬ k = n)] <;> rfl
theorem findR_delR (rs : Rw) (n : Str) (k : Str) : findR (delR rs n) k = if k = n then none else findR rs k := by
  unfold delR
  rw [findR_app, findR_lo, findR_hi]
  rcases ltS_or k n with e | e | e
  · rw [if_pos e, if_neg (ltS_ne e), ltS_as e]
    cases findR rs k <;> rfl
  · rw [if_pos e, e, ltS_irr] <;> rfl
  · rw [if_neg (by rw [ltS_as e]; simp), if_pos e, if_neg (fun z => ltS_ne e z.symm : ¬ k = n)] <;> rfl
theorem findR_filter (rs : Rw) (n k : Str) : findR (rs.filter fun r => !decide (r.1 = n)) k = if k = n then none else findR rs k := by
  induction rs with
  | nil => rw [List.filter_nil, findR_nil]; split <;> rfl
  | cons r rs ih =>
    rw [List.filter_cons]
    by_cases e : r.1 = n
    · rw [decide_eq_true e]
      show findR (rs.filter _) k = _
      rw [ih, findR_cons]
      by_cases q : k = n
      · rw [if_pos q, if_pos q]
      · rw [if_neg q, if_neg q, if_neg fun z => q (z.symm.trans e)]
    · rw [decide_eq_false e]
      show findR (r :: rs.filter _) k = _
      rw [findR_cons, ih, findR_cons]
      by_cases q : r.1 = k
      · rw [if_pos q, if_pos q, if_neg fun z => e (q.trans z)]
      · rw [if_neg q, if_neg q]
theorem delR_filter {rs : Rw} (h : SrR rs) (n : Str) : rs.filter (fun r => !decide (r.1 = n)) = delR rs n :=
  SrR.ext (h.sublist List.filter_sublist) (h.del n) fun k => by rw [findR_filter, findR_delR]
/-- the rows that a law makes of its dict: the keys sorted, each with its number -/
def rowsOf (m : Rw) (ys : List Str) : Rw := ys.map fun y => (y, (findR m y).getD 0)
theorem strict_of {ys : List Str} (h : SrtS ys) (hn : ys.Nodup) : ys.Pairwise fun a b => ltS a b = true := by
  refine (List.Pairwise.and h hn).imp fun {a b} ⟨h1, h2⟩ => ?_
  rcases ltS_or a b with e | e | e
  · exact e
  · exact absurd e h2
  · rw [e] at h1; cases h1
theorem rowsOf_srt {m : Rw} {ys : List Str} (hm : (m.map (·.1)).Nodup) (hp : ys.Perm (m.map (·.1))) (hs : SrtS ys) : SrR (rowsOf m ys) :=
  List.pairwise_map.mpr ((strict_of hs (hp.nodup_iff.mpr hm)).imp fun {a b} h => h)
theorem findR_rowsOf (m : Rw) (ys : List Str) (k : Str) : findR (rowsOf m ys) k = if k ∈ ys then some ((findR m k).getD 0) else none := by
  induction ys with
  | nil => rw [if_neg (by simp)] <;> rfl
  | cons y ys ih =>
    show findR ((y, _) :: rowsOf m ys) k = _
    rw [findR_cons, ih]
    by_cases e : y = k
    · rw [if_pos e, if_pos (by rw [e]; exact List.mem_cons_self)]
      show some ((findR m y).getD 0) = _
      rw [e]
    · rw [if_neg e]
      by_cases q : k ∈ ys
      · rw [if_pos q, if_pos (List.mem_cons_of_mem _ q)]
      · rw [if_neg q, if_neg fun z => (List.mem_cons.mp z).elim (fun u => e u.symm) q]
theorem rowsOf_find {m : Rw} {ys : List Str} (hp : ys.Perm (m.map (·.1))) (k : Str) : findR (rowsOf m ys) k = findR m k := by
  rw [findR_rowsOf]
  by_cases e : k ∈ ys
  · rw [if_pos e]
    cases q : findR m k with
    | none => exact absurd (hp.mem_iff.mp e) (findR_none.mp q)
    | some v => rfl
  · rw [if_neg e]
    exact (findR_none.mpr fun z => e (hp.mem_iff.mpr z)).symm
end My
namespace My
open PySem PySem.Spec PyProof.Rows L2
/-! ### names that a law draws -/
theorem st_neS {H : Hp} {Q : VK} {x : V} (h : scal x x = true) (q : Q (.bl false) H) : rNe x x H Q := ⟨h, by rw [decide_eq_true rfl]; exact q⟩
theorem st_eqS {H : Hp} {Q : VK} {x : V} (h : scal x x = true) (q : Q (.bl true) H) : rEq x x H Q := ⟨h, by rw [decide_eq_true rfl]; exact q⟩
def rIsNot : R2 := fun x y H Q => y = .non ∧ Q (.bl (!decide (x = .non))) H
theorem oIsNot {X : Cx} : OpR X (compareOp .IsNot) rIsNot := op_notN
section
variable {H : Hp} {Q : VK} {i : Int} {p : Addr} {z : Str}
theorem isNo_non (q : Q (.bl true) H) : rIsNo .non .non H Q := ⟨rfl, q⟩
theorem isNo_int (q : Q (.bl false) H) : rIsNo (.int i) .non H Q := ⟨rfl, q⟩
theorem isNo_ref (q : Q (.bl false) H) : rIsNo (.ref p) .non H Q := ⟨rfl, q⟩
theorem isNo_str (q : Q (.bl false) H) : rIsNo (.str z) .non H Q := ⟨rfl, q⟩
theorem isNot_non (q : Q (.bl false) H) : rIsNot .non .non H Q := ⟨rfl, q⟩
theorem isNot_int (q : Q (.bl true) H) : rIsNot (.int i) .non H Q := ⟨rfl, q⟩
theorem isNot_ref (q : Q (.bl true) H) : rIsNot (.ref p) .non H Q := ⟨rfl, q⟩
theorem isNot_str (q : Q (.bl true) H) : rIsNot (.str z) .non H Q := ⟨rfl, q⟩
end
theorem lc_filterR {K : PySem.W.Frag} {l : Addr} {xs : List V} {rs : Rw} {n : Str} {j : Nat} {tt : TT} {vs : List Nat} {σ : L2.St} {H1 : Hp} {Q : VK} (hl : SqL K H1 l xs) (pr : Prs K H1 xs rs) (hz : rs.length ≤ 1000000)
    (ht : ∀ (p : Addr) (r : Str × Int) (H2 : Hp), SqT K H2 p [.str r.1, .int r.2] → Gr H1 H2 → ∀ Qb : Bool → Hp → Prop, Qb (!decide (r.1 = n)) H2 → tt ((wipe σ vs).set j (some (.ref p))) H2 Qb)
    {te : TE} (he : ∀ (p : Addr) (H2 : Hp) (Qy : VK), Qy (.ref p) H2 → te ((wipe σ vs).set j (some (.ref p))) H2 Qy)
    (hw : ∀ x, wipe ((wipe σ vs).set j (some x)) vs = wipe σ vs) (hq : ∀ D acc H2, H1 D = none → Gr H1 H2 → H2 D = some (.lst acc) → Prs K H2 acc (rs.filter fun r => !decide (r.1 = n)) → Q (.ref D) H2) : LC (gName j) tt te vs σ Q (Itl K l) H1 := by
  have hxl := pr.len
  refine lc_acc (n := xs.length) (Y := fun i x => xs[i]? = some x) walk_list (fun H' g => g.l hl) (fun i acc H' => Prs K H' acc ((rs.take i).filter fun r => !decide (r.1 = n)))
    (fun H2 _ => by rw [List.take_zero]; exact .nil) (fun i acc H H' g h => h.gr g) (fun i acc H D xs zs e _ h => h.mut e) ?_ (fun D acc H2 hD g e _ h => hq D acc H2 hD g e (by rw [hxl, List.take_length] at h; exact h)) (by omega) hw
  intro i x acc H2 hi y g a Qy Qn q1 q2
  obtain ⟨p, r, rfl, er, hp⟩ := pr.back y
  obtain ⟨hi2, e2⟩ := List.getElem?_eq_some_iff.mp er
  have et : (rs.take (i + 1)).filter (fun r => !decide (r.1 = n)) = (rs.take i).filter (fun r => !decide (r.1 = n)) ++ (if (!decide (r.1 = n)) = true then [r] else []) := by
    rw [List.take_succ_eq_append_getElem hi2, List.filter_append, e2, List.filter_cons]
    split <;> rfl
  refine ht p r H2 (g.t hp) g _ ?_
  refine ite3 (fun h => he p H2 Qy (q1 _ H2 (Gr.refl _) ?_)) (fun h => q2 H2 (Gr.refl _) ?_)
  · rw [et, if_pos h]
    exact a.app (.one (g.t hp))
  · rw [et, if_neg (by rw [h]; exact Bool.false_ne_true), List.append_nil]
    exact a
theorem st_lenT2 {K : PySem.W.Frag} {H : Hp} {Q : VK} {p : Addr} {x y : V} (h : SqT K H p [x, y]) (q : Q (.int 2) H) : rLenQ K [.ref p] H Q := ⟨p, _, rfl, .inr h, q⟩
theorem st_loopR {m j : Nat} {tb : TS} {n : L2.St → Hp → Prop} {rt : VK} {b c : L2.St → Hp → Prop} {σ : L2.St} {H : Hp} (Pv : Nat → L2.St → Hp → Prop) (h0 : Pv 0 σ H)
    (hs : ∀ (i : Nat) σ H, i < m → Pv i σ H → tb ⟨Pv (i + 1), rt, n, Pv (i + 1)⟩ (σ.set j (some (.int (i : Int)))) H) (hd : ∀ σ H, Pv m σ H → n σ H) : LF (gName j) tb ⟨n, rt, b, c⟩ σ (Itr 0 m) H := by
  refine st_loop walk_range Pv h0 (fun _ _ _ _ _ => True.intro) (fun i x σ H hi p y => ?_) hd
  subst y
  show tb _ (σ.set j (some (.int (0 + (i : Int))))) H
  rw [Int.zero_add]
  exact hs i σ H hi p
def abc : List Nat := (Str.ofString "abcdefghijklmnopqrstuvwxyz").cps.toList
theorem abc_eq : abc = [97, 98, 99, 100, 101, 102, 103, 104, 105, 106, 107, 108, 109, 110, 111, 112, 113, 114, 115, 116, 117, 118, 119, 120, 121, 122] := by decide +kernel
/-- small letters alone -/
def lowS (z : Str) : Bool := z.cps.toList.all fun c => decide (97 ≤ c) && decide (c ≤ 122)
/-- a name -/
def okN (z : Str) : Bool := decide (1 ≤ z.length) && decide (z.length ≤ 8) && lowS z
theorem len_tl (z : Str) : z.length = z.cps.toList.length := by simp [Str.length]
theorem app_tl (a b : Str) : (a ++ b).cps.toList = a.cps.toList ++ b.cps.toList := by
  show (a.cps ++ b.cps).toList = _
  rw [Array.toList_append]
theorem lowS_app (a b : Str) : lowS (a ++ b) = (lowS a && lowS b) := by
  unfold lowS
  rw [app_tl, List.all_append]
theorem len_app (a b : Str) : (a ++ b).length = a.length + b.length := by
  rw [len_tl, app_tl, List.length_append, len_tl, len_tl]
theorem lowS_one (i : Nat) (h : i < 26) : lowS ⟨#[abc.getD i 0]⟩ = true := by
  have hh : ∀ i, i < 26 → lowS ⟨#[abc.getD i 0]⟩ = true := by decide +kernel
  exact hh i h
theorem lowS_ok {z : Str} (h : lowS z = true) : PyData.strOk z = true := by
  unfold PyData.strOk
  rw [← Array.all_toList, List.all_eq_true]
  intro c hc
  have q := List.all_eq_true.mp h c hc
  rw [Bool.and_eq_true, decide_eq_true_eq, decide_eq_true_eq] at q
  exact decide_eq_true (by omega)
theorem okN_le {z : Str} (h : okN z = true) : 1 ≤ z.length ∧ z.length ≤ 8 ∧ lowS z = true := by
  unfold okN at h
  rw [Bool.and_eq_true, Bool.and_eq_true, decide_eq_true_eq, decide_eq_true_eq] at h
  exact ⟨h.1.1, h.1.2, h.2⟩
theorem okN_mk {z : Str} (h1 : 1 ≤ z.length) (h2 : z.length ≤ 8) (h3 : lowS z = true) : okN z = true := by
  unfold okN
  rw [decide_eq_true h1, decide_eq_true h2, h3] <;> rfl
theorem joinL_mem {S : List Nat} {c : Nat} : ∀ {ls : List (List Nat)}, c ∈ TL.joinL S ls → c ∈ S ∨ ∃ l ∈ ls, c ∈ l
  | [], h => by cases h
  | [a], h => .inr ⟨a, List.mem_cons_self, h⟩
  | a :: d :: r, h => by
    have h2 : c ∈ a ++ (S ++ TL.joinL S (d :: r)) := h
    rcases List.mem_append.mp h2 with q | q
    · exact .inr ⟨a, List.mem_cons_self, q⟩
    · rcases List.mem_append.mp q with q | q
      · exact .inl q
      · rcases joinL_mem q with z | ⟨l, hl, z⟩
        · exact .inl z
        · exact .inr ⟨l, List.mem_cons_of_mem _ hl, z⟩
theorem joinE_len : ∀ (ls : List (List Nat)), (TL.joinL [] ls).length = (ls.map List.length).sum
  | [] => rfl
  | [a] => by simp [TL.joinL]
  | a :: d :: r => by
    have ih := joinE_len (d :: r)
    show (a ++ ([] ++ TL.joinL [] (d :: r))).length = _
    rw [List.length_append, List.nil_append, ih, List.map_cons, List.map_cons, List.map_cons, List.sum_cons, List.sum_cons, List.sum_cons]
theorem tl_empty : TL.tl (Str.ofString "") = [] := by decide +kernel
/-- signs, one by one, joined -/
def signs (f : Nat → Nat) (n : Nat) : List Str := (List.range n).map fun i => (⟨#[abc.getD (f i) 0]⟩ : Str)
theorem signs_len (f : Nat → Nat) (n : Nat) : (signs f n).length = n := by unfold signs; rw [List.length_map, List.length_range]
theorem signs_sum (f : Nat → Nat) (n : Nat) : ((signs f n).map (·.length)).sum = n := by
  unfold signs
  rw [List.map_map]
  have e : ((fun z : Str => z.length) ∘ fun i => (⟨#[abc.getD (f i) 0]⟩ : Str)) = fun _ => 1 := by funext i; rfl
  rw [e]
  induction n with
  | zero => rfl
  | succ n ih => rw [List.range_succ, List.map_append, List.sum_append, ih] <;> rfl
theorem join_signs {f : Nat → Nat} {n : Nat} (hf : ∀ i, i < n → f i < 26) (h1 : 1 ≤ n) (h8 : n ≤ 8) : okN (Txt.join (Str.ofString "") (signs f n)) = true := by
  have et : (Txt.join (Str.ofString "") (signs f n)).cps.toList = TL.joinL [] ((signs f n).map TL.tl) := by
    show TL.tl _ = _
    rw [TL.join_eq, TL.tl_join, tl_empty]
  refine okN_mk ?_ ?_ ?_
  · rw [len_tl, et, joinE_len, List.map_map]
    have := signs_sum f n
    have e : ((signs f n).map (List.length ∘ TL.tl)).sum = ((signs f n).map (·.length)).sum := by
      congr 1
    rw [e, this]
    exact h1
  · rw [len_tl, et, joinE_len, List.map_map]
    have := signs_sum f n
    have e : ((signs f n).map (List.length ∘ TL.tl)).sum = ((signs f n).map (·.length)).sum := by
      congr 1
    rw [e, this]
    exact h8
  · unfold lowS
    rw [et, List.all_eq_true]
    intro c hc
    rcases joinL_mem hc with z | ⟨l, hl, z⟩
    · cases z
    · obtain ⟨y, hy, rfl⟩ := List.mem_map.mp hl
      unfold signs at hy
      obtain ⟨i, hi, rfl⟩ := List.mem_map.mp hy
      have q := lowS_one (f i) (hf i (List.mem_range.mp hi))
      exact List.all_eq_true.mp q c z
/-- a stem with a sign put in -/
def stems : List Str := [Str.ofString "ab", Str.ofString "aba", Str.ofString "zyxwvut", Str.ofString "nonon", Str.ofString "aaaaaaa", Str.ofString "q"]
def stem (k : Nat) : Str := stems.getD k (Str.ofString "q")
def putIn (k a c : Nat) : Str := cutS (stem k) none (some (a : Int)) ++ ⟨#[abc.getD c 0]⟩ ++ cutS (stem k) (some (a : Int)) none
theorem stem_le (k : Nat) : (stem k).length ≤ 7 := by
  unfold stem
  have h : ∀ s ∈ stems, s.length ≤ 7 := by decide +kernel
  rw [List.getD_eq_getElem?_getD]
  cases e : stems[k]? with
  | none => decide +kernel
  | some s => exact h s (List.mem_of_getElem? e)
theorem putIn_ok {k a c : Nat} (hk : k < 6) (ha : a < (stem k).length + 1) (hc : c < 26) : okN (putIn k a c) = true := by
  have hh : ∀ k, k < 6 → ∀ a, a < 8 → a < (stem k).length + 1 → (cutS (stem k) none (some (a : Int))).length + (cutS (stem k) (some (a : Int)) none).length ≤ 7 ∧ lowS (cutS (stem k) none (some (a : Int))) = true ∧ lowS (cutS (stem k) (some (a : Int)) none) = true := by decide +kernel
  have hl := stem_le k
  obtain ⟨h1, h2, h3⟩ := hh k hk a (by omega) ha
  have e1 : (⟨#[abc.getD c 0]⟩ : Str).length = 1 := rfl
  unfold putIn
  refine okN_mk ?_ ?_ ?_
  · rw [len_app, len_app, e1]; omega
  · rw [len_app, len_app, e1]; omega
  · rw [lowS_app, lowS_app, h2, h3, lowS_one c hc] <;> rfl
theorem cut_le (k a : Nat) : (cutS (stem k) none (some (a : Int))).length ≤ 7 ∧ (cutS (stem k) (some (a : Int)) none).length ≤ 7 := by
  have h : ∀ lo hi, (cutS (stem k) lo hi).length ≤ 7 := fun lo hi => by
    unfold cutS
    rw [len_tl]
    show (List.take _ (List.drop _ _)).length ≤ 7
    rw [List.length_take, List.length_drop]
    have := stem_le k
    rw [len_tl] at this
    omega
  exact ⟨h _ _, h _ _⟩
theorem nat_emod (x : Int) (m : Nat) (M : Int) (hM : M = (m : Int)) (h : 0 < m) : ∃ j : Nat, x % M = (j : Int) ∧ j < m := by
  subst hM
  have h1 := Int.emod_nonneg x (b := (m : Int)) (by omega)
  have h2 := Int.emod_lt_of_pos x (b := (m : Int)) (by omega)
  exact ⟨(x % (m : Int)).toNat, by omega, by omega⟩
theorem abc_at {c : Nat} (h : c < 26) : atI abc ((c : Nat) : Int) = some (abc.getD c 0) := by
  refine atI_nat ?_
  rw [List.getD_eq_getElem?_getD, List.getElem?_eq_getElem (by rw [abc_eq]; exact h)] <;> rfl
theorem stem_at {k : Nat} (h : k < 6) : atI (stems.map V.str) ((k : Nat) : Int) = some (V.str (stem k)) := by
  refine atI_nat ?_
  unfold stem
  rw [List.getElem?_map, List.getD_eq_getElem?_getD, List.getElem?_eq_getElem (by exact h)] <;> rfl
end My
namespace My
open PySem PySem.Spec PyProof.Rows L2
/-! ### data: texts, rows -/
theorem dp_strs {K : PySem.W.Frag} {H : Hp} : ∀ ys : List Str, DpAll K H (ys.map V.str) (ys.map PyData.str)
  | [] => .nil
  | y :: r => .cons (.str y) (dp_strs r)
theorem lay_strs : ∀ {ys : List Str}, (∀ y ∈ ys, PyData.strOk y = true) → PyData.canLayAll0 (ys.map PyData.str) = true
  | [], _ => rfl
  | y :: r, h => by
    rw [List.map_cons, PyData.canLayAll0, lay_strs fun z hz => h z (List.mem_cons_of_mem _ hz), Bool.and_true]
    show PyData.strOk y = true
    exact h y List.mem_cons_self
theorem depth_strs : ∀ ys : List Str, PyData.depthAll (ys.map PyData.str) = 0
  | [] => rfl
  | y :: r => by
    rw [List.map_cons, PyData.depthAll, depth_strs r]
    rfl
theorem shaped_strs {ys : List Str} (h : ∀ y ∈ ys, PyData.strOk y = true) : SeqAt.shaped (.list (ys.map PyData.str)) = true := by
  unfold SeqAt.shaped
  rw [PyData.depth, depth_strs]
  show (PyData.canLayAll0 _ && _) = true
  rw [lay_strs h] <;> rfl
def rowD (r : Str × Int) : PyData := .tuple [.str r.1, .int r.2]
theorem dp_rows {K : PySem.W.Frag} {H : Hp} : ∀ {vs : List V} {rs : Rw}, Prs K H vs rs → DpAll K H vs (rs.map rowD)
  | _, _, .nil => .nil
  | _, _, .cons a r => .cons (.tup a (.cons (.str _) (.cons (.int _) .nil))) (dp_rows r)
def lowR (rs : Rw) : Prop := ∀ r ∈ rs, lowS r.1 = true
theorem lay_rows : ∀ {rs : Rw}, lowR rs → PyData.canLayAll0 (rs.map rowD) = true
  | [], _ => rfl
  | r :: rs, h => by
    rw [List.map_cons, PyData.canLayAll0, lay_rows fun z hz => h z (List.mem_cons_of_mem _ hz), Bool.and_true]
    show PyData.canLayAll0 [.str r.1, .int r.2] = true
    rw [PyData.canLayAll0, PyData.canLay0, lowS_ok (h r List.mem_cons_self)] <;> rfl
theorem depth_rows : ∀ rs : Rw, PyData.depthAll (rs.map rowD) ≤ 1
  | [] => by decide
  | r :: rs => by
    rw [List.map_cons, PyData.depthAll]
    have h := depth_rows rs
    have e : PyData.depth (rowD r) = 1 := rfl
    rw [e]
    omega
theorem shaped_rows {rs : Rw} (h : lowR rs) : SeqAt.shaped (.list (rs.map rowD)) = true := by
  unfold SeqAt.shaped
  rw [PyData.depth]
  show (PyData.canLayAll0 _ && _) = true
  have hd := depth_rows rs
  rw [lay_rows h, decide_eq_true (by omega)] <;> rfl
theorem st_neNilR {K : PySem.W.Frag} {H : Hp} {Q : VK} {p q : Addr} {vs : List V} {rs : Rw} (h : SqL K H p vs) (pr : Prs K H vs rs) (hq : SqL K H q []) (hok : lowR rs) (k : Q (.bl (!rs.isEmpty)) H) : rNeD K (.ref p) (.ref q) H Q := by
  refine ⟨.list (rs.map rowD), .list [], .lst h (dp_rows pr), .lst hq .nil, shaped_rows hok, by decide, ?_⟩
  have e : PyData.eqv (.list (rs.map rowD)) (.list []) = rs.isEmpty := by
    cases rs with
    | nil => simp [PyData.eqv, PyData.eqvAll]
    | cons y r => simp [PyData.eqv, PyData.eqvAll]
  rw [e]
  exact k
theorem st_cut {t u : TS} {n : L2.St → Hp → Prop} {rt : VK} {b c : L2.St → Hp → Prop} {σ : L2.St} {H : Hp} (Mid : L2.St → Hp → Prop) (h : t ⟨Mid, rt, b, c⟩ σ H) (k : ∀ σ' H', Mid σ' H' → u ⟨n, rt, b, c⟩ σ' H') : C8.tCut t u ⟨n, rt, b, c⟩ σ H := ⟨Mid, h, k⟩
theorem kvR_keys (m : Rw) : (kvR m).map (·.1) = (m.map (·.1)).map (Sum.inr : Str → Key) := by
  unfold kvR
  rw [List.map_map, List.map_map] <;> rfl
theorem kvR_len (m : Rw) : (kvR m).length = m.length := by unfold kvR; rw [List.length_map]
theorem lowR_put {m : Rw} (h : lowR m) {n : Str} (hn : lowS n = true) (b : Int) : lowR (putM m n b) := by
  intro r hr
  unfold putM at hr
  split at hr
  · obtain ⟨x, hx, e⟩ := List.mem_map.mp hr
    by_cases q : x.1 = n
    · rw [if_pos q] at e
      rw [← e]
      exact h x hx
    · rw [if_neg q] at e
      rw [← e]
      exact h x hx
  · rcases List.mem_append.mp hr with hr | hr
    · exact h r hr
    · rw [List.mem_singleton.mp hr]
      exact hn
theorem lowR_rowsOf {m : Rw} (h : lowR m) {ys : List Str} (hp : ys.Perm (m.map (·.1))) : lowR (rowsOf m ys) := by
  intro r hr
  obtain ⟨y, hy, rfl⟩ := List.mem_map.mp hr
  obtain ⟨x, hx, e⟩ := List.mem_map.mp (hp.mem_iff.mp hy)
  show lowS y = true
  rw [← e]
  exact h x hx
theorem rowsOf_len (m : Rw) (ys : List Str) : (rowsOf m ys).length = ys.length := by unfold rowsOf; rw [List.length_map]
theorem rowsOf_put {m : Rw} {ys zs : List Str} (hm : (m.map (·.1)).Nodup) (hp : ys.Perm (m.map (·.1))) (hs : SrtS ys) (n : Str) (b : Int) (hp2 : zs.Perm ((putM m n b).map (·.1))) (hs2 : SrtS zs) :
    rowsOf (putM m n b) zs = putR (rowsOf m ys) n b :=
  SrR.ext (rowsOf_srt (putM_nodup hm n b) hp2 hs2) ((rowsOf_srt hm hp hs).put n b) fun k => by
    rw [rowsOf_find hp2, findR_putM, findR_putR, rowsOf_find hp]
end My
/-! tuple((a, b) for a, b in a list of pairs): the new pairs stand in the heap that is left -/
namespace TG
open PySem PySem.Spec PyProof.Rows
abbrev tupO (xs : Array Value) : Obj := { cls := .type "tuple", data := .seq xs }
/-- the element (a, b) -/
theorem elt_pair {prog : Program} {w : World} {cenv : Env} {xa xb : Str} {k2 : Nat} {p1 p2 p3 : Pos} {A : Around} {E : Value → Shared → Prop} {s : Shared} {m : Str → Option Value} {va vb : Value} {Q : Value → Shared → Prop}
    (hk : cenv.scope.kind = .function) (ha : cenv.kindOf xa = some .local) (hb : cenv.kindOf xb = some .local) (da : (xa == ("__debug__" : Str)) = false) (db : (xb == ("__debug__" : Str)) = false)
    (hn : s.heap.Ns cenv.locals m) (ma : m xa = some va) (mb : m xb = some vb) (q : Q (.ref s.heap.objs.size) { s with heap := s.heap.push (tupO #[va, vb]) }) :
    wpAny (model prog w) A (eval (.Tuple [.Name xa p1, .Name xb p2] k2 p3) cenv) Q E s := by
  refine wpAny_Tuple_spliced ?_
  show wpAny _ _ (spliced ((false, eval (.Name xa p1) cenv) :: (false, eval (.Name xb p2) cenv) :: [])) _ _ s
  refine Calls.spliced_cons (wpAny_Name (wpAny_loadName_local hk ha hn ma ?_) da)
  refine Calls.spliced_cons (wpAny_Name (wpAny_loadName_local hk hb hn mb ?_) db)
  refine Calls.spliced_nil ?_
  exact ⟨by show 2 ≤ sizeLine; decide, q⟩
/-- what a turn hands out -/
def YP (C I : Addr) (fp : List Addr) (n : Nat) (vals : Nat → Array Value) : Protocol := fun m s0 v s k =>
  (∃ p, v = .ref p ∧ s.heap.get? p = some (tupO (vals (n - 1 - m))) ∧ s0.heap.get? p = none ∧ ∃ oC oI, s.heap.get? C = some oC ∧ s.heap.get? I = some oI) ∧ GenSince C [I] s0 s ∧ ∀ t : Shared, (∀ b ∈ C :: fp, ∀ o, s.heap.get? b = some o → t.heap.get? b = some o) → k (.send .none) t
abbrev RP (C I : Addr) : GenEnd := fun n s0 r s1 => r = .ok .next ∧ (n = 0 ∧ GenSince C [I] s0 s1)
section
variable {prog : Program} {w : World} {A : Around} {iter : Expr} {xa xb : Str} {pa pb pt p1 p2 p3 pos : Pos} {kt k2 : Nat} {scope : Scope} {I : Addr} {fp : List Addr} {n : Nat} {vals : Nat → Array Value} {St : Nat → Heap → Prop} {Mid : Nat → Addr → Heap → Prop} {cenv : Env}
/-- the generator expression -/
abbrev gexp (iter : Expr) (xa xb : Str) (pa pb pt p1 p2 p3 pos : Pos) (kt k2 : Nat) (scope : Scope) : Expr := .GeneratorExp (.Tuple [.Name xa p1, .Name xb p2] k2 p3) [⟨.Tuple [.Name xa pa, .Name xb pb] kt pt, iter, [], 0⟩] scope pos
theorem fresh_of {C I p : Addr} {s0 s : Shared} (g : GenSince C [I] s0 s) (hC : ∃ o, s.heap.get? C = some o) (hI : ∃ o, s.heap.get? I = some o) (hp : s.heap.get? p = none) : s0.heap.get? p = none := by
  obtain ⟨h, tk, rfl, k⟩ := g
  cases e : s0.heap.get? p with
  | none => rfl
  | some o =>
    by_cases q : p = C
    · obtain ⟨o', e'⟩ := hC
      rw [← q] at e'
      exact absurd (hp.symm.trans e') (by simp)
    · by_cases q2 : p = I
      · obtain ⟨o', e'⟩ := hI
        rw [← q2] at e'
        exact absurd (hp.symm.trans e') (by simp)
      · have := k p o q (by simp [q2]) e
        exact absurd (hp.symm.trans this) (by simp)
theorem loop (hh : A.handled = none) (W : ∀ A' : Around, A'.handled = none → WalksU prog w A' I fp [I] n (fun j v => v = vals j) St Mid) (h2 : ∀ i, i < n → ∃ va vb, vals i = #[va, vb]) (hab : xa ≠ xb)
    (ha : cenv.kindOf xa = some .local) (hb : cenv.kindOf xb = some .local) (hk : cenv.scope.kind = .function) (hp : (cenv.scope.kind == .class || (cenv.scope.kind == .module && cenv.locals != cenv.globals)) = false) (hco : cenv.scope.isCoroutine = false) (hC : cenv.locals ∉ fp)
    (da : (xa == ("__debug__" : Str)) = false) (db : (xb == ("__debug__" : Str)) = false) (hI : ∀ i h, St i h → ∃ o, h.get? I = some o) :
    ∀ (k i : Nat) (s0 s : Shared) (m : Str → Option Value), n - i = k → i ≤ n → St i s.heap → s.heap.Ns cenv.locals m → GenSince cenv.locals [I] s0 s →
      Seg (model prog w) A (RP cenv.locals I) (YP cenv.locals I fp n vals) (n - i) s0 (.compLoop (gexp iter xa xb pa pb pt p1 p2 p3 pos kt k2 scope) 0 (.ref I) .none cenv)
        ((model prog w).den (.compLoop (gexp iter xa xb pa pb pt p1 p2 p3 pos kt k2 scope) 0 (.ref I) .none cenv)) [] s := by
  have hh1 : (A.over (.compLoop (gexp iter xa xb pa pb pt p1 p2 p3 pos kt k2 scope) 0 (.ref I) .none cenv) []).handled = none := hh
  have hCI : cenv.locals ∉ [I] := fun h => hC ((W A hh).sub _ h)
  intro k
  induction k with
  | zero =>
    intro i s0 s m hk1 hi hst hn hs
    obtain rfl : i = n := by omega
    show Seg _ A _ _ _ s0 _ ((compTurn (gexp iter xa xb pa pb pt p1 p2 p3 pos kt k2 scope) 0 (.ref I) .none cenv).onRaise (leaving cenv)) [] s
    rw [compTurn_gen, Sem.onRaise_eq_wrap]
    refine seg_bind_wrap (wpAny_standAt (seg_bind_wrap ((W _ hh1).done s _ _ hst fun h' tk kp => ?_)))
    rw [Nat.sub_self]
    exact seg_end (.ok .next) ⟨rfl, rfl, hs.step fun b o _ q e => kp b o q e⟩
  | succ k ih =>
    intro i s0 s m hk1 hi hst hn hs
    have hlt : i < n := by omega
    show Seg _ A _ _ _ s0 _ ((compTurn (gexp iter xa xb pa pb pt p1 p2 p3 pos kt k2 scope) 0 (.ref I) .none cenv).onRaise (leaving cenv)) [] s
    rw [compTurn_gen, Sem.onRaise_eq_wrap]
    refine seg_bind_wrap (wpAny_standAt (seg_bind_wrap ((W _ hh1).item i s _ _ hlt hst fun T vs h1 tk1 hv hT hmid kp1 => ?_)))
    obtain ⟨va, vb, ev⟩ := h2 i hlt
    rw [hv, ev] at hT
    refine seg_bind_wrap ((W _ hh1).go _ _ _ i T _ _ _ hmid fun h2' hst2 kp2 => ?_)
    have hT2 : h2'.IsTuple T #[va, vb] := let ⟨o, e, r⟩ := hT; ⟨o, kp2 _ o ((W _ hh1).apart i T _ hmid) e, r⟩
    refine seg_bind_wrap (wpAny_assign_Tuple hh1 hT2 rfl rfl fun h3 x3 => ?_)
    replace x3 : Heap.ExtBut h2'.objs.size h2' h3 := x3
    have o3 : ∀ b o, h2'.get? b = some o → h3.get? b = some o := fun b o e => x3 b o (Nat.ne_of_lt (Heap.lt_size e)) e
    show wpAny _ _ (do holding [vb] (assign (.Name xa pa) cenv va); do holding [] (assign (.Name xb pb) cenv vb); pure ()) _ _ _
    refine wpAny_bind (wpAny_holding (wpAny_assign_Name (wpAny_storeName_local ha (hn.at' fun o e => o3 _ o (kp2 _ o hCI (kp1 _ o hCI e))) (fun h4 n4 b4 => ?_) hp)))
    replace b4 : Heap.SameBut cenv.locals h3 h4 := b4
    refine wpAny_bind (wpAny_holding (wpAny_assign_Name (wpAny_storeName_local hb n4 (fun h5 n5 b5 => wpAny_pure ?_) hp)))
    replace b5 : Heap.SameBut cenv.locals h4 h5 := b5
    have up : ∀ b o, b ≠ cenv.locals → b ∉ [I] → s.heap.get? b = some o → h5.get? b = some o := fun b o q q2 e => b5.extBut b o q (b4.extBut b o q (o3 b o (kp2 b o q2 (kp1 b o q2 e))))
    have st5 : St (i + 1) h5 := (W A hh).frame _ _ _ hst2 fun b q o e => b5.extBut b o (fun z => hC (z ▸ q)) (b4.extBut b o (fun z => hC (z ▸ q)) (o3 b o e))
    have e0 : n - i = (n - (i + 1)) + 1 := by omega
    rw [e0]
    simp only [List.forIn_nil, pure_bind, if_true]
    have hy : ∀ v, yieldOut cenv v = yieldValue v := fun v => by simp only [yieldOut, hco, Bool.false_eq_true, if_false]
    simp only [hy]
    rw [Sem.bind_eq_wrap', Sem.bind_eq_wrap', Sem.wrap_wrap, Sem.wrap_wrap]
    refine seg_wrap (elt_pair (va := va) (vb := vb) hk ha hb da db n5 (by simp [hab]) (by simp) ?_)
    have keep6 : ∀ b o, h5.get? b = some o → (h5.push (tupO #[va, vb])).get? b = some o := fun b o e => Heap.get?_push_of_some _ e
    have hs5 : ∀ tk, GenSince cenv.locals [I] s0 { s with heap := h5, toks := tk } := fun tk => hs.step up
    have hp0 : h5.get? h5.objs.size = none := by
      cases e : h5.get? h5.objs.size with
      | none => rfl
      | some o => exact absurd (Heap.lt_size e) (Nat.lt_irrefl _)
    refine seg_at (seg_yield rfl rfl rfl ⟨⟨_, rfl, ?_, fresh_of (hs5 0) (let ⟨o, _, _, e, _⟩ := n5; ⟨o, e⟩) (hI _ _ st5) hp0, (let ⟨o, _, _, e, _⟩ := n5; let ⟨o2, e2⟩ := hI _ _ st5; ⟨o, o2, keep6 _ _ e, keep6 _ _ e2⟩)⟩, (hs5 0).step fun b o _ _ e => keep6 b o e, fun t hal => ?_⟩)
    · have e1 : n - 1 - (n - (i + 1)) = i := by omega
      rw [e1, ev]
      exact Heap.get?_push_size _ rfl
    · exact seg_again rfl (ih (i + 1) t t _ (by omega) hlt ((W A hh).frame _ _ _ st5 fun b q o e => hal b (List.mem_cons_of_mem _ q) o (keep6 b o e)) ((n5.keeps keep6).at' fun o e => hal _ (List.mem_cons_self ..) o e) (GenSince.refl _ _ _))
/-- the generator's code from its start -/
theorem start (hh : A.handled = none) (W : ∀ A' : Around, A'.handled = none → WalksU prog w A' I fp [I] n (fun j v => v = vals j) St Mid) (h2 : ∀ i, i < n → ∃ va vb, vals i = #[va, vb]) (hab : xa ≠ xb)
    (ha : cenv.kindOf xa = some .local) (hb : cenv.kindOf xb = some .local) (hk : cenv.scope.kind = .function) (hp : (cenv.scope.kind == .class || (cenv.scope.kind == .module && cenv.locals != cenv.globals)) = false) (hco : cenv.scope.isCoroutine = false) (hC : cenv.locals ∉ fp)
    (da : (xa == ("__debug__" : Str)) = false) (db : (xb == ("__debug__" : Str)) = false) (hI : ∀ i h, St i h → ∃ o, h.get? I = some o) {s : Shared} {m : Str → Option Value} (hst : St 0 s.heap) (hn : s.heap.Ns cenv.locals m) :
    Seg (model prog w) A (RP cenv.locals I) (YP cenv.locals I fp n vals) n s (.compStart (gexp iter xa xb pa pb pt p1 p2 p3 pos kt k2 scope) 0 (.ref I) .none cenv)
      ((model prog w).den (.compStart (gexp iter xa xb pa pb pt p1 p2 p3 pos kt k2 scope) 0 (.ref I) .none cenv)) [] s := by
  have hh1 : (A.over (.compStart (gexp iter xa xb pa pb pt p1 p2 p3 pos kt k2 scope) 0 (.ref I) .none cenv) []).handled = none := hh
  have lp := loop (iter := iter) (pa := pa) (pb := pb) (pt := pt) (p1 := p1) (p2 := p2) (p3 := p3) (pos := pos) (kt := kt) (k2 := k2) (scope := scope) hh W h2 hab ha hb hk hp hco hC da db hI n 0 s s m rfl (Nat.zero_le _) hst hn (GenSince.refl _ _ _)
  show Seg _ A _ _ _ s _ ((compStart (gexp iter xa xb pa pb pt p1 p2 p3 pos kt k2 scope) 0 (.ref I) .none cenv).onRaise (leaving cenv)) [] s
  unfold compStart
  rw [Sem.onRaise_eq_wrap]
  show Seg _ A _ _ _ s _ ((ask >>= _).wrap _ _ _ _) [] s
  refine seg_bind_wrap (wpAny_askSetting ?_)
  split
  · exact seg_again rfl lp
  · first
      | exact seg_bind_wrap (wpAny_rule (seg_bind_wrap (wpAny_standAt (seg_bind_wrap ((W _ hh1).self 0 s _ _ hst (seg_again rfl lp))))))
      | (refine seg_bind_wrap (wpAny_rule ?_); show Seg _ A _ _ _ s _ ((standAt iter.pos >>= _).wrap _ _ _ _) [] s; exact seg_bind_wrap (wpAny_standAt (seg_bind_wrap ((W _ hh1).self 0 s _ _ hst (seg_again rfl lp)))))
end
/-! ### drawn to its end -/
/-- the generator a (number g) before its turn j -/
def At (prog : Program) (w : World) (A : Around) (a : Addr) (g : Nat) (C I : Addr) (fp : List Addr) (n : Nat) (vals : Nat → Array Value) (j : Nat) (s : Shared) : Prop :=
  s.heap.IsGen a g ∧ s.heap.NoLimit ∧ ∃ gs, s.gens[g]? = some gs ∧ ∀ t : Shared, (∀ b ∈ C :: fp, ∀ o, s.heap.get? b = some o → t.heap.get? b = some o) → gs.Goes (model prog w) A.in1 (RP C I) (YP C I fp n vals) (n - j) (.send .none) t
/-- what has been drawn so far: pairs, each at its own place, beside what turns -/
structure Drawn (wr : List Addr) (vals : Nat → Array Value) (s0 : Shared) (acc : Array Value) (i : Nat) (h : Heap) : Prop where
  size : acc.size = i
  item : ∀ j, j < i → ∃ p, acc[j]? = some (.ref p) ∧ h.get? p = some (tupO (vals j)) ∧ p ∉ wr ∧ s0.heap.get? p = none
  apart : ∀ (j k p : Nat), j < k → k < i → acc[j]? = some (.ref p) → acc[k]? ≠ some (.ref p)
theorem Drawn.keep {wr : List Addr} {vals : Nat → Array Value} {s0 : Shared} {acc : Array Value} {i : Nat} {h h' : Heap} (d : Drawn wr vals s0 acc i h) (k : ∀ b o, b ∉ wr → h.get? b = some o → h'.get? b = some o) : Drawn wr vals s0 acc i h' :=
  ⟨d.size, fun j hj => let ⟨p, e1, e2, e3, e4⟩ := d.item j hj; ⟨p, e1, k _ _ e3 e2, e3, e4⟩, d.apart⟩
theorem Drawn.push {wr : List Addr} {vals : Nat → Array Value} {s0 : Shared} {acc : Array Value} {i p : Nat} {h h' : Heap} (d : Drawn wr vals s0 acc i h) (k : ∀ b o, b ∉ wr → h.get? b = some o → h'.get? b = some o) (e : h'.get? p = some (tupO (vals i))) (hw : p ∉ wr) (h0 : s0.heap.get? p = none)
    (hf : h.get? p = none) : Drawn wr vals s0 (acc.push (.ref p)) (i + 1) h' := by
  refine ⟨by rw [Array.size_push, d.size], fun j hj => ?_, fun j l q hjl hl ej el => ?_⟩
  · by_cases q : j = i
    · subst q
      exact ⟨p, by rw [Array.getElem?_push, if_pos d.size.symm], e, hw, h0⟩
    · obtain ⟨r, e1, e2, e3, e4⟩ := d.item j (by omega)
      exact ⟨r, by rw [Array.getElem?_push, if_neg (by rw [d.size]; exact q)]; exact e1, k _ _ e3 e2, e3, e4⟩
  · have hj : j < i := by omega
    rw [Array.getElem?_push, if_neg (by rw [d.size]; omega)] at ej
    obtain ⟨r, e1, e2, _⟩ := d.item j hj
    rw [e1] at ej
    have er : r = q := by injection ej with z; injection z
    by_cases ql : l = i
    · rw [Array.getElem?_push, if_pos (by rw [d.size, ql])] at el
      have ep : p = q := by injection el with z; injection z
      rw [er, ← ep, hf] at e2
      cases e2
    · rw [Array.getElem?_push, if_neg (by rw [d.size]; exact ql)] at el
      exact d.apart j l q hjl (by omega) (by rw [e1, er]) el
section
variable {prog : Program} {w : World} {A : Around} {R : Result → Shared → Prop} {a C I S : Addr} {g : Nat} {fp : List Addr} {n : Nat} {vals : Nat → Array Value}
theorem At.stay {A : Around} {j : Nat} {s : Shared} {h' : Heap} {tk : Nat} (st : At prog w A a g C I fp n vals j s) (hcs : cStatics ∈ fp) (k : ∀ b ∈ a :: C :: fp, ∀ o, s.heap.get? b = some o → h'.get? b = some o) : At prog w A a g C I fp n vals j { s with heap := h', toks := tk } :=
  ⟨let ⟨o, nm, qn, ho, r⟩ := st.1; ⟨o, nm, qn, k a (List.mem_cons_self ..) o ho, r⟩,
   (let ⟨mc, hns, hnn⟩ := st.2.1; ⟨mc, hns.at' fun o e => k cStatics (List.mem_cons_of_mem _ (List.mem_cons_of_mem _ hcs)) o e, hnn⟩),
   let ⟨gs, hgs, hgo⟩ := st.2.2; ⟨gs, hgs, fun t hal => hgo t fun b hb o e => hal b hb o (k b (List.mem_cons_of_mem _ hb) o e)⟩⟩
/-- one turn -/
theorem item {E : Value → Shared → Prop} {Q : Option Value → Shared → Prop} (hh : A.handled = none) (hroom : A.depth < recursionLimit) (hcs : cStatics ∈ fp) (hIf : I ∈ fp) (haC : a ≠ C) (haI : a ≠ I) (hcC : cStatics ≠ C) (hcI : cStatics ≠ I)
    {j : Nat} {s : Shared} (hj : j < n) (st : At prog w A a g C I fp n vals j s)
    (hQ : ∀ p s', s'.heap.get? p = some (tupO (vals j)) → s.heap.get? p = none → (∃ oC oI, s'.heap.get? C = some oC ∧ s'.heap.get? I = some oI) → At prog w A a g C I fp n vals (j + 1) s' → Moved [C, I] (GenOnlyQ g) s s' → Q (some (.ref p)) s') : wpAny (model prog w) A (pyNext (.ref a)) Q E s := by
  obtain ⟨hg, hl, gs, hgs, hgo⟩ := st
  obtain ⟨m, hm⟩ : ∃ m, n - j = m + 1 := ⟨n - j - 1, by omega⟩
  rw [hm] at hgo
  refine wpAny_with_toks (Nat.le_refl s.toks) ?_
  refine wpAny_pyNext_genexpQ (P := fun n s0 s1 => n = 0 ∧ GenSince C [I] s0 s1) hh hl hroom hg hgs (hgo _ fun _ _ _ e => e) (fun v s1 gs' hb hv => ?_) (fun s1 hp h' hk => absurd hp.1 (Nat.succ_ne_zero m))
  obtain ⟨⟨p, rfl, hp1, hp2, hp3⟩, ⟨h1, tk1, rfl, hk1⟩, hkap⟩ := hv
  have ej : n - 1 - (m + 1 - 1) = j := by omega
  rw [ej] at hp1
  intro htk
  refine hQ p _ hp1 hp2 hp3 ⟨let ⟨o, nm, qn, ho, r⟩ := hg; ⟨o, nm, qn, hk1 a o haC (by simp [haI]) ho, r⟩, (let ⟨mc, hns, hnn⟩ := hl; ⟨mc, hns.at' fun o e => hk1 cStatics o hcC (by simp [hcI]) e, hnn⟩), gs', setGen_self (gs := .running) (setGen_self hgs), fun t hal => ?_⟩
    ⟨fun b o hb e => hk1 b o (fun z => hb (by simp [z])) (fun z => hb (by simp at z; simp [z])) e, GenOnlyQ.of ((GenOnly.setGen s g .running).trans (GenOnly.setGen _ g gs')) (setGen_self (gs := .running) (setGen_self hgs)) hb, rfl, rfl, htk⟩
  have e : n - (j + 1) = m := by omega
  rw [e]
  exact hkap t hal
/-- its end -/
theorem done {E : Value → Shared → Prop} {Q : Option Value → Shared → Prop} (hh : A.handled = none) (hroom : A.depth < recursionLimit) {s : Shared} (st : At prog w A a g C I fp n vals n s)
    (hQ : ∀ s', Moved [C, I] (GenOnlyQ g) s s' → Q none s') : wpAny (model prog w) A (pyNext (.ref a)) Q E s := by
  obtain ⟨hg, hl, gs, hgs, hgo⟩ := st
  rw [Nat.sub_self] at hgo
  refine wpAny_with_toks (Nat.le_refl s.toks) ?_
  refine wpAny_pyNext_genexpQ (P := fun n s0 s1 => n = 0 ∧ GenSince C [I] s0 s1) hh hl hroom hg hgs (hgo _ fun _ _ _ e => e) (fun v s1 gs' hb hv => ?_) (fun s1 hp h' hk => ?_)
  · obtain ⟨_, _, hkap⟩ := hv
    exact False.elim (hkap s1 fun _ _ _ e => e)
  · obtain ⟨_, h1, tk1, rfl, hk1⟩ := hp
    intro htk
    exact hQ _ ⟨fun b o hb e => hk b o (hk1 b o (fun z => hb (by simp [z])) (fun z => hb (by simp at z; simp [z])) e), GenOnlyQ.of ((GenOnly.setGen s g .running).trans (GenOnly.setGen _ g .finished)) (setGen_self (gs := .running) (setGen_self hgs)) rfl, rfl, rfl, htk⟩
abbrev lsO (acc : Array Value) (c : Nat) : Obj := { cls := .type "list", dict := none, data := .seq acc c, slots := #[] }
/-- the places that the loop leaves alone -/
structure Sep (a C I S : Addr) (fp : List Addr) : Prop where
  cs : cStatics ∈ fp
  If : I ∈ fp
  aC : a ≠ C
  aI : a ≠ I
  cC : cStatics ≠ C
  cI : cStatics ≠ I
  Sa : S ≠ a
  SC : S ≠ C
  Sf : S ∉ fp
/-- the loop behind list.extend, over it -/
theorem extend (hh : A.handled = none) (hroom : A.depth < recursionLimit) (Z : Sep a C I S fp) (hn : n ≤ sizeLine) (res : Value) {s0 : Shared} :
    ∀ (k i : Nat) (s : Shared) (acc : Array Value) (c : Nat), n - i = k → i ≤ n → At prog w A.in1 a g C I fp n vals i s → s.heap.get? S = some (lsO acc c) → Drawn [S, C, I] vals s0 acc i s.heap → Moved [S, C, I] (GenOnlyQ g) s0 s →
    (∃ oC oI, s.heap.get? C = some oC ∧ s.heap.get? I = some oI) →
    (∀ s' acc' c', Moved [S, C, I] (GenOnlyQ g) s0 s' → s'.heap.get? S = some (lsO acc' c') → Drawn [S, C, I] vals s0 acc' n s'.heap → R (.ok (.ret res)) s') →
    codeAny (model prog w) A (.builtin "list.extend.loop" ⟨[.ref S, .ref a, res], []⟩) R s := by
  have sub : ∀ b ∈ [C, I], b ∈ [S, C, I] := fun b hb => List.mem_cons_of_mem _ hb
  have hSI : S ≠ I := fun z => Z.Sf (z ▸ Z.If)
  have hSw : S ∉ [C, I] := by simp [Z.SC, hSI]
  intro k
  induction k with
  | zero =>
    intro i s acc c hk hi st hS hd hm hCI hR
    obtain rfl : i = n := by omega
    refine codeAny_builtin F.entry_extend_loop ?_
    rw [Around.under_plainId F.plain_extend_loop _]
    show wpAny _ A.in1 (pyNext (.ref a) >>= _) _ _ s
    refine wpAny_bind (done (A := A.in1) hh hroom st fun s' hm' => ?_)
    refine wpAny_pure (hR s' acc c (Moved.trans (fun _ _ _ x y => x.trans y) hm (hm'.mono sub)) (hm'.heap S _ hSw hS) (hd.keep fun b o hb e => hm'.heap b o (fun z => hb (sub b z)) e))
  | succ k ih =>
    intro i s acc c hk hi st hS hd hm hCI hR
    have hlt : i < n := by omega
    refine codeAny_builtin F.entry_extend_loop ?_
    rw [Around.under_plainId F.plain_extend_loop _]
    show wpAny _ A.in1 (pyNext (.ref a) >>= _) _ _ s
    refine wpAny_bind (item (A := A.in1) hh hroom Z.cs Z.If Z.aC Z.aI Z.cC Z.cI hlt st fun p s' hp hpf hCI' st' hm' => ?_)
    have hS' := hm'.heap S _ hSw hS
    have hpS : p ≠ S := fun z => by rw [z, hS] at hpf; cases hpf
    have hpC : p ≠ C := fun z => by obtain ⟨o, _, e, _⟩ := hCI; rw [z, e] at hpf; cases hpf
    have hpI : p ≠ I := fun z => by obtain ⟨_, o, _, e⟩ := hCI; rw [z, e] at hpf; cases hpf
    have hp0 : s0.heap.get? p = none := by
      cases e : s0.heap.get? p with
      | none => rfl
      | some o =>
        have := hm.heap p o (by simp [hpS, hpC, hpI]) e
        rw [this] at hpf
        cases hpf
    show wpAny _ A.in1 (updateSeq S (·.push (.ref p)) >>= _) _ _ _
    refine wpAny_bind ?_
    have oth : ∀ b o, b ≠ S → s'.heap.get? b = some o → (s'.heap.update S (Obj.mapSeq (·.push (.ref p)))).get? b = some o := fun b o hb e => (Heap.get?_update_other _ _ (Ne.symm hb)).trans e
    refine wpAny_updateSeq hS' rfl (wpAny_pure ⟨plainId_quiet F.plain_extend_loop _, ?_⟩) (by rw [hd.size]; omega) (by show (acc.push _).size ≤ sizeLine + 1; rw [Array.size_push, hd.size]; omega)
    have hk1 : ∀ b o, b ∉ [S, C, I] → s.heap.get? b = some o → (s'.heap.update S (Obj.mapSeq (·.push (.ref p)))).get? b = some o := fun b o hb e => oth b o (fun z => hb (by simp [z])) (hm'.heap b o (fun z => hb (sub b z)) e)
    refine ih (i + 1) { s' with heap := s'.heap.update S (Obj.mapSeq (·.push (.ref p))) } (acc.push (.ref p)) _ (by omega) hlt (st'.stay (tk := s'.toks) Z.cs fun b hb o e => oth b o (fun z => ?_) e) (Heap.get?_update_self _ hS' rfl)
      (hd.push hk1 (oth p _ hpS hp) (by simp [hpS, hpC, hpI]) hp0 hpf) ?_ ?_ hR
    · rcases List.mem_cons.mp hb with q | q
      · exact Z.Sa (z.symm.trans q)
      · rcases List.mem_cons.mp q with q | q
        · exact Z.SC (z.symm.trans q)
        · exact Z.Sf (z ▸ q)
    · exact Moved.trans (fun _ _ _ x y => x.trans y) hm ((hm'.mono sub).then_heap (Nat.le_refl _) fun b o hb e => oth b o (fun z => hb (by simp [z])) e)
    · obtain ⟨oC, oI, e1, e2⟩ := hCI'
      exact ⟨oC, oI, oth _ _ (Ne.symm Z.SC) e1, oth _ _ (Ne.symm hSI) e2⟩
end
section
variable {prog : Program} {w : World} {A : Around} {E : Value → Shared → Prop} {a C I : Addr} {g : Nat} {fp : List Addr} {n : Nat} {vals : Nat → Array Value} {s : Shared}
/-- collected into a list -/
theorem collected {Q : List Value → Shared → Prop} (hh : A.handled = none) (hroom : A.depth < recursionLimit) (hcs : cStatics ∈ fp) (hIf : I ∈ fp) (haC : a ≠ C) (haI : a ≠ I) (hcC : cStatics ≠ C) (hcI : cStatics ≠ I) (hn : n ≤ sizeLine)
    (st : At prog w A.in1 a g C I fp n vals 0 s) (hlt : ∀ b ∈ a :: C :: fp, b < s.heap.objs.size) (hCI : ∃ oC oI, s.heap.get? C = some oC ∧ s.heap.get? I = some oI)
    (hQ : ∀ S s' acc, s.heap.objs.size ≤ S → Moved [S, C, I] (GenOnlyQ g) s s' → Drawn [S, C, I] vals s acc n s'.heap → Q acc.toList s') : wpAny (model prog w) A (collect (.ref a)) Q E s := by
  have Z : Sep a C I s.heap.objs.size fp := ⟨hcs, hIf, haC, haI, hcC, hcI, Nat.ne_of_gt (hlt a (by simp)), Nat.ne_of_gt (hlt C (by simp)), fun z => Nat.lt_irrefl _ (hlt _ (by simp [z]))⟩
  have gT : ∀ {s1 : Shared}, (∀ b o, s.heap.get? b = some o → s1.heap.get? b = some o) → s1.TypeIs (.ref a) "generator" := fun {s1} k => Heap.IsGen.typeIs (let ⟨o, nm, qn, ho, r⟩ := st.1; ⟨o, nm, qn, k a o ho, r⟩)
  have gI : ∀ {s1 : Shared}, (∀ b o, s.heap.get? b = some o → s1.heap.get? b = some o) → s1.heap.IsGen a g := fun {s1} k => (let ⟨o, nm, qn, ho, r⟩ := st.1; ⟨o, nm, qn, k a o ho, r⟩)
  have k1 : ∀ b o, s.heap.get? b = some o → (s.heap.push { cls := .type "list", data := .seq ([] : List Value).toArray }).get? b = some o := fun b o e => Heap.get?_push_of_some _ e
  unfold collect
  refine wpAny_bind (wpAny_runValue (codeAny_builtin F.entry_proto_collect ?_))
  rw [Around.under_plainId F.plain_proto_collect _]
  show wpAny _ A.in1 (newList [] >>= fun l => again (.builtin "list.__iadd__" ⟨[l, .ref a], []⟩)) _ _ s
  refine wpAny_bind (wpAny_newObj_type ?_)
  refine wpAny_pure ⟨plainId_quiet F.plain_list_iadd _, codeAny_builtin F.entry_list_iadd ?_⟩
  rw [Around.under_plainId F.plain_list_iadd _]
  show wpAny _ A.in1 (Builtin.List.listExtendWith (.ref s.heap.objs.size) (.ref a) (.ref s.heap.objs.size)) _ _ _
  unfold Builtin.List.listExtendWith
  refine wpAny_bind (wpAny_typeOf (gT k1) ?_)
  have e1 : Builtin.List.listSameRef (.ref s.heap.objs.size) (.ref a) = false := by simp [Builtin.List.listSameRef, Z.Sa]
  have e2 : (Value.type "generator" == Value.type "list") = false := by decide
  have e3 : (Value.type "generator" == Value.type "tuple") = false := by decide
  simp only [e1, e2, e3, Bool.or_false, Bool.false_eq_true, if_false]
  refine wpAny_bind (wpAny_pyIter_gen (gI k1) ?_)
  refine wpAny_bind (wpAny_holding ?_)
  unfold Builtin.List.listLengthHint
  refine wpAny_bind (wpAny_specialOf (gT k1) F.gen_no_len ?_)
  show wpAny _ A.in1 (specialOf (Value.ref a) (Str.ofString "__length_hint__") >>= _) _ _ _
  refine wpAny_bind (wpAny_specialOf (gT k1) F.gen_no_hint ?_)
  refine wpAny_pure ?_
  show wpAny _ A.in1 (rule "list.extend.makes-room" >>= fun _ => Builtin.List.listTouch (.ref s.heap.objs.size) >>= fun _ =>
    again (.builtin "list.extend.loop" ⟨[.ref s.heap.objs.size, .ref a, .ref s.heap.objs.size], []⟩)) _ _ _
  refine wpAny_bind (wpAny_rule ?_)
  have hS1 : (s.heap.push { cls := .type "list", data := .seq ([] : List Value).toArray }).get? s.heap.objs.size = some { cls := .type "list", data := .seq ([] : List Value).toArray } := Heap.get?_push_size _ rfl
  refine wpAny_bind ?_
  show wpAny _ A.in1 (updateSeq s.heap.objs.size (·.push .none) >>= fun _ => updateSeq s.heap.objs.size (·.pop)) _ _ _
  refine wpAny_bind (wpAny_updateSeq hS1 rfl ?_)
  have hS2 := Heap.get?_update_self (Obj.mapSeq (·.push Value.none)) hS1 rfl
  refine wpAny_updateSeq hS2 rfl ?_
  have hS3 := Heap.get?_update_self (Obj.mapSeq (·.pop)) hS2 rfl
  have oth : ∀ b o, b ≠ s.heap.objs.size → s.heap.get? b = some o →
      (((s.heap.push { cls := .type "list", data := .seq ([] : List Value).toArray }).update s.heap.objs.size (Obj.mapSeq (·.push Value.none))).update s.heap.objs.size (Obj.mapSeq (·.pop))).get? b = some o :=
    fun b o hb e => (Heap.get?_update_other _ _ (Ne.symm hb)).trans ((Heap.get?_update_other _ _ (Ne.symm hb)).trans (k1 b o e))
  have old : ∀ b o, s.heap.get? b = some o → (((s.heap.push { cls := .type "list", data := .seq ([] : List Value).toArray }).update s.heap.objs.size (Obj.mapSeq (·.push Value.none))).update s.heap.objs.size (Obj.mapSeq (·.pop))).get? b = some o :=
    fun b o e => oth b o (Nat.ne_of_lt (Heap.lt_size e)) e
  obtain ⟨oC, oI, eC, eI⟩ := hCI
  refine wpAny_pure ⟨plainId_quiet F.plain_extend_loop _, extend (s0 := s) hh hroom Z hn _ n 0 _ _ _ rfl (Nat.zero_le _) (st.stay (tk := s.toks) hcs fun b hb o e => old b o e) hS3
    ⟨rfl, fun j hj => absurd hj (Nat.not_lt_zero _), fun j k p _ hk _ => absurd hk (Nat.not_lt_zero _)⟩ ((Moved.refl fun _ => .inl rfl).then_heap (Nat.le_refl _) fun b o _ e => old b o e) ⟨oC, oI, old _ _ eC, old _ _ eI⟩ fun s' acc' c' hm hS' hd => ?_⟩
  show wpAny _ A (load s.heap.objs.size >>= _) _ _ s'
  refine wpAny_bind (wpAny_load hS' ?_)
  exact wpAny_pure (hQ _ s' acc' (Nat.le_refl _) hm hd)
theorem code_tup {Q : Value → Shared → Prop} (hh : A.handled = none) (hroom : A.depth < recursionLimit) (hcs : cStatics ∈ fp) (hIf : I ∈ fp) (haC : a ≠ C) (haI : a ≠ I) (hcC : cStatics ≠ C) (hcI : cStatics ≠ I) (hn : n ≤ sizeLine)
    (st : At prog w A.in1.in1 a g C I fp n vals 0 s) (hlt : ∀ b ∈ a :: C :: fp, b < s.heap.objs.size) (hCI : ∃ oC oI, s.heap.get? C = some oC ∧ s.heap.get? I = some oI)
    (hQ : ∀ S s' acc, s.heap.objs.size ≤ S → Moved [S, C, I] (GenOnlyQ g) s s' → Drawn [S, C, I] vals s acc n s'.heap → Q (.ref s'.heap.objs.size) { s' with heap := s'.heap.push (tupO acc) }) :
    codeAny (model prog w) A (.call (.builtin "tuple.__new__") ⟨[.type "tuple", .ref a], []⟩) (wants Q E) s := by
  refine codeAny_of_tree ?_
  show wpAny _ A.in1 (do checkBuiltinCall "tuple.__new__" ⟨[.type "tuple", .ref a], []⟩; again (.builtin "tuple.__new__" ⟨[.type "tuple", .ref a], []⟩)) _ _ s
  refine wpAny_bind (wpAny_of_eq (F.newCall_tuple_1 _) (wpAny_pure ⟨plainId_quiet F.plain_tuple_new _, codeAny_builtin F.entry_tuple_new ?_⟩))
  rw [Around.under_plainId F.plain_tuple_new _]
  have hsub := sub_tuple_self
  have hinit := init_tuple_lookup
  have hmh := madeHere_tuple
  have hTI : s.TypeIs (.ref a) "generator" := Heap.IsGen.typeIs st.1
  wp_walk using wpAny_typeOf hTI, collected (A := A.in1) hh hroom hcs hIf haC haI hcC hcI hn st hlt hCI
  intro S s' acc hS hm hd
  show wpAny _ _ (Builtin.Tuple.tupleExact acc.toList.toArray >>= fun v => ret v) _ _ _
  unfold Builtin.Tuple.tupleExact
  refine wpAny_bind (wpAny_newObj_type ?_ (by show acc.toList.toArray.size ≤ sizeLine; simp only [Array.toArray_toList]; rw [hd.size]; exact hn))
  refine wpAny_pure ?_
  have e : acc.toList.toArray = acc := by simp
  rw [e]
  exact hQ S s' acc hS hm hd
/-- tuple(g) -/
theorem call_tup {Q : Value → Shared → Prop} (hh : A.handled = none) (hroom : A.depth < recursionLimit) (hcs : cStatics ∈ fp) (hIf : I ∈ fp) (haC : a ≠ C) (haI : a ≠ I) (hcC : cStatics ≠ C) (hcI : cStatics ≠ I) (hn : n ≤ sizeLine)
    (st : At prog w A.in1.in1.in1 a g C I fp n vals 0 s) (hlt : ∀ b ∈ a :: C :: fp, b < s.heap.objs.size) (hCI : ∃ oC oI, s.heap.get? C = some oC ∧ s.heap.get? I = some oI)
    (hQ : ∀ S s' acc, s.heap.objs.size ≤ S → Moved [S, C, I] (GenOnlyQ g) s s' → Drawn [S, C, I] vals s acc n s'.heap → Q (.ref s'.heap.objs.size) { s' with heap := s'.heap.push (tupO acc) }) :
    wpAny (model prog w) A (call (.type "tuple") [.ref a]) Q E s :=
  callType_codes (Q₁ := fun obj s1 => s1.TypeIs obj "tuple" ∧ Q obj s1) F.called_tuple (F.typeCall_tuple_1 _) F.entry_object_init
    (code_tup (A := A.in1) hh hroom hcs hIf haC haI hcC hcI hn st hlt hCI fun S s' acc hS hm hd => ⟨⟨_, Heap.get?_push_size _ rfl, rfl⟩, hQ S s' acc hS hm hd⟩) fun obj s1 h1 =>
    ⟨h1.1, F.args_object_init_2 obj _, object_init_meets F.called_tuple.init.lookup F.called_tuple.made (by decide) prog w A.in1 _ s1 ⟨h1.1, rfl, h1.2⟩⟩
end
end TG
namespace My
open PySem PySem.Spec PyProof.Rows L2
/-- pairs -/
inductive PrV (K : PySem.W.Frag) (H : Hp) : List V → List (V × V) → Prop
  | nil : PrV K H [] []
  | cons {p : Addr} {x y : V} {vs : List V} {rs : List (V × V)} : SqT K H p [x, y] → PrV K H vs rs → PrV K H (.ref p :: vs) ((x, y) :: rs)
theorem PrV.len {K : PySem.W.Frag} {H : Hp} : ∀ {vs : List V} {rs : List (V × V)}, PrV K H vs rs → vs.length = rs.length
  | _, _, .nil => rfl
  | _, _, .cons _ r => congrArg (· + 1) r.len
end My
namespace TG
open PySem PySem.Spec PyProof.Rows L2 My
theorem okThere {P : Program} {w : World} {H : Hp} {h : Heap} {a : Addr} {o : HO} (x : ObjOk P w H h a o) : ∃ ob, h.get? a = some ob := by
  cases o with
  | lst xs => obtain ⟨_, _, _, _, e⟩ := x; exact ⟨_, e⟩
  | tup xs => obtain ⟨_, _, _, ob, e, _⟩ := x; exact ⟨_, e⟩
  | dK kvs => obtain ⟨_, _, _, _, o, _, _, e, _⟩ := x; exact ⟨_, e⟩
  | dT kvs => obtain ⟨_, _, _, _, o, _, _, e, _⟩ := x; exact ⟨_, e⟩
  | set S n => obtain ⟨o, _, _, _, e, _⟩ := x; exact ⟨_, e⟩
  | ins C dx fs => obtain ⟨_, _, _, e, _⟩ := x; exact ⟨_, e⟩
  | own y => exact x
  | xd fs => obtain ⟨_, ⟨_, _, _, e, _⟩, _⟩ := x; exact ⟨_, e⟩
  | rng lo hi => obtain ⟨_, _, _, e⟩ := x; exact ⟨_, e⟩
  | frz ob u => obtain ⟨e, _⟩ := x; exact ⟨_, e⟩
  | tbl ps => exact ⟨_, (show h.get? a = some _ from x)⟩
  | met f y => exact ⟨_, (show h.get? a = some _ from x)⟩
  | ext φ => obtain ⟨_, h1, _⟩ := x; exact h1
/-- many new tuples at once -/
def adds (L : List (Addr × List V)) (H : Hp) : Hp := fun b => match L.find? fun p => decide (p.1 = b) with
  | some p => some (.tup p.2)
  | none => H b
theorem adds_out {L : List (Addr × List V)} {H : Hp} {b : Addr} (h : ∀ p ∈ L, p.1 ≠ b) : adds L H b = H b := by
  unfold adds
  rw [List.find?_eq_none.mpr fun p hp => by simp [h p hp]]
theorem adds_in {L : List (Addr × List V)} {H : Hp} {b : Addr} {o : HO} (e : adds L H b = some o) : (∃ p ∈ L, p.1 = b ∧ o = .tup p.2) ∨ ((∀ p ∈ L, p.1 ≠ b) ∧ H b = some o) := by
  unfold adds at e
  cases q : L.find? fun p => decide (p.1 = b) with
  | none =>
    rw [q] at e
    exact .inr ⟨fun p hp z => by simpa [z] using List.find?_eq_none.mp q p hp, e⟩
  | some p =>
    rw [q] at e
    exact .inl ⟨p, List.mem_of_find?_eq_some q, by simpa using List.find?_some q, (Option.some.inj e).symm⟩
theorem adds_at {L : List (Addr × List V)} {H : Hp} (hn : ∀ p ∈ L, ∀ q ∈ L, p.1 = q.1 → p = q) {p : Addr × List V} (hp : p ∈ L) : adds L H p.1 = some (.tup p.2) := by
  unfold adds
  cases q : L.find? fun r => decide (r.1 = p.1) with
  | none => exact absurd (List.find?_eq_none.mp q p hp) (by simp)
  | some r =>
    have e := hn r (List.mem_of_find?_eq_some q) p hp (by simpa using List.find?_some q)
    rw [e]
section
variable {X : Cx} {pins : List (Addr × Obj)} {σ : L2.St} {H : Hp} {s : Shared}
/-- the table has grown, tuples have been laid -/
theorem inv_adds {P : Addr} {ps more : Array Value} {s' : Shared} {L : List (Addr × List V)} (I : Inv X pins σ H s) (hP : H P = some (.tbl ps)) (os : s'.os = s.os) (k : ∀ b o, b ≠ P → s.heap.get? b = some o → s'.heap.get? b = some o)
    (hm : s'.heap.get? P = some { cls := .none, data := .fields (ps ++ more) }) (hg : AllBare s'.gens) (hn : ∀ p ∈ L, ∀ q ∈ L, p.1 = q.1 → p = q) (h0 : ∀ p ∈ L, s.heap.get? p.1 = none)
    (ok : ∀ p ∈ L, p.2.length ≤ sizeLine ∧ ∃ its : List Value, Vals p.2 its ∧ IsTup s'.heap p.1 its.toArray) : Inv X pins σ (adds L (upd H P (.tbl (ps ++ more)))) s' := by
  have J := GxR.inv_tab (more := more) (h' := s'.heap) (g' := s'.gens) (d' := s'.drawn) (t' := s'.toks) I hP k hm hg
  rw [GxR.sh_eta s s' os] at J
  have hout : ∀ b u, s.heap.get? b = some u → ∀ p ∈ L, p.1 ≠ b := fun b u e p hp z => by
    have := h0 p hp
    rw [z, e] at this
    cases this
  have out2 : ∀ b o, H b = some o → ∀ p ∈ L, p.1 ≠ b := fun b o e => by
    obtain ⟨u, eu⟩ := okThere (I.hok b o e)
    exact hout b u eu
  have hPo : ∀ p ∈ L, p.1 ≠ P := out2 P _ hP
  have nP : ∀ b u, H b = some u → (∀ q, u ≠ .tbl q) → b ≠ P := fun b u e q z => by
    rw [z, hP] at e
    exact q ps (Option.some.inj e).symm
  have nN : ∀ b, H b = none → b ≠ P := fun b e z => by
    rw [z, hP] at e
    cases e
  refine I.call' (ch := []) os ⟨fun b o e n _ _ => k b o (nN b n) e, fun b o e n _ _ => ⟨o.slots, k b o (nN b n) e⟩, fun b o e n _ => ?_, fun b o e _ => ?_, fun b xs e => ?_, fun b o u e => ?_, fun b qs e => ?_⟩ (fun b o e => ?_) hg (fun b hb => absurd hb (by simp))
  · rw [adds_out (hout b o e), upd_ne (nN b n)]
    exact n
  · by_cases hb : b = P
    · rw [hb]
      exact ⟨_, hm⟩
    · exact ⟨o, k b o hb e⟩
  · rw [adds_out (out2 b _ e), upd_ne (nP b _ e (fun q z => by cases z))]
    exact e
  · rw [adds_out (out2 b _ e), upd_ne (nP b _ e (fun q z => by cases z))]
    exact e
  · by_cases hb : b = P
    · rw [hb, hP] at e
      cases e
      rw [hb, adds_out hPo, upd_same]
      exact ⟨more, rfl⟩
    · rw [adds_out (out2 b _ e), upd_ne hb, e]
      exact ⟨#[], by simp⟩
  · rcases adds_in e with ⟨p, hp, rfl, rfl⟩ | ⟨hp, e2⟩
    · exact ok p hp
    · have back : ∀ c u, upd H P (.tbl (ps ++ more)) c = some u → adds L (upd H P (.tbl (ps ++ more))) c = some u := fun c u ec => by
        obtain ⟨v, ev⟩ := okThere (J.hok c u ec)
        rw [adds_out]
        · exact ec
        · by_cases hc : c = P
          · rw [hc]
            exact hPo
          · rw [upd_ne hc] at ec
            exact out2 c u ec
      exact (J.hok b o e2).stay (fun _ _ _ q => q) (fun c q => back c _ q) fun c xs q => back c _ q
/-- the list's items, read -/
theorem pairs_read (I : Inv X pins σ H s) : ∀ {vs : List V} {rs : List (V × V)} {its : List Value}, PrV X.K H vs rs → Vals vs its →
    ∃ tvs : List (Addr × Value × Value), tvs.length = rs.length ∧ its = tvs.map (fun t => Value.ref t.1) ∧ ∀ (j : Nat) t, tvs[j]? = some t → s.heap.IsTuple t.1 #[t.2.1, t.2.2] ∧ ∃ r, rs[j]? = some r ∧ RelV r.1 t.2.1 ∧ RelV r.2 t.2.2
  | _, _, _, .nil, .nil => ⟨[], rfl, rfl, fun j t h => by simp at h⟩
  | _, _, _, .cons (p := p) (x := x) (y := y) a r, .cons e v => by
    obtain ⟨tvs, h1, h2, h3⟩ := pairs_read I r v
    obtain ⟨its2, rv, hl, _⟩ := I.tuple a
    obtain ⟨u1, u2, rfl, ri, rj⟩ := vals2 rv
    cases e
    refine ⟨(p, u1, u2) :: tvs, congrArg (· + 1) h1, by rw [h2] <;> rfl, fun j t h => ?_⟩
    cases j with
    | zero =>
      have e := (Option.some.inj (show some _ = some t from h)).symm
      subst e
      exact ⟨hl, (x, y), rfl, ri, rj⟩
    | succ j => exact h3 j t h
end
end TG
namespace TG
open PySem PySem.Spec PyProof.Rows L2 My
/-- the block of a generator expression with two names -/
structure GenS2 (env : Env) (scope : Scope) (xa xb : Str) : Prop where
  kind : scope.kind = .function
  co : scope.isCoroutine = false
  cell : ∀ y ∈ scope.names, y.2 ≠ .cell
  dot : scope.names.lookup (".0" : Str) = some NameKind.local
  la : scope.names.lookup xa = some .local
  lb : scope.names.lookup xb = some .local
  ab : xa ≠ xb
  da : (xa == ("__debug__" : Str)) = false
  db : (xb == ("__debug__" : Str)) = false
  free : ∀ y ∈ scope.names, y.2 = .free → ∃ c, env.cells.lookup y.1 = some c
section
variable {X : Cx} {pins : List (Addr × Obj)} {σ : L2.St} {H : Hp} {s : Shared}
/-- the generator stands ready -/
def Ready (X : Cx) (pins : List (Addr × Obj)) (σ : L2.St) (H1 : Hp) (P : Addr) (rs : List (V × V)) (g : Addr) (s5 : Shared) : Prop :=
  ∃ (num : Nat) (C I : Addr) (fp : List Addr) (vals : Nat → Array Value), At X.prog X.w X.A.in1.in1.in1 g num C I fp rs.length vals 0 s5 ∧ cStatics ∈ fp ∧ I ∈ fp ∧ g ≠ C ∧ g ≠ I ∧ cStatics ≠ C ∧ cStatics ≠ I ∧ (∀ b ∈ g :: C :: fp, b < s5.heap.objs.size) ∧
    (∃ oC oI, s5.heap.get? C = some oC ∧ s5.heap.get? I = some oI) ∧ (∀ j r, rs[j]? = some r → ∃ va vb, vals j = #[va, vb] ∧ RelV r.1 va ∧ RelV r.2 vb) ∧
    ∀ (S : Addr) (s' : Shared) (acc : Array Value), s5.heap.objs.size ≤ S → Moved [S, C, I] (GenOnlyQ num) s5 s' → Drawn [S, C, I] vals s5 acc rs.length s'.heap → rs.length ≤ sizeLine →
      ∃ (ps : List Addr) (H2 : Hp), ps.length = rs.length ∧ H1 s'.heap.objs.size = none ∧ Gr H1 H2 ∧ H2 s'.heap.objs.size = some (.tup (ps.map V.ref)) ∧ PrV X.K H2 (ps.map V.ref) rs ∧ Inv X pins σ H2 { s' with heap := s'.heap.push (tupO acc) }
theorem prv_of {K : PySem.W.Frag} {H : Hp} : ∀ {ps : List Addr} {rs : List (V × V)}, ps.length = rs.length → (∀ (j : Nat) p r, ps[j]? = some p → rs[j]? = some r → H p = some (.tup [r.1, r.2])) → PrV K H (ps.map V.ref) rs
  | [], [], _, _ => .nil
  | p :: ps, r :: rs, hl, h => .cons (.of (h 0 p r rfl rfl)) (prv_of (by simpa using hl) fun j q t e1 e2 => h (j + 1) q t (by simpa using e1) (by simpa using e2))
theorem gr_adds {P : Addr} {ps more : Array Value} {L : List (Addr × List V)} (hP : H P = some (.tbl ps)) (ht : TriplesOk (ps ++ more).toList) (h0 : ∀ p ∈ L, H p.1 = none) : Gr H (adds L (upd H P (.tbl (ps ++ more)))) := by
  have out : ∀ b o, H b = some o → ∀ p ∈ L, p.1 ≠ b := fun b o e p hp z => by
    have := h0 p hp
    rw [z, e] at this
    cases this
  refine ⟨fun b o e n => ?_, fun b t => ?_, fun b o e => ?_⟩
  · rw [adds_out (out b o e), upd_ne]
    · exact e
    · intro z
      rw [z, hP] at e
      exact n ps (Option.some.inj e).symm
  · by_cases hb : b = P
    · subst hb
      exact ⟨ps ++ more, by rw [adds_out (out _ _ hP), upd_same], ht⟩
    · obtain ⟨qs, e, z⟩ := t
      exact ⟨qs, by rw [adds_out (out _ _ e), upd_ne hb]; exact e, z⟩
  · by_cases hb : b = P
    · subst hb
      exact ⟨_, by rw [adds_out (out _ _ hP), upd_same]⟩
    · exact ⟨o, by rw [adds_out (out _ _ e), upd_ne hb]; exact e⟩
theorem gen_prs {c P : Addr} {iter : Expr} {xa xb : Str} {pa pb pt p1 p2 p3 gpos : Pos} {kt k2 : Nat} {scope : Scope} {te : TE} {k : Nat} {Q' : Value → Shared → Prop} {R : List (V × V) → Hp → Prop}
    (hr : Room k X.A) (TB : GxR.TabB X.base X.mg c P) (hcode : X.env.code = .ref c) (S : GenS2 X.env scope xa xb) (hi : PE X iter te)
    (hs : ∀ v, genFold iter X.env v = pure v) (I : Inv X pins σ H s) (h : te σ H fun v H1 => ∃ (yl : Addr) (vs : List V) (rs : List (V × V)), v = .ref yl ∧ SqL X.K H1 yl vs ∧ PrV X.K H1 vs rs ∧ GxR.TabG H1 P ∧ R rs H1)
    (hQ : ∀ rs H1 g s5, R rs H1 → Ready X pins σ H1 P rs g s5 → Q' (.ref g) s5) :
    wpAny (model X.prog X.w) X.A (eval (gexp iter xa xb pa pb pt p1 p2 p3 gpos kt k2 scope) X.env) Q' X.xe s := by
  refine wpAny_GeneratorExp_make S.co (closure_ok S.free) S.cell S.dot S.kind (by have := hr.dp; omega) ?_ hs
  refine thn (hi.run pins s σ H _ I h) fun xv s1 ⟨v, H1, I1, r1, q1⟩ => ?_
  obtain ⟨yl, vs, rs, rfl, hyl, hpr, ⟨ps, hP, ht⟩, q1⟩ := q1
  obtain rfl : xv = Value.ref yl := r1
  obtain ⟨its, rv, hl, hz⟩ := I1.list hyl
  have hIL := hl.isList
  obtain ⟨tvs, hlen, hits, htv⟩ := pairs_read I1 hpr rv
  refine wpAny_pyIter_list hIL ?_
  generalize ho : ({ cls := .type "list_iterator", data := .fields #[.ref yl, .int 0 0] } : Obj) = o
  have hitr : (s1.heap.push o).IsListIter s1.heap.objs.size yl 0 := by
    subst ho
    exact ⟨_, Heap.get?_push_size _ rfl, rfl, rfl⟩
  have hylt : yl < s1.heap.objs.size := by
    obtain ⟨_, e, _⟩ := _root_.id hIL
    exact Heap.lt_size e
  have hPs : s1.heap.get? P = some { cls := .none, data := .fields ps } := I1.hok P _ hP
  have hPlt : P < s1.heap.objs.size := Heap.lt_size hPs
  have hP2 : (s1.heap.push o).get? P = some { cls := .none, data := .fields ps } := Heap.get?_push_of_some _ hPs
  have cd : PySem.W.CodeHd (s1.heap.push o) c P := TB.code.keeps fun b u e => Heap.get?_push_of_some _ (I1.bk b u e)
  have lim2 : (s1.heap.push o).NoLimit := I1.nolimit.push o
  have hhA : X.A.handled = none := hr.hd
  let Ts : Nat → Addr := fun j => (tvs[j]?.map fun t => t.1).getD 0
  let vals : Nat → Array Value := fun j => (tvs[j]?.map fun t => (#[t.2.1, t.2.2] : Array Value)).getD #[]
  have hsz : its.toArray.size = rs.length := by rw [hits, List.size_toArray, List.length_map, hlen]
  have tvAt : ∀ j, j < rs.length → ∃ t, tvs[j]? = some t := fun j hj => ⟨tvs[j]'(by omega), List.getElem?_eq_getElem _⟩
  have hTlt : ∀ j, j < rs.length → Ts j < s1.heap.objs.size := fun j hj => by
    obtain ⟨t, et⟩ := tvAt j hj
    obtain ⟨⟨o', e', _⟩, _⟩ := htv j t et
    show (tvs[j]?.map fun t => t.1).getD 0 < _
    rw [et]
    exact Heap.lt_size e'
  have hTI : ∀ j, j < its.toArray.size → Ts j ≠ s1.heap.objs.size := fun j hj => Nat.ne_of_lt (hTlt j (by omega))
  have hit : ∀ j, j < its.toArray.size → its.toArray[j]? = some (.ref (Ts j)) := fun j hj => by
    obtain ⟨t, et⟩ := tvAt j (by omega)
    show its.toArray[j]? = some (.ref ((tvs[j]?.map fun t => t.1).getD 0))
    rw [et, hits]
    simp [et]
  have cont : ∀ (code : Value) (h3 : Heap) (tk : Nat) (ps' : Array Value), Heap.ExtBut P (s1.heap.push o) h3 → (s1.heap.push o).objs.size ≤ h3.objs.size → h3.get? P = some { cls := .none, data := .fields ps' } → (∃ more, ps' = ps ++ more) → TriplesOk ps'.toList →
      wpAny (model X.prog X.w) X.A (builtinsFor X.env.globals X.env.builtins) (fun bi s4 =>
        ∀ h', h'.Ns s4.heap.objs.size (fun y => if y = ".0" then some (.ref s1.heap.objs.size) else none) → Heap.SameBut s4.heap.objs.size (s4.heap.push { cls := .type "frame", data := .dict #[] }) h' →
          Q' (.ref h'.objs.size) { s4 with
            gens := s4.gens.push (.fresh (.compStart (gexp iter xa xb pa pb pt p1 p2 p3 gpos kt k2 scope) 0 (.ref s1.heap.objs.size) .none (genEnv scope (cloFrom X.env.cells scope.names []) s4.heap.objs.size code bi X.env))),
            toks := s4.toks + 1 + 1 + 1,
            heap := h'.push { cls := .type "generator", data := .fields #[.int s4.gens.size 0, .str "<genexpr>" (s4.toks + 1), .str (X.env.qual ++ "<genexpr>") (s4.toks + 1 + 1)] } }) X.xe { s1 with heap := h3, toks := tk } := by
    intro code h3 tk ps' hx hsz3 hP3 hmore ht3
    obtain ⟨bm, ob, e1, e2, e3, e4, e5, e6, e7, e8⟩ := TB.bm
    have hcP : cStatics ≠ P := fun e => by
      obtain ⟨_, hns, _⟩ := I1.nolimit
      obtain ⟨o', es, ep, ho', hd, _⟩ := hns
      rw [e, hPs] at ho'
      cases ho'
      cases hd
    have hcl : cStatics < s1.heap.objs.size := let ⟨_, hns, _⟩ := I1.nolimit; hns.lt
    have sz2 : (s1.heap.push o).objs.size = s1.heap.objs.size + 1 := Heap.size_push ..
    have keep3 : ∀ b u, b ≠ P → s1.heap.get? b = some u → h3.get? b = some u := fun b u hb e => hx b u hb (Heap.get?_push_of_some _ e)
    refine wpAny_builtinsFor (m := X.mg) (by rw [I1.ok.glob]; exact ((I1.mod.glob.keeps I1.bk).push o).extBut hx TB.gP) e1 e2 (keep3 _ _ e4 (I1.bk _ _ e5)) e6 e7 e8 ?_
    intro h' hn' hs'
    have hylP : yl ≠ P := fun z => by
      obtain ⟨_, e, hc1, _, hd1⟩ := _root_.id hIL
      rw [z, hPs] at e
      cases e
      cases hd1
    have hTP : ∀ j, j < rs.length → Ts j ≠ P := fun j hj z => by
      obtain ⟨t, et⟩ := tvAt j hj
      obtain ⟨⟨o', e', hc, n', hd⟩, _⟩ := htv j t et
      have z2 : t.1 = P := by
        have : (tvs[j]?.map fun t => t.1).getD 0 = P := z
        rw [et] at this
        exact this
      rw [z2, hPs] at e'
      cases e'
      cases hd
    have szh : h'.objs.size = h3.objs.size + 1 := by rw [hs'.1, Heap.size_push]
    have k5 : ∀ b u, h3.get? b = some u → (h'.push { cls := .type "generator", data := .fields #[.int s1.gens.size 0, .str "<genexpr>" (tk + 1), .str (X.env.qual ++ "<genexpr>") (tk + 1 + 1)] }).get? b = some u :=
      fun b u e => Heap.get?_push_of_some _ (hs'.extBut b u (Nat.ne_of_lt (Heap.lt_size e)) (Heap.get?_push_of_some _ e))
    generalize hge : (h'.push { cls := .type "generator", data := .fields #[.int s1.gens.size 0, .str "<genexpr>" (tk + 1), .str (X.env.qual ++ "<genexpr>") (tk + 1 + 1)] }) = h5 at k5
    have sz5 : h5.objs.size = h3.objs.size + 2 := by rw [← hge, Heap.size_push, szh]
    have l0 : s1.heap.objs.size < h3.objs.size := by omega
    have l1 : h3.objs.size < h5.objs.size := by omega
    have l2 : h'.objs.size < h5.objs.size := by omega
    have hgen : h5.IsGen h'.objs.size s1.gens.size := by rw [← hge]; exact ⟨_, _, _, Heap.get?_push_size _ rfl, rfl, rfl, rfl⟩
    have hn5 : h5.Ns h3.objs.size (fun y => if y = ".0" then some (.ref s1.heap.objs.size) else none) := by rw [← hge]; exact hn'.push _
    have W : ∀ A' : Around, A'.handled = none → WalksU X.prog X.w A' s1.heap.objs.size (List.range h3.objs.size) [s1.heap.objs.size] rs.length (fun j v => v = vals j)
        (fun j h => h.IsListIter s1.heap.objs.size yl j ∧ h.IsList yl its.toArray ∧ ∀ k, k < rs.length → h.IsTuple (Ts k) (vals k))
        (fun j T h => (j < rs.length ∧ T = Ts j) ∧ h.IsListIter s1.heap.objs.size yl (j + 1) ∧ h.IsList yl its.toArray ∧ ∀ k, k < rs.length → h.IsTuple (Ts k) (vals k)) := fun A' hA => by
      have w := (WalksU.listOfTuples (prog := X.prog) (w := X.w) hA s1.heap.objs.size yl (Nat.ne_of_lt hylt) its.toArray Ts vals hit hTI).mono_fp (fp' := List.range h3.objs.size) fun b hb => by
        refine List.mem_range.mpr ?_
        rcases List.mem_cons.mp hb with z | z
        · rw [z]; show s1.heap.objs.size < h3.objs.size; omega
        · rcases List.mem_cons.mp z with z | z
          · rw [z]; exact Nat.lt_of_lt_of_le hylt (by omega)
          · obtain ⟨j, hj, rfl⟩ := List.mem_map.mp z
            exact Nat.lt_of_lt_of_le (hTlt j (by rw [← hsz]; exact List.mem_range.mp hj)) (by omega)
      rw [hsz] at w
      exact w
    have hC : h3.objs.size ∉ List.range h3.objs.size := fun z => Nat.lt_irrefl _ (List.mem_range.mp z)
    have vat : ∀ j r, rs[j]? = some r → ∃ va vb, vals j = #[va, vb] ∧ RelV r.1 va ∧ RelV r.2 vb := fun j r er => by
      obtain ⟨t, et⟩ := tvAt j (List.getElem?_eq_some_iff.mp er).1
      obtain ⟨_, r', er', h1, h2⟩ := htv j t et
      rw [er] at er'
      cases er'
      refine ⟨t.2.1, t.2.2, ?_, h1, h2⟩
      show (tvs[j]?.map fun t => (#[t.2.1, t.2.2] : Array Value)).getD #[] = _
      rw [et] <;> rfl
    have v2 : ∀ i, i < rs.length → ∃ va vb, vals i = #[va, vb] := fun i hi => by
      obtain ⟨va, vb, e, _⟩ := vat i _ (List.getElem?_eq_getElem hi)
      exact ⟨va, vb, e⟩
    have keep5 : ∀ b u, b ≠ P → s1.heap.get? b = some u → h5.get? b = some u := fun b u hb e => k5 b u (keep3 b u hb e)
    have st5 : h5.IsListIter s1.heap.objs.size yl 0 ∧ h5.IsList yl its.toArray ∧ ∀ k, k < rs.length → h5.IsTuple (Ts k) (vals k) := by
      refine ⟨hitr.at fun u e => k5 _ _ (hx _ u (Nat.ne_of_gt hPlt) e), ?_, fun j hj => ?_⟩
      · obtain ⟨ob, e, r⟩ := _root_.id hIL
        exact ⟨ob, keep5 _ _ hylP e, r⟩
      · obtain ⟨t, et⟩ := tvAt j hj
        obtain ⟨⟨ob, e, r⟩, _⟩ := htv j t et
        have e1 : Ts j = t.1 := by
          show (tvs[j]?.map fun t => t.1).getD 0 = _
          rw [et] <;> rfl
        have e2 : vals j = #[t.2.1, t.2.2] := by
          show (tvs[j]?.map fun t => (#[t.2.1, t.2.2] : Array Value)).getD #[] = _
          rw [et] <;> rfl
        have hne := hTP j hj
        rw [e1] at hne ⊢
        rw [e2]
        exact ⟨ob, keep5 _ _ hne e, r⟩
    have hP5 : h5.get? P = some { cls := .none, data := .fields ps' } := k5 P _ hP3
    have hcl3 : cStatics < h3.objs.size := Nat.lt_of_lt_of_le hcl (by omega)
    refine hQ rs H1 _ _ q1 ⟨s1.gens.size, h3.objs.size, s1.heap.objs.size, List.range h3.objs.size, vals, ⟨hgen, (lim2.extBut hx hcP).keeps k5, _, Array.getElem?_push_size .., fun t hal => ⟨rfl, ?_⟩⟩, List.mem_range.mpr hcl3, List.mem_range.mpr (by omega), (by show h'.objs.size ≠ h3.objs.size; omega), (by show h'.objs.size ≠ s1.heap.objs.size; omega), Nat.ne_of_lt hcl3, Nat.ne_of_lt hcl, ?_, ?_, vat, ?_⟩
    · exact start (A := X.A.in1.in1.in1.in1) (cenv := genEnv scope (cloFrom X.env.cells scope.names []) h3.objs.size code builtinsNs X.env) hhA W v2 S.ab S.la S.lb S.kind (by simp [genEnv, S.kind]) S.co hC S.da S.db (fun i h st => let ⟨o, e, _⟩ := st.1; ⟨o, e⟩)
        ((W X.A hhA).frame 0 _ _ st5 fun b hb o e => hal b (List.mem_cons_of_mem _ hb) o e) (hn5.at' fun o e => hal _ (List.mem_cons_self ..) o e)
    · intro b hb
      show b < h5.objs.size
      rcases List.mem_cons.mp hb with z | z
      · rw [z]; exact l2
      · rcases List.mem_cons.mp z with z | z
        · rw [z]; exact l1
        · exact Nat.lt_trans (List.mem_range.mp z) l1
    · obtain ⟨o1, _, _, e1, _⟩ := hn5
      obtain ⟨o2, e2, _⟩ := st5.1
      exact ⟨o1, o2, e1, e2⟩
    · intro T s' acc hT hm hd hle
      obtain ⟨more, em⟩ := hmore
      have hT5 : h5.objs.size ≤ T := hT
      have nwr : ∀ b u, s1.heap.get? b = some u → b ∉ [T, h3.objs.size, s1.heap.objs.size] := fun b u e hb => by
        have hl := Heap.lt_size e
        simp only [List.mem_cons, List.not_mem_nil, or_false] at hb
        rcases hb with z | z | z
        · rw [z] at hl
          exact absurd (Nat.lt_of_lt_of_le hl (Nat.le_of_lt l0)) (Nat.not_lt.mpr (Nat.le_of_lt (Nat.lt_of_lt_of_le l1 hT5)))
        · rw [z] at hl
          exact Nat.lt_asymm hl l0
        · rw [z] at hl
          exact Nat.lt_irrefl _ hl
      have kk : ∀ b u, b ≠ P → s1.heap.get? b = some u → s'.heap.get? b = some u := fun b u hb e => hm.heap b u (nwr b u e) (keep5 b u hb e)
      have kP : s'.heap.get? P = some { cls := .none, data := .fields (ps ++ more) } := by rw [← em]; exact hm.heap P _ (nwr P _ hPs) hP5
      have none1 : ∀ p, h5.get? p = none → s1.heap.get? p = none := fun p e => by
        cases q : s1.heap.get? p with
        | none => rfl
        | some u =>
          by_cases hb : p = P
          · rw [hb, hP5] at e
            cases e
          · rw [keep5 p u hb q] at e
            cases e
      -- the addresses of the pairs
      let adr : Value → Addr := fun v => match v with | .ref p => p | _ => 0
      have hacc : ∀ j, j < rs.length → ∃ p, acc[j]? = some (.ref p) ∧ (acc.toList.map adr)[j]? = some p ∧ s'.heap.get? p = some (tupO (vals j)) ∧ h5.get? p = none := fun j hj => by
        obtain ⟨p, e1, e2, _, e4⟩ := hd.item j hj
        exact ⟨p, e1, by rw [List.getElem?_map, Array.getElem?_toList, e1] <;> rfl, e2, e4⟩
      have hplen : (acc.toList.map adr).length = rs.length := by rw [List.length_map, Array.length_toList, hd.size]
      have hvals : Vals ((acc.toList.map adr).map V.ref) acc.toList := by
        have g : ∀ (l : List Value), (∀ v ∈ l, ∃ p, v = .ref p) → Vals ((l.map adr).map V.ref) l := fun l => by
          induction l with
          | nil => intro _; exact .nil
          | cons v l ih =>
            intro hv
            obtain ⟨p, rfl⟩ := hv v List.mem_cons_self
            exact .cons rfl (ih fun u hu => hv u (List.mem_cons_of_mem _ hu))
        refine g _ fun v hv => ?_
        obtain ⟨j, hj, ej⟩ := List.mem_iff_getElem.mp hv
        rw [Array.length_toList, hd.size] at hj
        obtain ⟨p, e1, _⟩ := hacc j hj
        refine ⟨p, ?_⟩
        have e2 : acc.toList[j]? = some v := by rw [List.getElem?_eq_getElem (by rw [Array.length_toList, hd.size]; exact hj), ej]
        rw [Array.getElem?_toList, e1] at e2
        exact (Option.some.inj e2).symm
      generalize hpl : acc.toList.map adr = pl at hacc hplen hvals
      have zat : ∀ p ∈ pl.zip (rs.map fun r => [r.1, r.2]), ∃ j r, j < rs.length ∧ pl[j]? = some p.1 ∧ rs[j]? = some r ∧ p.2 = [r.1, r.2] := fun p hp => by
        obtain ⟨j, hj, ej⟩ := List.mem_iff_getElem.mp hp
        rw [List.length_zip, List.length_map] at hj
        have hj1 : j < pl.length := by omega
        have hj2 : j < rs.length := by omega
        rw [List.getElem_zip, List.getElem_map] at ej
        exact ⟨j, rs[j], hj2, by rw [List.getElem?_eq_getElem hj1, ← ej], List.getElem?_eq_getElem hj2, by rw [← ej]⟩
      have tlt : ∀ p o, s'.heap.get? p = some o → p ≠ s'.heap.objs.size := fun p o e => Nat.ne_of_lt (Heap.lt_size e)
      have key : ∀ p ∈ pl.zip (rs.map fun r => [r.1, r.2]) ++ [(s'.heap.objs.size, pl.map V.ref)], s1.heap.get? p.1 = none := fun p hp => by
        rcases List.mem_append.mp hp with hp | hp
        · obtain ⟨j, r, hj, e1, _⟩ := zat p hp
          obtain ⟨q, _, e2, _, e4⟩ := hacc j hj
          rw [e1] at e2
          cases e2
          exact none1 _ e4
        · rw [List.mem_singleton.mp hp]
          show s1.heap.get? s'.heap.objs.size = none
          cases q : s1.heap.get? s'.heap.objs.size with
          | none => rfl
          | some u =>
            by_cases hb : s'.heap.objs.size = P
            · exact absurd hb.symm (tlt P _ kP)
            · exact absurd rfl (tlt _ _ (kk _ u hb q))
      have dis : ∀ p ∈ pl.zip (rs.map fun r => [r.1, r.2]) ++ [(s'.heap.objs.size, pl.map V.ref)], ∀ q ∈ pl.zip (rs.map fun r => [r.1, r.2]) ++ [(s'.heap.objs.size, pl.map V.ref)], p.1 = q.1 → p = q := fun p hp q hq e => by
        rcases List.mem_append.mp hp with hp | hp
        · obtain ⟨j, r, hj, e1, e2, e3⟩ := zat p hp
          obtain ⟨pj, a1, a2, a3, _⟩ := hacc j hj
          rw [e1] at a2
          cases a2
          rcases List.mem_append.mp hq with hq | hq
          · obtain ⟨l, r', hl, f1, f2, f3⟩ := zat q hq
            obtain ⟨ql, b1, b2, _⟩ := hacc l hl
            rw [f1] at b2
            cases b2
            rcases Nat.lt_trichotomy j l with z | z | z
            · exact absurd (by rw [e]; exact b1) (hd.apart j l p.1 z hl a1)
            · subst z
              rw [e2] at f2
              cases f2
              exact Prod.ext e (by rw [e3, f3])
            · exact absurd (by rw [← e]; exact a1) (hd.apart l j q.1 z hj b1)
          · rw [List.mem_singleton.mp hq] at e
            exact absurd e (tlt _ _ a3)
        · rcases List.mem_append.mp hq with hq | hq
          · obtain ⟨l, r', hl, f1, f2, f3⟩ := zat q hq
            obtain ⟨ql, b1, b2, b3, _⟩ := hacc l hl
            rw [f1] at b2
            cases b2
            rw [List.mem_singleton.mp hp] at e
            exact absurd e.symm (tlt _ _ b3)
          · rw [List.mem_singleton.mp hp, List.mem_singleton.mp hq]
      have keep7 : ∀ b u, s'.heap.get? b = some u → (s'.heap.push (tupO acc)).get? b = some u := fun b u e => Heap.get?_push_of_some _ e
      have hH1 : ∀ p ∈ pl.zip (rs.map fun r => [r.1, r.2]) ++ [(s'.heap.objs.size, pl.map V.ref)], H1 p.1 = none := fun p hp => by
        cases q : H1 p.1 with
        | none => rfl
        | some o =>
          obtain ⟨u, eu⟩ := okThere (I1.hok _ o q)
          rw [key p hp] at eu
          cases eu
      have mt : (s'.heap.objs.size, pl.map V.ref) ∈ pl.zip (rs.map fun r => [r.1, r.2]) ++ [(s'.heap.objs.size, pl.map V.ref)] := List.mem_append_right _ List.mem_cons_self
      refine ⟨pl, adds (pl.zip (rs.map fun r => [r.1, r.2]) ++ [(s'.heap.objs.size, pl.map V.ref)]) (upd H1 P (.tbl (ps ++ more))), hplen, hH1 _ mt, gr_adds hP (by rw [← em]; exact ht3) hH1, adds_at dis mt, prv_of hplen fun j p r e1 e2 => ?_,
        inv_adds I1 hP hm.os (fun b o hb e => keep7 b o (kk b o hb e)) (keep7 _ _ kP) (show AllBare s'.gens from AllBare.movedS (I1.bare.push rfl) hm) dis key fun p hp => ?_⟩
      · have hj : j < rs.length := (List.getElem?_eq_some_iff.mp e2).1
        have mp : (p, [r.1, r.2]) ∈ pl.zip (rs.map fun r => [r.1, r.2]) ++ [(s'.heap.objs.size, pl.map V.ref)] := by
          refine List.mem_append_left _ (List.mem_iff_getElem?.mpr ⟨j, ?_⟩)
          rw [List.getElem?_zip_eq_some]
          exact ⟨e1, by rw [List.getElem?_map, e2] <;> rfl⟩
        exact adds_at dis mp
      · rcases List.mem_append.mp hp with hp | hp
        · obtain ⟨j, r, hj, e1, e2, e3⟩ := zat p hp
          obtain ⟨q, _, f2, f3, _⟩ := hacc j hj
          rw [e1] at f2
          cases f2
          obtain ⟨va, vb, ev, ra, rb⟩ := vat j r e2
          rw [ev] at f3
          refine ⟨by rw [e3]; show 2 ≤ sizeLine; decide, [va, vb], by rw [e3]; exact .cons ra (.cons rb .nil), ⟨_, keep7 _ _ f3, rfl, _, rfl⟩⟩
        · rw [List.mem_singleton.mp hp]
          refine ⟨by rw [List.length_map, hplen]; exact hle, acc.toList, hvals, ⟨_, Heap.get?_push_size _ rfl, rfl, 0, ?_⟩⟩
          show Data.seq acc 0 = Data.seq acc.toList.toArray 0
          rw [Array.toArray_toList]
  refine ⟨lim2, ?_⟩
  cases hf : codeAmong gpos ps.toList with
  | none =>
    refine wpAny_genexprCodeX hcode (cd.code hP2 ht) (cd.tab hP2) hf fun c' h' tk hx hge hlt hco' _ htab' _ => ?_
    obtain ⟨o1, vs, f1, tf, fl, tg, inF, tx, tt, op, _, _, _, _, _, _, _, _, _, htr, _⟩ := hco'
    exact cont _ h' tk _ hx (Nat.le_trans hge (Nat.le_of_lt hlt)) htab'.2 ⟨_, rfl⟩ htr
  | some cv =>
    refine wpAny_genexprCode_hit hcode (cd.code hP2 ht) hf ?_
    exact cont cv (s1.heap.push o) s1.toks ps (Heap.ExtBut.refl _ _) (Nat.le_refl _) hP2 ⟨#[], by simp⟩ ht
/-- tuple((a, b) for a, b in te), of a list of pairs: new pairs in a new tuple -/
def tTupG (K : PySem.W.Frag) (P : Addr) (te : TE) : TE := fun σ H Q => te σ H fun v H1 => ∃ (yl : Addr) (vs : List V) (rs : List (V × V)), v = .ref yl ∧ SqL K H1 yl vs ∧ PrV K H1 vs rs ∧ GxR.TabG H1 P ∧ rs.length ≤ sizeLine ∧
  ∀ (t : Addr) (us : List V) (H2 : Hp), H1 t = none → Gr H1 H2 → H2 t = some (.tup us) → PrV K H2 us rs → Q (.ref t) H2
theorem pe_tupG {c P : Addr} {iter : Expr} {xa xb : Str} {p pos pa pb pt p1 p2 p3 gpos : Pos} {kt k2 : Nat} {scope : Scope} {te : TE} {k : Nat} {nm : Str}
    (hr : Room k X.A) (hg : Gl X nm) (hm : X.mg nm = none) (hv : bootBuiltins nm = some (.type "tuple")) (hnm : nm ≠ "__name__" := by decide) (hdb : (nm == ("__debug__" : Str)) = false := by decide)
    (TB : GxR.TabB X.base X.mg c P) (hcode : X.env.code = .ref c) (S : GenS2 X.env scope xa xb) (hi : PE X iter te)
    (hs : ∀ v, genFold iter X.env v = pure v)
    (he : starEach [gexp iter xa xb pa pb pt p1 p2 p3 gpos kt k2 scope] X.env = (false, eval (gexp iter xa xb pa pb pt p1 p2 p3 gpos kt k2 scope) X.env) :: starEach [] X.env := by rfl) :
    PE X (.Call (.Name nm p) [gexp iter xa xb pa pb pt p1 p2 p3 gpos kt k2 scope] [] pos) (tTupG X.K P te) := by
  refine ⟨fun pins s σ H Q I hq => ?_⟩
  refine wpAny_Call_Name_kw (ld_blt I hg hm hv ?_ hnm hdb)
  refine PyProof.Rows.callWith_type1 ?_ he rfl
  rw [he]
  show wpAny _ _ (spliced ((false, eval (gexp iter xa xb pa pb pt p1 p2 p3 gpos kt k2 scope) X.env) :: backTo pos (starEach [] X.env))) _ _ s
  refine Calls.spliced_cons (gen_prs (R := fun rs H1 => rs.length ≤ sizeLine ∧ ∀ (t : Addr) (us : List V) (H2 : Hp), H1 t = none → Gr H1 H2 → H2 t = some (.tup us) → PrV X.K H2 us rs → Q (.ref t) H2) hr TB hcode S hi hs I hq fun rs H1 g s5 hR hG => ?_)
  refine Calls.spliced_nil ?_
  obtain ⟨num, C, Ia, fp, vals, st, h1, h2, h3, h4, h5, h6, h7, h8, _, fin⟩ := hG
  refine call_tup hr.hd hr.depth h1 h2 h3 h4 h5 h6 hR.1 st h7 h8 fun T s' acc hT hm hd => ?_
  obtain ⟨ps, H2, _, e1, e2, e3, e4, J⟩ := fin T s' acc hT hm hd hR.1
  exact ⟨.ref s'.heap.objs.size, H2, J, rfl, hR.2 _ _ H2 e1 e2 e3 e4⟩
end
end TG
namespace My
open PySem PySem.Spec PyProof.Rows L2
/-! ### heaps in which named places change -/
/-- what never changes by a deed of the program at things that stand already -/
def FixO : HO → Prop
  | .ins _ _ _ => False
  | .dK _ => False
  | .tbl _ => False
  | .own _ => False
  | _ => True
structure Gx (F : Addr → Prop) (H H' : Hp) : Prop where
  fix : ∀ b o, H b = some o → FixO o → H' b = some o
  keep : ∀ b o, H b = some o → ¬ F b → (∀ ps, o ≠ HO.tbl ps) → H' b = some o
  tab : ∀ b, GxR.TabG H b → GxR.TabG H' b
  there : ∀ b o, H b = some o → ∃ o', H' b = some o'
section
variable {F F' : Addr → Prop} {H H1 H2 : Hp}
theorem Gx.of (g : Gr H H1) : Gx F H H1 := ⟨fun b o e f => g.keep b o e (fun ps z => by rw [z] at f; exact f), fun b o e _ n => g.keep b o e n, g.tab, g.there⟩
theorem Gx.refl (H : Hp) : Gx F H H := Gx.of (Gr.refl H)
theorem Gx.trans (a : Gx F H H1) (b : Gx F H1 H2) : Gx F H H2 := ⟨fun c o e f => b.fix c o (a.fix c o e f) f, fun c o e nf n => b.keep c o (a.keep c o e nf n) nf n, fun c t => b.tab c (a.tab c t), fun c o e => by
  obtain ⟨o1, e1⟩ := a.there c o e
  exact b.there c o1 e1⟩
theorem Gx.mono (a : Gx F H H1) (h : ∀ b, F b → F' b) : Gx F' H H1 := ⟨a.fix, fun b o e nf n => a.keep b o e (fun z => nf (h b z)) n, a.tab, a.there⟩
theorem Gx.then (a : Gx F H H1) (g : Gr H1 H2) : Gx F H H2 := a.trans (Gx.of g)
/-- a change at a named place -/
theorem Gx.put (a : Gx F H H1) {p : Addr} {o o' : HO} (hp : F p) (e : H1 p = some o) (nf : ¬ FixO o) (nt : ∀ ps, o ≠ .tbl ps) : Gx F H (upd H1 p o') := by
  refine ⟨fun b u eb f => ?_, fun b u eb q n => ?_, fun b t => ?_, fun b u eb => ?_⟩
  · have := a.fix b u eb f
    rw [upd_ne fun z => by rw [z, e] at this; cases this; exact nf f]
    exact this
  · rw [upd_ne fun z => q (by rw [z]; exact hp)]
    exact a.keep b u eb q n
  · obtain ⟨ps, e1, z1⟩ := a.tab b t
    exact ⟨ps, by rw [upd_ne fun z => by rw [z, e] at e1; exact nt ps (Option.some.inj e1)]; exact e1, z1⟩
  · by_cases q : b = p
    · rw [q]; exact ⟨o', upd_same⟩
    · rw [upd_ne q]; exact a.there b u eb
/-- a change at a place that the elder heap doesn't know -/
theorem Gx.mut (a : Gx F H H1) {p : Addr} {o : HO} (h : H p = none) : Gx F H (upd H1 p o) :=
  ⟨fun b u e f => by rw [upd_ne (ne_of_none e h)]; exact a.fix b u e f, fun b u e q n => by rw [upd_ne (ne_of_none e h)]; exact a.keep b u e q n,
   fun b t => by
    have t2 := t
    obtain ⟨ps, e, _⟩ := t
    obtain ⟨ps', e', z'⟩ := a.tab b t2
    exact ⟨ps', by rw [upd_ne (ne_of_none e h)]; exact e', z'⟩,
   fun b u e => by
    rw [upd_ne (ne_of_none e h)]
    exact a.there b u e⟩
theorem Gx.free {p : Addr} (g : Gx F H H1) (h : H1 p = none) : H p = none := by
  cases e : H p with
  | none => rfl
  | some o =>
    obtain ⟨o', e'⟩ := g.there p o e
    rw [e'] at h
    cases h
theorem Gx.lst {a : Addr} {xs : List V} (g : Gx F H H1) (h : H a = some (.lst xs)) : H1 a = some (.lst xs) := g.fix _ _ h True.intro
theorem Gx.tup {a : Addr} {xs : List V} (g : Gx F H H1) (h : H a = some (.tup xs)) : H1 a = some (.tup xs) := g.fix _ _ h True.intro
theorem Gx.l {K : PySem.W.Frag} {a : Addr} {xs : List V} (g : Gx F H H1) (h : SqL K H a xs) : SqL K H1 a xs := by
  rcases h with (h | ⟨o, h⟩) | h
  · exact .inl (.inl (g.fix _ _ h True.intro))
  · exact .inl (.inr ⟨o, g.fix _ _ h True.intro⟩)
  · exact .inr h
theorem Gx.t {K : PySem.W.Frag} {a : Addr} {xs : List V} (g : Gx F H H1) (h : SqT K H a xs) : SqT K H1 a xs := by
  rcases h with (h | ⟨o, h⟩) | h
  · exact .inl (.inl (g.fix _ _ h True.intro))
  · exact .inl (.inr ⟨o, g.fix _ _ h True.intro⟩)
  · exact .inr h
theorem Gx.q {K : PySem.W.Frag} {a : Addr} {xs : List V} (g : Gx F H H1) (h : SqQ K H a xs) : SqQ K H1 a xs := h.imp (fun z => g.l z) fun z => g.t z
theorem Prs.gx {K : PySem.W.Frag} (g : Gx F H H1) {vs : List V} {rs : Rw} (h : Prs K H vs rs) : Prs K H1 vs rs := h.imp fun _ _ => g.t
end
theorem PrV.imp {K : PySem.W.Frag} {H H' : Hp} (g : ∀ p xs, SqT K H p xs → SqT K H' p xs) : ∀ {vs : List V} {rs : List (V × V)}, PrV K H vs rs → PrV K H' vs rs
  | _, _, .nil => .nil
  | _, _, .cons a r => .cons (g _ _ a) (r.imp g)
theorem PrV.gr {K : PySem.W.Frag} {H H' : Hp} (g : Gr H H') {vs : List V} {rs : List (V × V)} (h : PrV K H vs rs) : PrV K H' vs rs := h.imp fun _ _ => g.t
theorem PrV.gx {K : PySem.W.Frag} {F : Addr → Prop} {H H' : Hp} (g : Gx F H H') {vs : List V} {rs : List (V × V)} (h : PrV K H vs rs) : PrV K H' vs rs := h.imp fun _ _ => g.t
theorem PrV.at {K : PySem.W.Frag} {H : Hp} : ∀ {vs : List V} {rs : List (V × V)} {i : Nat} {r : V × V}, PrV K H vs rs → rs[i]? = some r → ∃ p, vs[i]? = some (.ref p) ∧ SqT K H p [r.1, r.2]
  | _, _, i, r, .nil, h => by simp at h
  | _, _, 0, r, .cons (x := x) (y := y) a _, h => by
    have e : (x, y) = r := by simpa using h
    subst e
    exact ⟨_, rfl, a⟩
  | _, _, i + 1, r, .cons _ q, h => q.at (by simpa using h)
def rwV (r : Str × Int) : V × V := (.str r.1, .int r.2)
theorem PrV.rw {K : PySem.W.Frag} {H : Hp} : ∀ {vs : List V} {rs : Rw}, PrV K H vs (rs.map rwV) → Prs K H vs rs
  | _, [], h => by cases h; exact .nil
  | _, (n, b) :: rs, h => by
    cases h with
    | cons a r => exact .cons a (PrV.rw r)
theorem Prs.pv {K : PySem.W.Frag} {H : Hp} : ∀ {vs : List V} {rs : Rw}, Prs K H vs rs → PrV K H vs (rs.map rwV)
  | _, _, .nil => .nil
  | _, _, .cons a r => .cons a r.pv
/-! ### one step: fields, methods, while -/
section
variable {K : PySem.W.Frag} {σ : L2.St} {H : Hp} {Q : VK} {v x y : V} {ta tv te : TE} {f : Str} {rt : VK} {n b c : L2.St → Hp → Prop}
theorem st_fld (h : ta σ H fun x H1 => ∃ a C dx fs v, x = .ref a ∧ H1 a = some (.ins C dx fs) ∧ Cls K C ∧ NoAttr K C f ∧ fs.lookup f = some v ∧ Q v H1) : tFld K ta f σ H Q := h
theorem lf_fld {a C dx : Addr} {fs : List (Str × V)} {P : V → Prop} (e : H a = some (.ins C dx fs)) (cl : Cls K C) (na : NoAttr K C f) (l : fs.lookup f = some v) (q : P v) :
    ∃ a' C' dx' fs' v', V.ref a = .ref a' ∧ H a' = some (.ins C' dx' fs') ∧ Cls K C' ∧ NoAttr K C' f ∧ fs'.lookup f = some v' ∧ P v' := ⟨a, C, dx, fs, v, rfl, e, cl, na, l, q⟩
theorem st_putFld (h : tv σ H fun y H1 => ta σ H1 fun x H2 => ∃ a C dx fs, x = .ref a ∧ H2 a = some (.ins C dx fs) ∧ Cls K C ∧ NoAttr K C f ∧ fs.length < 1000 ∧ n σ (upd H2 a (.ins C dx (putF f y fs)))) : sFld K ta tv f ⟨n, rt, b, c⟩ σ H := h
theorem lf_putFld {a C dx : Addr} {fs : List (Str × V)} {P : Hp → Prop} (e : H a = some (.ins C dx fs)) (cl : Cls K C) (na : NoAttr K C f) (l : fs.length < 1000) (q : P (upd H a (.ins C dx (putF f y fs)))) :
    ∃ a' C' dx' fs', V.ref a = .ref a' ∧ H a' = some (.ins C' dx' fs') ∧ Cls K C' ∧ NoAttr K C' f ∧ fs'.length < 1000 ∧ P (upd H a' (.ins C' dx' (putF f y fs'))) := ⟨a, C, dx, fs, rfl, e, cl, na, l, q⟩
theorem st_fldAug {rd : V → V → Hp → VK → Prop} (h : ta σ H fun x H1 => ∃ a C dx fs v, x = .ref a ∧ H1 a = some (.ins C dx fs) ∧ Cls K C ∧ NoAttr K C f ∧ fs.lookup f = some v ∧
  tv σ H1 fun y H2 => rd v y H2 fun z H3 => ∃ dx' fs', H3 a = some (.ins C dx' fs') ∧ fs'.length < 1000 ∧ n σ (upd H3 a (.ins C dx' (putF f z fs')))) : sFldAug K ta tv rd f ⟨n, rt, b, c⟩ σ H := h
theorem st_meth {C : Addr} {m : Str} {sp : Sp} {E : XK} {t : TA} (h : ta σ H fun x H1 => ∃ a dx fs, x = .ref a ∧ H1 a = some (.ins C dx fs) ∧ fs.lookup m = none ∧ t σ H1 fun vs H2 => sp (x :: vs) H2 Q E) : tMeth C m sp [] E ta t σ H Q := by
  have e : (fun (x : V) (H1 : Hp) => ∃ a dx fs, x = .ref a ∧ H1 a = some (.ins C dx fs) ∧ fs.lookup m = none ∧ t σ H1 fun vs H2 => sp (x :: (vs ++ [])) H2 Q E) = fun x H1 => ∃ a dx fs, x = .ref a ∧ H1 a = some (.ins C dx fs) ∧ fs.lookup m = none ∧ t σ H1 fun vs H2 => sp (x :: vs) H2 Q E := by
    funext x H1
    simp only [List.append_nil]
  show ta σ H fun x H1 => ∃ a dx fs, x = .ref a ∧ H1 a = some (.ins C dx fs) ∧ fs.lookup m = none ∧ t σ H1 fun vs H2 => sp (x :: (vs ++ [])) H2 Q E
  rw [e]
  exact h
theorem lf_meth {a C dx : Addr} {m : Str} {fs : List (Str × V)} {P : Prop} (e : H a = some (.ins C dx fs)) (l : fs.lookup m = none) (q : P) : ∃ a' dx' fs', V.ref a = .ref a' ∧ H a' = some (.ins C dx' fs') ∧ fs'.lookup m = none ∧ P := ⟨a, dx, fs, rfl, e, l, q⟩
theorem st_whileN {cc : TT} {tb : TS} (Pv : Nat → L2.St → Hp → Prop) (m : Nat) (h0 : Pv m σ H)
    (hs : ∀ m σ H, Pv m σ H → cc σ H fun k H1 => if k = true then tb ⟨fun σ' H' => ∃ m', m' < m ∧ Pv m' σ' H', rt, n, fun σ' H' => ∃ m', m' < m ∧ Pv m' σ' H'⟩ σ H1 else n σ H1)
    (mono : ∀ σ H Q Q', (∀ b H1, Q b H1 → Q' b H1) → cc σ H Q → cc σ H Q') : tWhile cc tb ⟨n, rt, b, c⟩ σ H := by
  refine ⟨Pv, ⟨m, h0⟩, fun m σ H p => mono σ H _ _ (fun k H1 q => ?_) (hs m σ H p)⟩
  cases k with
  | true => exact ⟨_, fun _ _ h => h, q⟩
  | false => exact q
end
/-- a method of an own class -/
structure Mf (P : Program) (w : World) (K : PySem.W.Frag) (mg : Str → Option Value) (base : Heap) (k : Nat) (C : Addr) (m : Str) (ps : List Str) (sp : Sp) : Prop where
  ex : ∃ (f : Addr) (fd : FuncData), FnOk P w K mg base (L2.CX P w) k f fd ps sp ∧ Meth K C m f ∧ Binds K fd ps []
structure Mi (P : Program) (w : World) (K : PySem.W.Frag) (mg : Str → Option Value) (base : Heap) (k : Nat) (C : Addr) (x : Str) (ps : List Str) (sp : Sp) : Prop where
  ex : ∃ (f : Addr) (fd : FuncData), FnOk P w K mg base (L2.CX P w) k f fd ps sp ∧ Mk K C f ∧ mg x = some (.ref C) ∧ Binds K fd ps []
section
variable {X : Cx} {k : Nat} {C : Addr} {ps : List Str} {x m : Str} {sp : Sp} {p pos apos : Pos} {o e : Expr} {es : List Expr} {t : TA} {ta : TE} {E : XK} {pl : Sem Bool}
theorem pe_mm (ho : PE X o ta) (cl : Cls X.K C) (c : Mf X.prog X.w X.K X.mg X.base k C m ps sp) (hr : Room k X.A) (ha : PA X (e :: es) t)
    (hst : starEach (e :: es) X.env = (false, eval e X.env) :: starEach es X.env := by rfl) (hpl : (backTo pos (starEach es X.env)).any (·.1) = false := by rfl)
    (ht : eval (.Call (.Attribute o m apos) (e :: es) [] pos) X.env = (do
      let ov ← eval o X.env
      standAt apos.atName
      let (f, first) ← holding [ov] (getMethod ov m pl)
      callWith pos f first (backTo pos (starEach (e :: es) X.env)) (backToKw pos (keywordEach [] X.env))) := by rfl) : PE X (.Call (.Attribute o m apos) (e :: es) [] pos) (tMeth C m sp [] E0 ta t) := by
  obtain ⟨f, fd, F, hm, b⟩ := c.ex
  exact pe_meth (pl := pl) ho cl hm F hr b .nil passL ha hst hpl ht
theorem pe_mm0 (ho : PE X o ta) (cl : Cls X.K C) (c : Mf X.prog X.w X.K X.mg X.base k C m ps sp) (hr : Room k X.A)
    (ht : eval (.Call (.Attribute o m apos) [] [] pos) X.env = (do
      let ov ← eval o X.env
      standAt apos.atName
      let (f, first) ← holding [ov] (getMethod ov m pl)
      callWith pos f first (backTo pos (starEach [] X.env)) (backToKw pos (keywordEach [] X.env))) := by rfl) : PE X (.Call (.Attribute o m apos) [] [] pos) (tMeth C m sp [] E0 ta tNil) := by
  obtain ⟨f, fd, F, hm, b⟩ := c.ex
  exact pe_meth0 (pl := pl) ho cl hm F hr b .nil passL ht
theorem pe_mmE (ho : PE X o ta) (cl : Cls X.K C) (c : Mf X.prog X.w X.K X.mg X.base k C m ps sp) (hr : Room k X.A) (tk : Takes X (fun cls d _ H => E cls d H)) (ha : PA X (e :: es) t)
    (hst : starEach (e :: es) X.env = (false, eval e X.env) :: starEach es X.env := by rfl) (hpl : (backTo pos (starEach es X.env)).any (·.1) = false := by rfl)
    (ht : eval (.Call (.Attribute o m apos) (e :: es) [] pos) X.env = (do
      let ov ← eval o X.env
      standAt apos.atName
      let (f, first) ← holding [ov] (getMethod ov m pl)
      callWith pos f first (backTo pos (starEach (e :: es) X.env)) (backToKw pos (keywordEach [] X.env))) := by rfl) : PE X (.Call (.Attribute o m apos) (e :: es) [] pos) (tMeth C m sp [] E ta t) := by
  obtain ⟨f, fd, F, hm, b⟩ := c.ex
  exact pe_meth (pl := pl) ho cl hm F hr b .nil (passes_call tk fun _ _ _ _ h => h) ha hst hpl ht
theorem pe_mk0 (c : Mi X.prog X.w X.K X.mg X.base k C x ps sp) (hr : Room (k + 1) X.A) (hg : Gl X x) (hdb : (x == ("__debug__" : Str)) = false := by decide) : PE X (.Call (.Name x p) [] [] pos) (tMake C sp [] E0 tNil) := by
  obtain ⟨f, fd, F, hm, e, b⟩ := c.ex
  exact pe_make0 hm F hr hg e b .nil passL hdb
end
end My
namespace My
open PySem PySem.Spec PyProof.Rows L2
/-! ### the pile, as it is told: what is in a box and how many hold it -/
inductive Bx
  | leaf (n : Int)
  | branch (rs : Rw)
def Bx.rows : Bx → Rw
  | .leaf _ => []
  | .branch rs => rs
structure PS where
  made : Nat
  box : Int → Option (Bx × Nat)
structure PS.Ok (S : PS) : Prop where
  dom : ∀ z x, S.box z = some x → 1 ≤ z ∧ z ≤ S.made
  len : ∀ z x, S.box z = some x → x.1.rows.length ≤ 5000
  big : S.made ≤ 3000
def PS.empty : PS := ⟨0, fun _ => none⟩
def PS.new (S : PS) (b : Bx) : PS := ⟨S.made + 1, fun z => if z = (S.made : Int) + 1 then some (b, 0) else S.box z⟩
def PS.hold (S : PS) (z : Int) : PS := ⟨S.made, fun y => if y = z then (S.box y).map (fun x => (x.1, x.2 + 1)) else S.box y⟩
def PS.holds (S : PS) (zs : List Int) : PS := zs.foldl PS.hold S
def PS.lower (S : PS) (z : Int) : PS := ⟨S.made, fun y => if y = z then (S.box y).map (fun x => (x.1, x.2 - 1)) else S.box y⟩
def PS.drop (S : PS) (z : Int) : PS := ⟨S.made, fun y => if y = z then none else S.box y⟩
/-- a box that is let go: the pile, what it lets go itself, how many are gone -/
def PS.step (S : PS) (z : Int) : PS × List Int × Nat := match S.box z with
  | none => (S, [], 0)
  | some (b, c) => if c - 1 = 0 then (S.drop z, b.rows.map (·.2), 1) else (S.lower z, [], 0)
/-- the boxes that wait: the last one first -/
def PS.run : Nat → PS → List Int → Nat → PS × Nat
  | 0, S, _, g => (S, g)
  | _ + 1, S, [], g => (S, g)
  | n + 1, S, z :: w, g => PS.run n (S.step z).1 ((S.step z).2.1.reverse ++ w) (g + (S.step z).2.2)
def rowsAt (S : PS) (i : Nat) : Nat := match S.box ((i : Int) + 1) with
  | some x => x.1.rows.length
  | none => 0
def PS.size (S : PS) : Nat := ((List.range S.made).map (rowsAt S)).sum
def PS.letGo (S : PS) (z : Int) : PS × Nat := PS.run (S.size + 1) S [z] 0
theorem sum_upd (f g : Nat → Nat) (k : Nat) : ∀ n, k < n → (∀ i, i ≠ k → g i = f i) → g k = 0 → ((List.range n).map g).sum + f k = ((List.range n).map f).sum
  | 0, h, _, _ => absurd h (Nat.not_lt_zero _)
  | n + 1, h, h1, h2 => by
    rw [List.range_succ, List.map_append, List.map_append, List.sum_append, List.sum_append]
    simp only [List.map_cons, List.map_nil, List.sum_cons, List.sum_nil, Nat.add_zero]
    by_cases e : k = n
    · subst e
      have : (List.range k).map g = (List.range k).map f := List.map_congr_left fun i hi => h1 i (by have := List.mem_range.mp hi; omega)
      rw [this, h2]
      omega
    · have ih := sum_upd f g k n (by omega) h1 h2
      rw [h1 n (fun z => e z.symm)]
      omega
theorem PS.Ok.new {S : PS} (h : S.Ok) {b : Bx} (hb : b.rows.length ≤ 5000) (hm : S.made ≤ 2900) : (S.new b).Ok := by
  refine ⟨fun z x e => ?_, fun z x e => ?_, by show S.made + 1 ≤ 3000; omega⟩
  · unfold PS.new at e ⊢
    dsimp only at e ⊢
    by_cases q : z = (S.made : Int) + 1
    · omega
    · rw [if_neg q] at e
      have := h.dom z x e
      omega
  · unfold PS.new at e
    dsimp only at e
    by_cases q : z = (S.made : Int) + 1
    · rw [if_pos q] at e
      cases e
      exact hb
    · rw [if_neg q] at e
      exact h.len z x e
theorem PS.Ok.hold {S : PS} (h : S.Ok) (z : Int) : (S.hold z).Ok := by
  have key : ∀ y x, (S.hold z).box y = some x → ∃ x', S.box y = some x' ∧ x'.1 = x.1 := fun y x e => by
    unfold PS.hold at e
    dsimp only at e
    by_cases q : y = z
    · rw [if_pos q] at e
      cases c : S.box y with
      | none => rw [c] at e; cases e
      | some v => rw [c] at e; cases e; exact ⟨v, rfl, rfl⟩
    · rw [if_neg q] at e
      exact ⟨x, e, rfl⟩
  refine ⟨fun y x e => ?_, fun y x e => ?_, h.big⟩
  · obtain ⟨x', e1, _⟩ := key y x e
    exact h.dom y x' e1
  · obtain ⟨x', e1, e2⟩ := key y x e
    rw [← e2]
    exact h.len y x' e1
theorem PS.Ok.lower {S : PS} (h : S.Ok) (z : Int) : (S.lower z).Ok := by
  have key : ∀ y x, (S.lower z).box y = some x → ∃ x', S.box y = some x' ∧ x'.1 = x.1 := fun y x e => by
    unfold PS.lower at e
    dsimp only at e
    by_cases q : y = z
    · rw [if_pos q] at e
      cases c : S.box y with
      | none => rw [c] at e; cases e
      | some v => rw [c] at e; cases e; exact ⟨v, rfl, rfl⟩
    · rw [if_neg q] at e
      exact ⟨x, e, rfl⟩
  refine ⟨fun y x e => ?_, fun y x e => ?_, h.big⟩
  · obtain ⟨x', e1, _⟩ := key y x e
    exact h.dom y x' e1
  · obtain ⟨x', e1, e2⟩ := key y x e
    rw [← e2]
    exact h.len y x' e1
theorem PS.Ok.drop {S : PS} (h : S.Ok) (z : Int) : (S.drop z).Ok := by
  have key : ∀ y x, (S.drop z).box y = some x → S.box y = some x := fun y x e => by
    unfold PS.drop at e
    dsimp only at e
    by_cases q : y = z
    · rw [if_pos q] at e; cases e
    · rw [if_neg q] at e; exact e
  exact ⟨fun y x e => h.dom y x (key y x e), fun y x e => h.len y x (key y x e), h.big⟩
theorem PS.Ok.holds {S : PS} (h : S.Ok) : ∀ zs : List Int, (S.holds zs).Ok := fun zs => by
  induction zs generalizing S with
  | nil => exact h
  | cons z zs ih => exact ih (h.hold z)
theorem PS.holds_made (S : PS) (zs : List Int) : (S.holds zs).made = S.made := by
  induction zs generalizing S with
  | nil => rfl
  | cons z zs ih => exact ih (S.hold z)
theorem PS.hold_some (S : PS) (z y : Int) : ((S.hold z).box y).isSome = (S.box y).isSome := by
  unfold PS.hold
  dsimp only
  by_cases q : y = z
  · rw [if_pos q]
    cases S.box y <;> rfl
  · rw [if_neg q]
theorem PS.holds_some (S : PS) (zs : List Int) (y : Int) : ((S.holds zs).box y).isSome = (S.box y).isSome := by
  induction zs generalizing S with
  | nil => rfl
  | cons z zs ih =>
    show ((PS.holds (S.hold z) zs).box y).isSome = _
    rw [ih, S.hold_some]
theorem PS.size_lower (S : PS) (z : Int) : (S.lower z).size = S.size := by
  unfold PS.size
  congr 1
  refine List.map_congr_left fun i _ => ?_
  unfold rowsAt PS.lower
  dsimp only
  by_cases q : (i : Int) + 1 = z
  · rw [if_pos q]
    cases S.box ((i : Int) + 1) <;> rfl
  · rw [if_neg q]
theorem PS.size_drop {S : PS} (h : S.Ok) {z : Int} {x : Bx × Nat} (e : S.box z = some x) : (S.drop z).size + x.1.rows.length = S.size := by
  obtain ⟨h1, h2⟩ := h.dom z x e
  have hz : ((z.toNat - 1 : Nat) : Int) + 1 = z := by omega
  have := sum_upd (rowsAt S) (rowsAt (S.drop z)) (z.toNat - 1) S.made (by omega) (fun i hi => ?_) ?_
  · have e2 : rowsAt S (z.toNat - 1) = x.1.rows.length := by
      unfold rowsAt
      rw [hz, e]
    rw [e2] at this
    exact this
  · unfold rowsAt PS.drop
    dsimp only
    rw [if_neg (by omega)]
  · unfold rowsAt PS.drop
    dsimp only
    rw [if_pos hz]
theorem PS.size_le {S : PS} (h : S.Ok) : S.size ≤ 15000000 := by
  have key : ∀ n, ((List.range n).map (rowsAt S)).sum ≤ n * 5000 := fun n => by
    induction n with
    | zero => exact Nat.le_refl _
    | succ n ih =>
      rw [List.range_succ, List.map_append, List.sum_append]
      have e : rowsAt S n ≤ 5000 := by
        unfold rowsAt
        cases e : S.box ((n : Int) + 1) with
        | none => exact Nat.zero_le _
        | some x => exact h.len _ _ e
      simp only [List.map_cons, List.map_nil, List.sum_cons, List.sum_nil]
      omega
  have h1 := key S.made
  have h2 := h.big
  unfold PS.size
  omega
theorem PS.drop_lower (S : PS) (z : Int) : (S.lower z).drop z = S.drop z := by
  unfold PS.lower PS.drop
  congr 1
  funext y
  dsimp only
  split <;> rfl
theorem PS.lower_at {S : PS} {z : Int} {b : Bx} {c : Nat} (e : S.box z = some (b, c)) : (S.lower z).box z = some (b, c - 1) := by
  unfold PS.lower
  dsimp only
  rw [if_pos rfl, e] <;> rfl
theorem PS.holds_snoc (S : PS) (zs : List Int) (z : Int) : S.holds (zs ++ [z]) = (S.holds zs).hold z := by
  unfold PS.holds
  rw [List.foldl_append] <;> rfl
/-- what is left to do -/
def PS.left (S : PS) (w : List Int) : Nat := w.length + S.size
theorem PS.step_left {S : PS} (h : S.Ok) (z : Int) (w : List Int) : (S.step z).1.left ((S.step z).2.1.reverse ++ w) + 1 = S.left (z :: w) ∧ (S.step z).1.Ok ∧ (S.step z).1.made = S.made := by
  unfold PS.step PS.left
  cases e : S.box z with
  | none => exact ⟨by simp only [List.reverse_nil, List.nil_append, List.length_cons]; omega, h, rfl⟩
  | some x =>
    obtain ⟨b, c⟩ := x
    dsimp only
    by_cases q : c - 1 = 0
    · rw [if_pos q]
      have := PS.size_drop h e
      refine ⟨?_, h.drop z, rfl⟩
      rw [List.length_append, List.length_reverse, List.length_map, List.length_cons]
      dsimp only at this ⊢
      omega
    · rw [if_neg q]
      refine ⟨?_, h.lower z, rfl⟩
      dsimp only
      rw [PS.size_lower, List.reverse_nil, List.nil_append, List.length_cons]
      omega
/-- the run doesn't hang on how much time is given, if it is enough -/
theorem PS.run_enough : ∀ (n : Nat) (S : PS) (w : List Int) (g : Nat), S.Ok → S.left w ≤ n → PS.run n S w g = PS.run (S.left w) S w g
  | 0, S, w, g, _, hl => by rw [Nat.le_zero.mp hl]
  | n + 1, S, [], g, _, _ => by
    show (S, g) = _
    cases S.left [] <;> rfl
  | n + 1, S, z :: w, g, h, hl => by
    obtain ⟨e, h2, _⟩ := PS.step_left h z w
    rw [← e]
    show PS.run n _ _ _ = PS.run _ _ _ _
    exact PS.run_enough n _ _ _ h2 (by omega)
theorem PS.run_cons {S : PS} (h : S.Ok) (z : Int) (w : List Int) (g : Nat) : PS.run (S.left (z :: w)) S (z :: w) g = PS.run ((S.step z).1.left ((S.step z).2.1.reverse ++ w)) (S.step z).1 ((S.step z).2.1.reverse ++ w) (g + (S.step z).2.2) := by
  obtain ⟨e, _, _⟩ := PS.step_left h z w
  rw [← e] <;> rfl
theorem PS.run_nil (S : PS) (n g : Nat) : PS.run n S [] g = (S, g) := by cases n <;> rfl
theorem PS.letGo_eq (S : PS) (z : Int) : S.letGo z = PS.run (S.left [z]) S [z] 0 := by
  unfold PS.letGo PS.left
  rw [List.length_singleton, Nat.add_comm]
theorem PS.run_ok : ∀ (n : Nat) (S : PS) (w : List Int) (g : Nat), S.Ok → (PS.run n S w g).1.Ok ∧ (PS.run n S w g).1.made = S.made
  | 0, S, w, g, h => ⟨h, rfl⟩
  | n + 1, S, [], g, h => ⟨h, rfl⟩
  | n + 1, S, z :: w, g, h => by
    obtain ⟨_, h2, h3⟩ := PS.step_left h z w
    obtain ⟨a, b⟩ := PS.run_ok n _ ((S.step z).2.1.reverse ++ w) (g + (S.step z).2.2) h2
    exact ⟨a, b.trans h3⟩
theorem PS.letGo_ok {S : PS} (h : S.Ok) (z : Int) : (S.letGo z).1.Ok ∧ (S.letGo z).1.made = S.made := PS.run_ok _ _ _ _ h
/-! ### the pile, as it stands in the heap -/
structure PA where
  p : Addr
  dx : Addr
  c : Addr
  n : Addr
  r : Addr
def PA.foot (A : PA) (b : Addr) : Prop := b = A.p ∨ b = A.c ∨ b = A.n ∨ b = A.r
def pfs (A : PA) (m : Int) : List (Str × V) := [("made", .int m), ("_counts", .ref A.c), ("_numbers", .ref A.n), ("_rows", .ref A.r)]
structure Dcts (K : PySem.W.Frag) (H : Hp) (S : PS) (kc kn kr : List (Key × V)) : Prop where
  ok : S.Ok
  vc : ∀ z : Int, valV kc (Sum.inl z) = (S.box z).map fun x => V.int x.2
  vn : ∀ z : Int, valV kn (Sum.inl z) = (S.box z).bind fun x => match x.1 with | .leaf n => some (V.int n) | .branch _ => none
  vr : ∀ z : Int, match S.box z with
    | some (.branch rs, _) => ∃ t us, valV kr (Sum.inl z) = some (.ref t) ∧ SqT K H t us ∧ Prs K H us rs
    | _ => valV kr (Sum.inl z) = none
  ks : ∃ ks : List Int, kc.map (·.1) = ks.map Sum.inl ∧ ks.Nodup
  lc : kc.length ≤ S.made
  ln : kn.length ≤ S.made
  lr : kr.length ≤ S.made
structure PileAt (K : PySem.W.Frag) (C : Addr) (H : Hp) (A : PA) (S : PS) : Prop where
  ins : H A.p = some (.ins C A.dx (pfs A S.made))
  dcts : ∃ kc kn kr, H A.c = some (.dK kc) ∧ H A.n = some (.dK kn) ∧ H A.r = some (.dK kr) ∧ Dcts K H S kc kn kr
  ne : A.c ≠ A.n ∧ A.c ≠ A.r ∧ A.n ≠ A.r
theorem Dcts.move {K : PySem.W.Frag} {H H' : Hp} {S : PS} {kc kn kr : List (Key × V)} (d : Dcts K H S kc kn kr) (g : ∀ p xs, SqT K H p xs → SqT K H' p xs) : Dcts K H' S kc kn kr :=
  ⟨d.ok, d.vc, d.vn, fun z => by
    have := d.vr z
    cases e : S.box z with
    | none => rw [e] at this; exact this
    | some x =>
      obtain ⟨b, c⟩ := x
      rw [e] at this
      cases b with
      | leaf n => exact this
      | branch rs =>
        obtain ⟨t, us, h1, h2, h3⟩ := this
        exact ⟨t, us, h1, g _ _ h2, h3.imp g⟩, d.ks, d.lc, d.ln, d.lr⟩
theorem PileAt.gr {K : PySem.W.Frag} {C : Addr} {H H' : Hp} {A : PA} {S : PS} (h : PileAt K C H A S) (g : Gr H H') : PileAt K C H' A S := by
  obtain ⟨kc, kn, kr, e1, e2, e3, d⟩ := h.dcts
  exact ⟨g.keep _ _ h.ins (fun _ z => by cases z), ⟨kc, kn, kr, g.dK e1, g.dK e2, g.dK e3, d.move fun _ _ => g.t⟩, h.ne⟩
/-- what is done elsewhere leaves it as it is -/
theorem PileAt.gx {K : PySem.W.Frag} {C : Addr} {F : Addr → Prop} {H H' : Hp} {A : PA} {S : PS} (h : PileAt K C H A S) (g : Gx F H H') (hf : ∀ b, A.foot b → ¬ F b) : PileAt K C H' A S := by
  obtain ⟨kc, kn, kr, e1, e2, e3, d⟩ := h.dcts
  exact ⟨g.keep _ _ h.ins (hf _ (.inl rfl)) (fun _ z => by cases z), ⟨kc, kn, kr, g.keep _ _ e1 (hf _ (.inr (.inl rfl))) (fun _ z => by cases z), g.keep _ _ e2 (hf _ (.inr (.inr (.inl rfl)))) (fun _ z => by cases z), g.keep _ _ e3 (hf _ (.inr (.inr (.inr rfl)))) (fun _ z => by cases z), d.move fun _ _ => g.t⟩, h.ne⟩
theorem pfs_lk (A : PA) (m : Int) : (pfs A m).lookup ("made" : Str) = some (.int m) ∧ (pfs A m).lookup ("_counts" : Str) = some (.ref A.c) ∧ (pfs A m).lookup ("_numbers" : Str) = some (.ref A.n) ∧ (pfs A m).lookup ("_rows" : Str) = some (.ref A.r) := by
  have h1 : (("_counts" : Str) == "made") = false := by decide +kernel
  have h2 : (("_numbers" : Str) == "made") = false := by decide +kernel
  have h3 : (("_numbers" : Str) == "_counts") = false := by decide +kernel
  have h4 : (("_rows" : Str) == "made") = false := by decide +kernel
  have h5 : (("_rows" : Str) == "_counts") = false := by decide +kernel
  have h6 : (("_rows" : Str) == "_numbers") = false := by decide +kernel
  unfold pfs
  simp only [List.lookup, h1, h2, h3, h4, h5, h6, beq_self_eq_true, and_self]
theorem pfs_no (A : PA) (m : Int) {f : Str} (h1 : (f == ("made" : Str)) = false) (h2 : (f == ("_counts" : Str)) = false) (h3 : (f == ("_numbers" : Str)) = false) (h4 : (f == ("_rows" : Str)) = false) : (pfs A m).lookup f = none := by
  unfold pfs
  simp only [List.lookup, h1, h2, h3, h4]
theorem pfs_made (A : PA) (m k : Int) : putF "made" (.int k) (pfs A m) = pfs A k := by
  show (if ("made" : Str) = "made" then _ else _) = _
  rw [if_pos rfl] <;> rfl
/-! ### the dicts, changed -/
section
variable {κ : Type} [DecidableEq κ]
theorem valV_dropK (kvs : List (κ × V)) (k j : κ) : valV (dropK kvs k) j = if j = k then none else valV kvs j := by
  induction kvs with
  | nil => split <;> rfl
  | cons p r ih =>
    unfold dropK at ih ⊢
    rw [List.filter_cons]
    by_cases e : p.1 = k
    · rw [if_neg (by simp [e]), ih]
      by_cases q : j = k
      · rw [if_pos q, if_pos q]
      · rw [if_neg q, if_neg q, valV_neg fun z => q (z.symm.trans e)]
    · rw [if_pos (by simp [e])]
      by_cases q : p.1 = j
      · rw [valV_pos q, valV_pos q, if_neg fun z => e (q.trans z)]
      · rw [valV_neg q, valV_neg q, ih]
theorem putK_has {kvs : List (κ × V)} {k : κ} {v : V} (h : (valV kvs k).isSome = true) : putK kvs k v = kvs.map (fun kv => if kv.1 = k then (kv.1, v) else kv) := by
  unfold putK
  rw [valV_any, if_pos h]
theorem putK_has_len {kvs : List (κ × V)} {k : κ} {v : V} (h : (valV kvs k).isSome = true) : (putK kvs k v).length = kvs.length := by rw [putK_has h, List.length_map]
end
theorem keys_put {kc : List (Key × V)} {ks : List Int} (h : kc.map (·.1) = ks.map Sum.inl) (hn : ks.Nodup) (z : Int) (v : V) : ∃ ks' : List Int, (putK kc (Sum.inl z) v).map (·.1) = ks'.map Sum.inl ∧ ks'.Nodup := by
  cases e : valV kc (Sum.inl z) with
  | some u =>
    refine ⟨ks, ?_, hn⟩
    rw [putK_has (by rw [e] <;> rfl), List.map_map, ← h]
    refine List.map_congr_left fun p _ => ?_
    show (if p.1 = Sum.inl z then (p.1, v) else p).1 = p.1
    split <;> rfl
  | none =>
    refine ⟨ks ++ [z], by rw [putK_new v e, List.map_append, List.map_append, h] <;> rfl, List.nodup_append.mpr ⟨hn, List.nodup_cons.mpr ⟨by simp, List.nodup_nil⟩, fun a ha c hc q => ?_⟩⟩
    rw [List.mem_singleton.mp hc] at q
    rw [q] at ha
    have hm : (Sum.inl z : Key) ∈ kc.map (·.1) := by rw [h]; exact List.mem_map.mpr ⟨z, ha, rfl⟩
    obtain ⟨p, hp, ep⟩ := List.mem_map.mp hm
    have : (valV kc (Sum.inl z)).isSome = true := by
      rw [← valV_any, List.any_eq_true]
      exact ⟨p, hp, decide_eq_true ep⟩
    rw [e] at this
    cases this
theorem keys_drop {kc : List (Key × V)} {ks : List Int} (h : kc.map (·.1) = ks.map Sum.inl) (hn : ks.Nodup) (z : Int) : ∃ ks' : List Int, (dropK kc (Sum.inl z)).map (·.1) = ks'.map Sum.inl ∧ ks'.Nodup := by
  refine ⟨ks.filter fun k => decide (k ≠ z), ?_, hn.sublist List.filter_sublist⟩
  unfold dropK
  have e1 : (kc.filter fun kv => decide (kv.1 ≠ (Sum.inl z : Key))).map (·.1) = (kc.map (·.1)).filter fun k => decide (k ≠ (Sum.inl z : Key)) := by
    rw [List.filter_map] <;> rfl
  rw [e1, h, List.filter_map]
  congr 1
  refine List.filter_congr fun k _ => ?_
  show decide ((Sum.inl k : Key) ≠ Sum.inl z) = decide (k ≠ z)
  exact decide_eq_decide.mpr ⟨fun q w => q (by rw [w]), fun q w => q (Sum.inl.inj w)⟩
theorem mem_keys {kc : List (Key × V)} {ks : List Int} (h : kc.map (·.1) = ks.map Sum.inl) (z : Int) : z ∈ ks ↔ (valV kc (Sum.inl z)).isSome = true := by
  rw [← valV_any, List.any_eq_true]
  constructor
  · intro hm
    have : (Sum.inl z : Key) ∈ kc.map (·.1) := by rw [h]; exact List.mem_map.mpr ⟨z, hm, rfl⟩
    obtain ⟨p, hp, ep⟩ := List.mem_map.mp this
    exact ⟨p, hp, decide_eq_true ep⟩
  · rintro ⟨p, hp, ep⟩
    have : (Sum.inl z : Key) ∈ kc.map (·.1) := List.mem_map.mpr ⟨p, hp, of_decide_eq_true ep⟩
    rw [h] at this
    obtain ⟨y, hy, e⟩ := List.mem_map.mp this
    rw [← Sum.inl.inj e]
    exact hy
theorem inl_eq {a b : Int} : ((Sum.inl a : Key) = Sum.inl b) ↔ a = b := ⟨fun h => Sum.inl.inj h, fun h => by rw [h]⟩
section
variable {K : PySem.W.Frag} {H : Hp} {S : PS} {kc kn kr : List (Key × V)}
theorem Dcts.none_next (d : Dcts K H S kc kn kr) : S.box ((S.made : Int) + 1) = none := by
  cases e : S.box ((S.made : Int) + 1) with
  | none => rfl
  | some x =>
    have := d.ok.dom _ _ e
    omega
theorem Dcts.mkLeaf (d : Dcts K H S kc kn kr) (n : Int) (hm : S.made ≤ 2900) : Dcts K H (S.new (.leaf n)) (putK kc (Sum.inl ((S.made : Int) + 1)) (.int 0)) (putK kn (Sum.inl ((S.made : Int) + 1)) (.int n)) kr := by
  have h0 := d.none_next
  obtain ⟨ks, hk, hn⟩ := d.ks
  refine ⟨d.ok.new (Nat.zero_le _) hm, fun z => ?_, fun z => ?_, fun z => ?_, keys_put hk hn _ _, Nat.le_trans (length_putK _ _ _) (Nat.succ_le_succ d.lc), Nat.le_trans (length_putK _ _ _) (Nat.succ_le_succ d.ln), Nat.le_succ_of_le d.lr⟩
  · rw [valV_put]
    unfold PS.new
    dsimp only
    by_cases q : z = (S.made : Int) + 1
    · rw [if_pos (inl_eq.mpr q), if_pos q] <;> rfl
    · rw [if_neg fun w => q (inl_eq.mp w), if_neg q, d.vc]
  · rw [valV_put]
    unfold PS.new
    dsimp only
    by_cases q : z = (S.made : Int) + 1
    · rw [if_pos (inl_eq.mpr q), if_pos q] <;> rfl
    · rw [if_neg fun w => q (inl_eq.mp w), if_neg q, d.vn]
  · unfold PS.new
    dsimp only
    by_cases q : z = (S.made : Int) + 1
    · rw [if_pos q]
      have := d.vr z
      rw [q, h0] at this
      rw [q]
      exact this
    · rw [if_neg q]
      exact d.vr z
theorem Dcts.mkBranch (d : Dcts K H S kc kn kr) {rs : Rw} {t : Addr} {us : List V} (ht : SqT K H t us) (hp : Prs K H us rs) (hl : rs.length ≤ 5000) (hm : S.made ≤ 2900) : Dcts K H (S.new (.branch rs)) (putK kc (Sum.inl ((S.made : Int) + 1)) (.int 0)) kn (putK kr (Sum.inl ((S.made : Int) + 1)) (.ref t)) := by
  have h0 := d.none_next
  obtain ⟨ks, hk, hn⟩ := d.ks
  refine ⟨d.ok.new hl hm, fun z => ?_, fun z => ?_, fun z => ?_, keys_put hk hn _ _, Nat.le_trans (length_putK _ _ _) (Nat.succ_le_succ d.lc), Nat.le_succ_of_le d.ln, Nat.le_trans (length_putK _ _ _) (Nat.succ_le_succ d.lr)⟩
  · rw [valV_put]
    unfold PS.new
    dsimp only
    by_cases q : z = (S.made : Int) + 1
    · rw [if_pos (inl_eq.mpr q), if_pos q] <;> rfl
    · rw [if_neg fun w => q (inl_eq.mp w), if_neg q, d.vc]
  · unfold PS.new
    dsimp only
    by_cases q : z = (S.made : Int) + 1
    · rw [if_pos q, d.vn, q, h0] <;> rfl
    · rw [if_neg q, d.vn]
  · unfold PS.new
    dsimp only
    by_cases q : z = (S.made : Int) + 1
    · rw [if_pos q]
      exact ⟨t, us, by rw [valV_put, if_pos (inl_eq.mpr q)], ht, hp⟩
    · rw [if_neg q]
      have := d.vr z
      have e : valV (putK kr (Sum.inl ((S.made : Int) + 1)) (.ref t)) (Sum.inl z) = valV kr (Sum.inl z) := by rw [valV_put, if_neg fun w => q (inl_eq.mp w)]
      rw [e]
      exact this
theorem Dcts.hold (d : Dcts K H S kc kn kr) {z : Int} {x : Bx × Nat} (e : S.box z = some x) : Dcts K H (S.hold z) (putK kc (Sum.inl z) (.int ((x.2 : Int) + 1))) kn kr := by
  obtain ⟨ks, hk, hn⟩ := d.ks
  have hs : (valV kc (Sum.inl z)).isSome = true := by rw [d.vc, e] <;> rfl
  refine ⟨d.ok.hold z, fun y => ?_, fun y => ?_, fun y => ?_, keys_put hk hn _ _, by rw [putK_has_len hs]; exact d.lc, d.ln, d.lr⟩
  · rw [valV_put]
    unfold PS.hold
    dsimp only
    by_cases q : y = z
    · rw [if_pos (inl_eq.mpr q), if_pos q, q, e] <;> rfl
    · rw [if_neg fun w => q (inl_eq.mp w), if_neg q, d.vc]
  · rw [d.vn]
    unfold PS.hold
    dsimp only
    by_cases q : y = z
    · rw [if_pos q]
      cases S.box y <;> rfl
    · rw [if_neg q]
  · have := d.vr y
    unfold PS.hold
    dsimp only
    by_cases q : y = z
    · rw [if_pos q]
      rw [q, e] at this ⊢
      obtain ⟨b, c⟩ := x
      cases b <;> exact this
    · rw [if_neg q]
      exact this
theorem Dcts.lower (d : Dcts K H S kc kn kr) {z : Int} {x : Bx × Nat} (e : S.box z = some x) : Dcts K H (S.lower z) (putK kc (Sum.inl z) (.int ((x.2 - 1 : Nat) : Int))) kn kr := by
  obtain ⟨ks, hk, hn⟩ := d.ks
  have hs : (valV kc (Sum.inl z)).isSome = true := by rw [d.vc, e] <;> rfl
  refine ⟨d.ok.lower z, fun y => ?_, fun y => ?_, fun y => ?_, keys_put hk hn _ _, by rw [putK_has_len hs]; exact d.lc, d.ln, d.lr⟩
  · rw [valV_put]
    unfold PS.lower
    dsimp only
    by_cases q : y = z
    · rw [if_pos (inl_eq.mpr q), if_pos q, q, e] <;> rfl
    · rw [if_neg fun w => q (inl_eq.mp w), if_neg q, d.vc]
  · rw [d.vn]
    unfold PS.lower
    dsimp only
    by_cases q : y = z
    · rw [if_pos q]
      cases S.box y <;> rfl
    · rw [if_neg q]
  · have := d.vr y
    unfold PS.lower
    dsimp only
    by_cases q : y = z
    · rw [if_pos q]
      rw [q, e] at this ⊢
      obtain ⟨b, c⟩ := x
      cases b <;> exact this
    · rw [if_neg q]
      exact this
theorem Dcts.drop (d : Dcts K H S kc kn kr) (z : Int) : Dcts K H (S.drop z) (dropK kc (Sum.inl z)) (dropK kn (Sum.inl z)) (dropK kr (Sum.inl z)) := by
  obtain ⟨ks, hk, hn⟩ := d.ks
  refine ⟨d.ok.drop z, fun y => ?_, fun y => ?_, fun y => ?_, keys_drop hk hn _, Nat.le_trans (dropK_le _ _) d.lc, Nat.le_trans (dropK_le _ _) d.ln, Nat.le_trans (dropK_le _ _) d.lr⟩
  · rw [valV_dropK]
    unfold PS.drop
    dsimp only
    by_cases q : y = z
    · rw [if_pos (inl_eq.mpr q), if_pos q] <;> rfl
    · rw [if_neg fun w => q (inl_eq.mp w), if_neg q, d.vc]
  · rw [valV_dropK]
    unfold PS.drop
    dsimp only
    by_cases q : y = z
    · rw [if_pos (inl_eq.mpr q), if_pos q] <;> rfl
    · rw [if_neg fun w => q (inl_eq.mp w), if_neg q, d.vn]
  · have := d.vr y
    unfold PS.drop
    dsimp only
    by_cases q : y = z
    · rw [if_pos q]
      rw [valV_dropK, if_pos (inl_eq.mpr q)]
    · rw [if_neg q]
      have e : valV (dropK kr (Sum.inl z)) (Sum.inl y) = valV kr (Sum.inl y) := by rw [valV_dropK, if_neg fun w => q (inl_eq.mp w)]
      rw [e]
      exact this
theorem dropK_none {kvs : List (Key × V)} {k : Key} (h : valV kvs k = none) : dropK kvs k = kvs := by
  unfold dropK
  rw [List.filter_eq_self]
  intro p hp
  refine decide_eq_true fun q => ?_
  have : (valV kvs k).isSome = true := by
    rw [← valV_any, List.any_eq_true]
    exact ⟨p, hp, decide_eq_true q⟩
  rw [h] at this
  cases this
end
theorem upd_self {H : Hp} {a : Addr} {o : HO} (e : H a = some o) : upd H a o = H := by
  funext b
  by_cases q : b = a
  · rw [q, upd_same, e]
  · rw [upd_ne q]
theorem lf_pop {H : Hp} {a : Addr} {kvs : List (Key × V)} {k : Key} {R : Hp → Prop} (h : H a = some (.dK kvs)) (q : R (upd H a (.dK (dropK kvs k)))) :
    ∃ kvs' k', H a = some (.dK kvs') ∧ kV k = kV k' ∧ (∀ v, valV kvs' k' = some v → R (upd H a (.dK (dropK kvs' k')))) ∧ (valV kvs' k' = none → R H) :=
  ⟨kvs, k, h, rfl, fun _ _ => q, fun e => by rw [dropK_none e, upd_self h] at q; exact q⟩
theorem lf_popV {H : Hp} {a : Addr} {kvs : List (Key × V)} {k : Key} {x : V} {R : V → Hp → Prop} (h : H a = some (.dK kvs)) (q : R ((valV kvs k).getD x) (upd H a (.dK (dropK kvs k)))) :
    ∃ kvs' k', H a = some (.dK kvs') ∧ kV k = kV k' ∧ (∀ v, valV kvs' k' = some v → R v (upd H a (.dK (dropK kvs' k')))) ∧ (valV kvs' k' = none → R x H) :=
  ⟨kvs, k, h, rfl, fun v e => by rw [e] at q; exact q, fun e => by rw [e, dropK_none e, upd_self h] at q; exact q⟩
theorem pfs_init (A : PA) : putF "_rows" (.ref A.r) (putF "_numbers" (.ref A.n) (putF "_counts" (.ref A.c) (putF "made" (.int 0) []))) = pfs A 0 := by
  have h1 : ¬ (("made" : Str) = "_counts") := by decide +kernel
  have h2 : ¬ (("made" : Str) = "_numbers") := by decide +kernel
  have h3 : ¬ (("_counts" : Str) = "_numbers") := by decide +kernel
  have h4 : ¬ (("made" : Str) = "_rows") := by decide +kernel
  have h5 : ¬ (("_counts" : Str) = "_rows") := by decide +kernel
  have h6 : ¬ (("_numbers" : Str) = "_rows") := by decide +kernel
  simp only [putF, h1, h2, h3, h4, h5, h6, if_false]
  rfl
theorem Dcts.empty (K : PySem.W.Frag) (H : Hp) : Dcts K H PS.empty [] [] [] :=
  ⟨⟨fun _ _ h => (nomatch h), fun _ _ h => (nomatch h), Nat.zero_le _⟩, fun _ => rfl, fun _ => rfl, fun _ => rfl, ⟨[], rfl, List.nodup_nil⟩, Nat.le_refl _, Nat.le_refl _, Nat.le_refl _⟩
end My
namespace My
open PySem PySem.Spec PyProof.Rows L2
/-! ### pairs walked by two names -/
def g2 (K : PySem.W.Frag) (i j : Nat) : TG := gTup K 2 (gCons (gName i) (gCons (gName j) gNil))
theorem st_g2 {K : PySem.W.Frag} {i j : Nat} {p : Addr} {x y : V} {σ : L2.St} {H : Hp} {Q : L2.St → Hp → Prop} (h : SqT K H p [x, y]) (q : Q ((σ.set i (some x)).set j (some y)) H) : gTup K 2 (gCons (gName i) (gCons (gName j) gNil)) (.ref p) σ H Q :=
  ⟨p, [x, y], rfl, h, rfl, x, [y], rfl, y, [], rfl, rfl, q⟩
theorem st_loop2 {K : PySem.W.Frag} {J : It} {ws : List V} {rs : List (V × V)} {G : Hp → Prop} {i j : Nat} {tb : TS} {n : L2.St → Hp → Prop} {rt : VK} {b c : L2.St → Hp → Prop} {σ : L2.St} {H : Hp} (w : Walk J ws.length G (fun k H x H' => H' = H ∧ ws[k]? = some x)) (hl : ws.length = rs.length)
    (Pv : Nat → L2.St → Hp → Prop) (h0 : Pv 0 σ H) (hG : ∀ k σ H, k ≤ rs.length → Pv k σ H → G H ∧ PrV K H ws rs)
    (hs : ∀ (k : Nat) r σ H, rs[k]? = some r → Pv k σ H → tb ⟨Pv (k + 1), rt, n, Pv (k + 1)⟩ ((σ.set i (some r.1)).set j (some r.2)) H) (hd : ∀ σ H, Pv rs.length σ H → n σ H) : LF (gTup K 2 (gCons (gName i) (gCons (gName j) gNil))) tb ⟨n, rt, b, c⟩ σ J H := by
  refine for_it w Pv h0 (fun k σ H hk p => (hG k σ H (by omega) p).1) (fun k x σ H H' hk p y => ?_) (fun σ H p => hd σ H (by rw [← hl]; exact p))
  obtain ⟨rfl, y⟩ := y
  obtain ⟨_, pr⟩ := hG k σ H' (by omega) p
  obtain ⟨r, er⟩ : ∃ r, rs[k]? = some r := ⟨rs[k]'(by omega), List.getElem?_eq_getElem _⟩
  obtain ⟨q, eq, hq⟩ := pr.at er
  rw [eq] at y
  cases y
  exact st_g2 hq (hs k r σ H' er p)
/-- [f(a, b) for a, b in pairs], nothing made by a turn -/
theorem lc_2 {K : PySem.W.Frag} {J : It} {ws : List V} {rs : List (V × V)} {G : Hp → Prop} {i j : Nat} {te : TE} {vs : List Nat} {σ : L2.St} {H1 : Hp} {Q : VK} (w : Walk J ws.length G (fun k H x H' => H' = H ∧ ws[k]? = some x)) (pr : PrV K H1 ws rs) (hG : ∀ H', Gr H1 H' → G H') (f : V × V → V)
    (hs : ∀ (r : V × V) H2, r ∈ rs → Gr H1 H2 → ∀ Qy : VK, Qy (f r) H2 → te (((wipe σ vs).set i (some r.1)).set j (some r.2)) H2 Qy)
    (hq : ∀ D H2, H1 D = none → Gr H1 H2 → H2 D = some (.lst (rs.map f)) → Q (.ref D) H2)
    (hn : rs.length ≤ 1000000) (hw : ∀ a b, wipe (((wipe σ vs).set i (some a)).set j (some b)) vs = wipe σ vs) : LC (gTup K 2 (gCons (gName i) (gCons (gName j) gNil))) tYes te vs σ Q J H1 := by
  intro D hD
  have hl := pr.len
  refine lc_it w (fun k H' => Gr H1 H' ∧ H' D = some (.lst ((rs.take k).map f))) ⟨Gr.new hD, by rw [List.take_zero]; exact upd_same⟩ (fun k H' _ p => hG H' p.1) ?_ (fun H' p => hq D H' hD p.1 (by rw [hl, List.take_length] at p; exact p.2))
  rintro k x H' H'' hk ⟨g, e⟩ ⟨rfl, y⟩
  obtain ⟨r, er⟩ : ∃ r, rs[k]? = some r := ⟨rs[k]'(by omega), List.getElem?_eq_getElem _⟩
  obtain ⟨q, eq, hq2⟩ := (pr.gr g).at er
  rw [eq] at y
  cases y
  refine st_g2 hq2 ⟨hw _ _, ?_⟩
  refine iteT (B := Gr H1 H'' ∧ H'' D = some (HO.lst (List.map f (List.take (k + 1) rs)))) (hs r H'' (List.mem_of_getElem? er) g _ ⟨(rs.take k).map f, e, sz_lt ?_, g.mut hD, ?_⟩)
  · rw [List.length_map, List.length_take]
    omega
  · obtain ⟨hk2, ek⟩ := List.getElem?_eq_some_iff.mp er
    rw [List.take_succ_eq_append_getElem hk2, ek, List.map_append]
    exact upd_same
theorem st_truL {K : PySem.W.Frag} {H : Hp} {p : Addr} {xs : List V} {P : Bool → Prop} (h : SqL K H p xs) (q : P (!xs.isEmpty)) : ∃ k, TruV K (.ref p) H k ∧ P k := ⟨_, .inl ⟨xs, h, rfl⟩, q⟩
theorem st_pop {H : Hp} {Q : VK} {l : Addr} {xs : List V} {y : V} (h : H l = some (.lst (xs ++ [y]))) (q : Q y (upd H l (.lst xs))) : rPop (.ref l) [] H Q :=
  ⟨l, xs ++ [y], y, rfl, rfl, h, by rw [List.length_append, List.length_singleton, Nat.add_sub_cancel, List.getElem?_append_right (Nat.le_refl _), Nat.sub_self] <;> rfl, by rw [List.dropLast_concat]; exact q⟩
theorem st_max {H : Hp} {Q : VK} {i j : Int} (q : Q (.int (if j > i then j else i)) H) : ∃ i' j', [V.int i, V.int j] = [V.int i', V.int j'] ∧ Q (.int (if j' > i' then j' else i')) H := ⟨i, j, rfl, q⟩
theorem st_tupG {K : PySem.W.Frag} {P : Addr} {te : TE} {σ : L2.St} {H : Hp} {Q : VK} (h : te σ H fun v H1 => ∃ (yl : Addr) (vs : List V) (rs : List (V × V)), v = .ref yl ∧ SqL K H1 yl vs ∧ PrV K H1 vs rs ∧ GxR.TabG H1 P ∧ rs.length ≤ sizeLine ∧
  ∀ (t : Addr) (us : List V) (H2 : Hp), H1 t = none → Gr H1 H2 → H2 t = some (.tup us) → PrV K H2 us rs → Q (.ref t) H2) : TG.tTupG K P te σ H Q := h
theorem st_make {C : Addr} {sp : Sp} {E : XK} {σ : L2.St} {H : Hp} {Q : VK} (h : ∀ x dx, H x = none → H dx = none → dx ≠ x → sp [.ref x] (upd (upd H dx (.own x)) x (.ins C dx [])) (fun v H2 => v = .non ∧ Q (.ref x) H2) E) : tMake C sp [] E tNil σ H Q := h
theorem st_extend {K : PySem.W.Frag} {H : Hp} {Q : VK} {l m : Addr} {xs ys : List V} (h1 : H l = some (.lst xs)) (h2 : H m = some (.lst ys)) (hz : xs.length + ys.length ≤ sizeLine) (q : Q .non (upd H l (.lst (xs ++ ys)))) : rExtend (.ref l) [.ref m] H Q := ⟨l, m, xs, ys, rfl, rfl, h1, h2, hz, q⟩
theorem st_aug {i : Nat} {te : TE} {ti : TIp} {σ : L2.St} {H : Hp} {v : V} {n : L2.St → Hp → Prop} {rt : VK} {b c : L2.St → Hp → Prop} (e : σ[i]? = some (some v)) (h : te σ H fun y H1 => ti v y H1 fun z H2 => n (σ.set i (some z)) H2) : tAug i te ti ⟨n, rt, b, c⟩ σ H := ⟨v, e, h⟩
theorem st_ipI {g : Int → Int → Int} {i j : Int} {H : Hp} {Q : VK} (q : Q (.int (g i j)) H) : ipI g (.int i) (.int j) H Q := ⟨i, j, rfl, rfl, q⟩
theorem st_bm0 {K : PySem.W.Frag} {T : String} {rm : V → List V → Hp → VK → Prop} {ta : TE} {σ : L2.St} {H : Hp} {Q : VK} (h : ta σ H fun x H1 => tyV K T x H1 ∧ rm x [] H1 Q) : tBM0 K T rm ta σ H Q := h
section
variable {X : Cx} {k : Nat} {ps : List Str} {x : Str} {sp : Sp} {p pos : Pos} {e : Expr} {es : List Expr} {t : TA}
theorem pe_dS {E : L2.St → XK} (c : Df X.prog X.w X.K X.mg X.base k x ps sp) (hr : Room k X.A) (hg : Gl X x) (hx : ∀ σ, PassesAt (L2.CX X.prog X.w) X σ (E σ)) (ha : L2.PA X (e :: es) t)
    (hdb : (x == ("__debug__" : Str)) = false := by decide) (he : starEach (e :: es) X.env = (false, eval e X.env) :: starEach es X.env := by rfl) (hpl : (backTo pos (starEach es X.env)).any (·.1) = false := by rfl) :
    PE X (.Call (.Name x p) (e :: es) [] pos) (tCallS sp E t) := by
  obtain ⟨f, fd, F, hm, kp, b⟩ := c.ex
  exact pe_callS F hr hg hm kp b hx ha hdb he hpl
end
theorem st_callS {sp : Sp} {E : L2.St → XK} {t : TA} {σ : L2.St} {H : Hp} {Q : VK} (h : t σ H fun vs H1 => sp vs H1 Q (E σ)) : tCallS sp E t σ H Q := h
end My
namespace My
open PySem PySem.Spec PyProof.Rows L2
/-! ### lists of numbers and of pairs, held against each other -/
theorem dp_ints {K : PySem.W.Frag} {H : Hp} : ∀ ys : List Int, DpAll K H (ys.map V.int) (ys.map PyData.int)
  | [] => .nil
  | y :: r => .cons (.int y) (dp_ints r)
theorem lay_ints : ∀ ys : List Int, PyData.canLayAll0 (ys.map PyData.int) = true
  | [] => rfl
  | y :: r => by rw [List.map_cons, PyData.canLayAll0, lay_ints r] <;> rfl
theorem depth_ints : ∀ ys : List Int, PyData.depthAll (ys.map PyData.int) = 0
  | [] => rfl
  | y :: r => by
    rw [List.map_cons, PyData.depthAll, depth_ints r]
    rfl
theorem shaped_ints (ys : List Int) : SeqAt.shaped (.list (ys.map PyData.int)) = true := by
  unfold SeqAt.shaped
  rw [PyData.depth, depth_ints]
  show (PyData.canLayAll0 _ && _) = true
  rw [lay_ints] <;> rfl
theorem eqv_ints : ∀ xs ys : List Int, PyData.eqvAll (xs.map PyData.int) (ys.map PyData.int) = decide (xs = ys)
  | [], [] => rfl
  | [], _ :: _ => rfl
  | _ :: _, [] => rfl
  | x :: xs, y :: ys => by
    rw [List.map_cons, List.map_cons, PyData.eqvAll, eqv_ints xs ys, PyData.eqv]
    by_cases h : x = y
    · by_cases h2 : xs = ys <;> simp [h, h2]
    · simp [h]
theorem st_eqI {K : PySem.W.Frag} {H : Hp} {Q : VK} {p q : Addr} {xs ys : List Int} (h : SqL K H p (xs.map V.int)) (h2 : SqL K H q (ys.map V.int)) (k : Q (.bl (decide (xs = ys))) H) : rEqD K (.ref p) (.ref q) H Q := by
  refine ⟨.list (xs.map PyData.int), .list (ys.map PyData.int), .lst h (dp_ints xs), .lst h2 (dp_ints ys), shaped_ints xs, shaped_ints ys, ?_⟩
  rw [PyData.eqv, eqv_ints]
  exact k
theorem st_neI {K : PySem.W.Frag} {H : Hp} {Q : VK} {p q : Addr} {xs ys : List Int} (h : SqL K H p (xs.map V.int)) (h2 : SqL K H q (ys.map V.int)) (k : Q (.bl (!decide (xs = ys))) H) : rNeD K (.ref p) (.ref q) H Q := by
  refine ⟨.list (xs.map PyData.int), .list (ys.map PyData.int), .lst h (dp_ints xs), .lst h2 (dp_ints ys), shaped_ints xs, shaped_ints ys, ?_⟩
  rw [PyData.eqv, eqv_ints]
  exact k
theorem st_neRR {K : PySem.W.Frag} {H : Hp} {Q : VK} {p q : Addr} {us vs : List V} {rs : Rw} (h : SqL K H p us) (pu : Prs K H us rs) (h2 : SqL K H q vs) (pv : Prs K H vs rs) (hok : lowR rs) (k : Q (.bl false) H) : rNeD K (.ref p) (.ref q) H Q := by
  refine ⟨.list (rs.map rowD), .list (rs.map rowD), .lst h (dp_rows pu), .lst h2 (dp_rows pv), shaped_rows hok, shaped_rows hok, ?_⟩
  rw [PyData.eqv, SeqAt.eqvAll_refl _ (lay_rows hok)]
  exact k
theorem lay_row {r : Str × Int} (h : lowS r.1 = true) : PyData.canLay0 (rowD r) = true := by
  show PyData.canLayAll0 [.str r.1, .int r.2] = true
  rw [PyData.canLayAll0, PyData.canLay0, lowS_ok h] <;> rfl
theorem shaped_row {r : Str × Int} (h : lowS r.1 = true) : SeqAt.shaped (rowD r) = true := by
  unfold SeqAt.shaped
  rw [lay_row h] <;> rfl
theorem st_nePair {K : PySem.W.Frag} {H : Hp} {Q : VK} {p q : Addr} {r : Str × Int} (h : SqT K H p [.str r.1, .int r.2]) (h2 : SqT K H q [.str r.1, .int r.2]) (hok : lowS r.1 = true) (k : Q (.bl false) H) : rNeD K (.ref p) (.ref q) H Q := by
  refine ⟨rowD r, rowD r, .tup h (.cons (.str _) (.cons (.int _) .nil)), .tup h2 (.cons (.str _) (.cons (.int _) .nil)), shaped_row hok, shaped_row hok, ?_⟩
  rw [SeqAt.eqv_refl _ (lay_row hok)]
  exact k
/-! ### heaps -/
theorem Gx.gr {F : Addr → Prop} {H H1 H2 : Hp} (hf : ∀ b, F b → H b = none) (g : Gr H H1) (x : Gx F H1 H2) : Gr H H2 :=
  ⟨fun b o e n => x.keep b o (g.keep b o e n) (fun z => by rw [hf b z] at e; cases e) n, fun b t => x.tab b (g.tab b t), fun b o e => by
    obtain ⟨o1, e1⟩ := g.there b o e
    exact x.there b o1 e1⟩
def F2 (i c b : Addr) : Prop := b = i ∨ b = c
def F3 (A : PA) (i c b : Addr) : Prop := A.foot b ∨ F2 i c b
theorem ints_ext {xs ys : List Int} (hx : xs.Pairwise (· < ·)) (hy : ys.Pairwise (· < ·)) (h : ∀ z, z ∈ xs ↔ z ∈ ys) : xs = ys :=
  List.Perm.eq_of_pairwise (le := (· < ·)) (fun a b _ _ h1 h2 => by omega) hx hy ((List.perm_ext_iff_of_nodup (hx.imp fun {a b} h => by omega) (hy.imp fun {a b} h => by omega)).mpr h)
theorem upto (a : Nat) : ((List.range a).map fun (i : Nat) => (i : Int) + 1).Pairwise (· < ·) ∧ ∀ z : Int, z ∈ ((List.range a).map fun (i : Nat) => (i : Int) + 1) ↔ 1 ≤ z ∧ z ≤ a := by
  refine ⟨List.pairwise_map.mpr (List.pairwise_lt_range.imp fun {x y} h => by omega), fun z => ?_⟩
  rw [List.mem_map]
  constructor
  · rintro ⟨i, hi, rfl⟩
    have := List.mem_range.mp hi
    omega
  · intro h
    exact ⟨z.toNat - 1, List.mem_range.mpr (by omega), by omega⟩
/-- rising and each once -/
theorem lt_of_perm {ys ks : List Int} (hp : ys.Perm ks) (hn : ks.Nodup) (hs : ys.Pairwise (· ≤ ·)) : ys.Pairwise (· < ·) := by
  have h2 : ys.Nodup := hp.nodup_iff.mpr hn
  exact (List.pairwise_and_iff.mpr ⟨hs, h2⟩).imp fun {a b} h => by
    obtain ⟨h1, h3⟩ := h
    omega
/-! ### a pile whose boxes stand one above the other -/
theorem PS.holds_rep (S : PS) (z : Int) : ∀ (m : Nat) (y : Int), (S.holds (List.replicate m z)).box y = if y = z then (S.box y).map (fun x => (x.1, x.2 + m)) else S.box y
  | 0, y => by
    show S.box y = _
    split
    · cases S.box y <;> rfl
    · rfl
  | m + 1, y => by
    rw [List.replicate_succ', PS.holds_snoc]
    unfold PS.hold
    dsimp only
    by_cases q : y = z
    · rw [if_pos q, if_pos q, PS.holds_rep S z m y, if_pos q]
      cases S.box y <;> rfl
    · rw [if_neg q, if_neg q, PS.holds_rep S z m y, if_neg q]
structure Ch (S : PS) (j m c : Nat) : Prop where
  out : ∀ z : Int, ¬ (1 ≤ z ∧ z ≤ j) → S.box z = none
  each : ∀ z : Int, 1 ≤ z → z ≤ j → ∃ b : Bx, S.box z = some (b, if z = j then c else m) ∧ b.rows.map (·.2) = if z = 1 then [] else List.replicate m (z - 1)
theorem Ch.lower {S : PS} {j m c : Nat} (h : Ch S j m c) : Ch (S.lower j) j m (c - 1) := by
  refine ⟨fun z hz => ?_, fun z h1 h2 => ?_⟩
  · unfold PS.lower
    dsimp only
    rw [h.out z hz]
    split <;> rfl
  · obtain ⟨b, e1, e2⟩ := h.each z h1 h2
    refine ⟨b, ?_, e2⟩
    unfold PS.lower
    dsimp only
    by_cases q : z = (j : Int)
    · rw [if_pos q, e1, if_pos q, if_pos q] <;> rfl
    · rw [if_neg q, e1, if_neg q, if_neg q]
theorem Ch.drop {S : PS} {j m c : Nat} (h : Ch S (j + 1) m c) : Ch (S.drop ((j + 1 : Nat) : Int)) j m m := by
  refine ⟨fun z hz => ?_, fun z h1 h2 => ?_⟩
  · unfold PS.drop
    dsimp only
    by_cases q : z = ((j + 1 : Nat) : Int)
    · rw [if_pos q]
    · rw [if_neg q]
      exact h.out z (by omega)
  · obtain ⟨b, e1, e2⟩ := h.each z h1 (by omega)
    refine ⟨b, ?_, e2⟩
    unfold PS.drop
    dsimp only
    rw [if_neg (by omega), e1, if_neg (by omega)]
    split <;> rfl
theorem Ch.top {m j c : Nat} {S : PS} (ok : S.Ok) (h : Ch S (j + 1) m c) (hc : c ≤ 1) (g : Nat) : PS.run (S.left [((j + 1 : Nat) : Int)]) S [((j + 1 : Nat) : Int)] g = PS.run ((S.drop ((j + 1 : Nat) : Int)).left (if j = 0 then [] else List.replicate m (j : Int))) (S.drop ((j + 1 : Nat) : Int)) (if j = 0 then [] else List.replicate m (j : Int)) (g + 1) := by
  obtain ⟨b, e1, e2⟩ := h.each ((j + 1 : Nat) : Int) (by omega) (Int.le_refl _)
  rw [if_pos rfl] at e1
  rw [PS.run_cons ok]
  unfold PS.step
  rw [e1]
  dsimp only
  rw [if_pos (by omega : c - 1 = 0), e2]
  dsimp only
  by_cases q : j = 0
  · rw [if_pos q, if_pos (by omega)] <;> rfl
  · rw [if_neg q, if_neg (by omega), List.reverse_replicate, List.append_nil, show ((j + 1 : Nat) : Int) - 1 = (j : Int) by omega] <;> rfl
theorem Ch.more {m j c : Nat} {S : PS} (ok : S.Ok) (h : Ch S (j + 1) m (c + 2)) (g : Nat) : PS.run (S.left (List.replicate (c + 2) ((j + 1 : Nat) : Int))) S (List.replicate (c + 2) ((j + 1 : Nat) : Int)) g = PS.run ((S.lower ((j + 1 : Nat) : Int)).left (List.replicate (c + 1) ((j + 1 : Nat) : Int))) (S.lower ((j + 1 : Nat) : Int)) (List.replicate (c + 1) ((j + 1 : Nat) : Int)) g := by
  obtain ⟨b, e1, e2⟩ := h.each ((j + 1 : Nat) : Int) (by omega) (Int.le_refl _)
  rw [if_pos rfl] at e1
  rw [List.replicate_succ, PS.run_cons ok]
  unfold PS.step
  rw [e1]
  dsimp only
  rw [if_neg (by omega : ¬ c + 2 - 1 = 0)] <;> rfl
theorem Ch.run {m : Nat} (hm : 1 ≤ m) : ∀ (j c : Nat) (S : PS) (n g : Nat), S.Ok → Ch S (j + 1) m c → n = max 1 c →
    (∀ z, (PS.run (S.left (List.replicate n ((j + 1 : Nat) : Int))) S (List.replicate n ((j + 1 : Nat) : Int)) g).1.box z = none) ∧ (PS.run (S.left (List.replicate n ((j + 1 : Nat) : Int))) S (List.replicate n ((j + 1 : Nat) : Int)) g).2 = g + (j + 1) := by
  intro j
  induction j with
  | zero =>
    have low : ∀ (c : Nat) (S : PS) (g : Nat), c ≤ 1 → S.Ok → Ch S (0 + 1) m c → (∀ z, (PS.run (S.left [((0 + 1 : Nat) : Int)]) S [((0 + 1 : Nat) : Int)] g).1.box z = none) ∧ (PS.run (S.left [((0 + 1 : Nat) : Int)]) S [((0 + 1 : Nat) : Int)] g).2 = g + (0 + 1) := fun c S g hc ok h => by
      rw [h.top ok hc, if_pos rfl, PS.run_nil]
      exact ⟨fun z => h.drop.out z (by omega), rfl⟩
    intro c
    induction c with
    | zero => intro S n g ok h hn; rw [hn]; exact low 0 S g (by omega) ok h
    | succ c ih =>
      intro S n g ok h hn
      cases c with
      | zero => rw [hn]; exact low 1 S g (by omega) ok h
      | succ c =>
        rw [show n = c + 2 by omega, h.more ok]
        exact ih _ _ _ (ok.lower _) h.lower (by omega)
  | succ j ihj =>
    have low : ∀ (c : Nat) (S : PS) (g : Nat), c ≤ 1 → S.Ok → Ch S (j + 1 + 1) m c → (∀ z, (PS.run (S.left [((j + 1 + 1 : Nat) : Int)]) S [((j + 1 + 1 : Nat) : Int)] g).1.box z = none) ∧ (PS.run (S.left [((j + 1 + 1 : Nat) : Int)]) S [((j + 1 + 1 : Nat) : Int)] g).2 = g + (j + 1 + 1) := fun c S g hc ok h => by
      rw [h.top ok hc, if_neg (by omega)]
      obtain ⟨k1, k2⟩ := ihj m _ m (g + 1) (ok.drop _) h.drop (by omega)
      exact ⟨k1, by rw [k2]; omega⟩
    intro c
    induction c with
    | zero => intro S n g ok h hn; rw [hn]; exact low 0 S g (by omega) ok h
    | succ c ih =>
      intro S n g ok h hn
      cases c with
      | zero => rw [hn]; exact low 1 S g (by omega) ok h
      | succ c =>
        rw [show n = c + 2 by omega, h.more ok]
        exact ih _ _ _ (ok.lower _) h.lower (by omega)
theorem Ch.letGo {m j : Nat} {S : PS} (hm : 1 ≤ m) (ok : S.Ok) (h : Ch S (j + 1) m 0) : (∀ z, (S.letGo ((j : Int) + 1)).1.box z = none) ∧ (S.letGo ((j : Int) + 1)).2 = j + 1 := by
  obtain ⟨h1, h2⟩ := h.run hm j 0 S 1 0 ok rfl
  rw [PS.letGo_eq]
  exact ⟨h1, by rw [Nat.zero_add] at h2; exact h2⟩
/-- one more on top -/
theorem Ch.new {m j : Nat} {S : PS} (h : Ch S (j + 1) m 0) (hmade : S.made = j + 1) {b : Bx} (hb : b.rows.map (·.2) = List.replicate m ((j : Int) + 1)) : Ch ((S.holds (List.replicate m ((j : Int) + 1))).new b) (j + 2) m 0 := by
  have em : (S.holds (List.replicate m ((j : Int) + 1))).made = j + 1 := by rw [PS.holds_made, hmade]
  refine ⟨fun z hz => ?_, fun z h1 h2 => ?_⟩
  · unfold PS.new
    dsimp only
    rw [em, if_neg (by omega), PS.holds_rep, h.out z (by omega)]
    split <;> rfl
  · unfold PS.new
    dsimp only
    rw [em]
    by_cases q : z = ((j + 1 : Nat) : Int) + 1
    · refine ⟨b, by rw [if_pos q, if_pos (by omega)], ?_⟩
      rw [hb, if_neg (by omega), show z - 1 = (j : Int) + 1 by omega]
    · obtain ⟨b', e1, e2⟩ := h.each z h1 (by omega)
      refine ⟨b', ?_, e2⟩
      rw [if_neg q, PS.holds_rep, e1, if_neg (show ¬ z = ((j + 2 : Nat) : Int) by omega)]
      by_cases q2 : z = (j : Int) + 1
      · rw [if_pos q2, if_pos (by omega)]
        show some (b', 0 + m) = _
        rw [Nat.zero_add]
      · rw [if_neg q2, if_neg (by omega)]
section
variable {X : Cx}
theorem cMax {K : PySem.W.Frag} (h : X.K = K) (hc : X.calm = true) : CallR X (.builtin "max") (rMax K) := h ▸ cr_max hc
theorem cSetX {K : PySem.W.Frag} (h : X.K = K) (hc : X.calm = true) : CallR X (.type "set") (rSetX K X.w) := h ▸ cr_setX hc
end
/-! ### a text so many times -/
def repS (z : Str) (k : Nat) : Str := ⟨(List.replicate k z.cps).foldl (· ++ ·) #[]⟩
theorem fold_tl (a : Array Nat) : ∀ (k : Nat) (b : Array Nat), ((List.replicate k a).foldl (· ++ ·) b).toList = b.toList ++ (List.replicate k a.toList).flatten
  | 0, b => by simp
  | k + 1, b => by
    rw [List.replicate_succ, List.foldl_cons, fold_tl a k, List.replicate_succ, List.flatten_cons]
    simp
theorem repS_tl (z : Str) (k : Nat) : (repS z k).cps.toList = (List.replicate k z.cps.toList).flatten := by
  unfold repS
  rw [fold_tl]
  simp
theorem repS_len (z : Str) (k : Nat) : (repS z k).length = k * z.length := by
  rw [len_tl, repS_tl, len_tl]
  simp
theorem repS_low {z : Str} (h : lowS z = true) (k : Nat) : lowS (repS z k) = true := by
  unfold lowS at h ⊢
  rw [repS_tl, List.all_eq_true]
  intro c hc
  obtain ⟨l, hl, hc⟩ := List.mem_flatten.mp hc
  rw [(List.mem_replicate.mp hl).2] at hc
  exact List.all_eq_true.mp h c hc
def rMulS : R2 := fun x y H Q => ∃ (z : Str) (k : Nat), x = .str z ∧ y = .int (k : Int) ∧ 1 ≤ z.length ∧ z.length ≤ 16 ∧ k ≤ 1000 ∧ Q (.str (repS z k)) H
theorem oMulS {X : Cx} : OpR X (binaryOp .Mult) rMulS := by
  intro pins s σ H x y v u Q I rx ry h
  obtain ⟨z, k, rfl, rfl, h1, h2, hk, q⟩ := h
  obtain ⟨t, rfl⟩ := rx
  obtain ⟨t', rfl⟩ := ry
  have hlen : ((z.length : Nat) : Int) ≤ 16 := by omega
  have hk63 : (decide ((k : Int) < -(2 ^ 63 : Int)) || decide ((k : Int) ≥ 2 ^ 63)) = false := by
    rw [decide_eq_false (by omega), decide_eq_false (by omega)] <;> rfl
  have small : z.length * k ≤ 16000 := Nat.mul_le_mul h2 hk
  have notlong : PySem.Builtin.Str.tooLong (z.length * k) = false := decide_eq_false (by have : z.length * k ≤ 16000 := small; show ¬ z.length * k > 16777216; omega)
  refine P.mul_str (n := (k : Int)) hk63 (fun hn _ => ?_) (fun _ _ => by rw [Int.toNat_natCast]; exact notlong) ?_
  · have h3 : (1000 : Int) * 16 ≤ 2 ^ 63 - 1 := by decide
    have : (16 : Int) ≤ (2 ^ 63 - 1) / (k : Int) := (Int.le_ediv_iff_mul_le (by omega)).mpr (by omega)
    omega
  · have z0 : (z.length == 0) = false := by
      rw [beq_eq_false_iff_ne]
      omega
    by_cases hn : (k : Int) < 1
    · rw [if_pos hn]
      have ek : k = 0 := by omega
      subst ek
      refine ⟨by decide, ⟨.str (repS z 0), H, I.tok _, ⟨_, rfl⟩, q⟩⟩
    · rw [if_neg hn]
      by_cases h11 : ((k : Int) == 1 || z.length == 0) = true
      · rw [if_pos h11]
        rw [z0, Bool.or_false, beq_iff_eq] at h11
        have ek : k = 1 := by omega
        subst ek
        have e1 : repS z 1 = z := str_ext (by rw [repS_tl]; simp)
        rw [e1] at q
        exact ⟨.str z, H, I, ⟨_, rfl⟩, q⟩
      · rw [if_neg h11, Int.toNat_natCast]
        refine ⟨?_, ⟨.str (repS z k), H, I.tok _, ⟨_, rfl⟩, q⟩⟩
        show (repS z k).length ≤ sizeLine
        rw [repS_len, Nat.mul_comm, sizeLine_eq]
        omega
theorem st_mulS {H : Hp} {Q : VK} {z : Str} {k : Nat} (h1 : 1 ≤ z.length) (h2 : z.length ≤ 16) (hk : k ≤ 1000) (q : Q (.str (repS z k)) H) : rMulS (.str z) (.int (k : Int)) H Q := ⟨z, k, rfl, rfl, h1, h2, hk, q⟩
end My
namespace My
open PySem PySem.Spec PyProof.Rows L2
local macro_rules | `(tactic| walk_at "v") => `(tactic| ((with_reducible show tVar _ _ _ _); (refine st_var (by rfl) ?_)))
local macro_rules | `(tactic| walk_at "sx") => `(tactic| first
  | walk_at "v"
  | with_reducible refine st_c ?_
  | with_reducible refine st_fld ?_
  | with_reducible refine st_meth ?_
  | with_reducible refine st_putFld ?_
  | with_reducible refine st_op ?_
  | with_reducible refine st_seq ?_
  | with_reducible refine st_asg ?_
  | with_reducible refine st_ifS ?_
  | with_reducible refine st_next ?_
  | with_reducible refine st_ret ?_
  | with_reducible refine st_drop ?_
  | with_reducible refine st_nil ?_
  | with_reducible refine st_cons ?_
  | with_reducible refine st_CB ?_
  | with_reducible refine st_call ?_
  | with_reducible refine st_test ?_
  | with_reducible refine st_tB ?_
  | with_reducible refine st_bl ?_
  | with_reducible refine st_and ?_
  | with_reducible refine st_or ?_
  | with_reducible refine st_not ?_
  | with_reducible refine st_yes ?_
  | with_reducible refine st_andV ?_
  | with_reducible refine st_orV ?_
  | with_reducible refine st_notV ?_
  | with_reducible refine st_ifE ?_
  | with_reducible refine st_chain ?_
  | with_reducible refine st_I0 ?_
  | with_reducible refine st_m1 ?_
  | with_reducible refine st_bm ?_
  | with_reducible refine st_lst ?_
  | with_reducible refine st_tup ?_
  | with_reducible refine st_sl ?_
  | with_reducible refine st_noPart ?_
  | with_reducible refine st_part ?_
  | with_reducible refine st_exi ?_
  | with_reducible refine st_asgSub ?_
  | with_reducible refine st_lc ?_
  | with_reducible refine st_for ?_
  | with_reducible refine st_iL ?_
  | with_reducible refine st_iT ?_
  | with_reducible refine st_iR ?_
  | with_reducible refine st_iS ?_
  | with_reducible refine st_exS ?_
  | with_reducible refine st_starts ?_
  | ((with_reducible refine st_eqS ?hsc ?_); (case hsc => rfl))
  | ((with_reducible refine st_neS ?hsc ?_); (case hsc => rfl))
  | ((with_reducible refine st_eq ?hsc ?_); (case hsc => rfl))
  | ((with_reducible refine st_ne ?hsc ?_); (case hsc => rfl))
  | with_reducible refine st_inSign ?_
  | with_reducible refine isNo_non ?_
  | with_reducible refine isNo_int ?_
  | with_reducible refine isNo_ref ?_
  | with_reducible refine isNo_str ?_
  | with_reducible refine isNot_non ?_
  | with_reducible refine isNot_int ?_
  | with_reducible refine isNot_ref ?_
  | with_reducible refine isNot_str ?_
  | with_reducible refine st_isNo ?_
  | with_reducible refine st_strx ?_
  | with_reducible refine st_tAllS ?_
  | with_reducible refine iteT ?_
  | with_reducible refine iteNT ?_
  | with_reducible refine iteNF ?_
  | with_reducible refine iteF ?_)
local macro_rules | `(tactic| walk_at "sq") => `(tactic| first
  | assumption
  | (refine Gr.l (by assumption) ?_; walk_at "sq")
  | (refine Gr.t (by assumption) ?_; walk_at "sq")
  | (refine Gr.ty (by assumption) ?_; walk_at "sq")
  | (refine Gr.lst (by assumption) ?_; walk_at "sq")
  | (refine Gr.tab (by assumption) _ ?_; walk_at "sq"))
local macro_rules | `(tactic| walk_at "new") => `(tactic| (intro p hp; generalize hH : upd _ p _ = H2; have g := gr_of hp hH; have e := at_of hH; clear hH))
local macro_rules | `(tactic| walk_at "dx") => `(tactic| first
  | with_reducible refine st_bm0 ?_
  | with_reducible refine st_make ?_
  | with_reducible refine st_fldAug ?_
  | with_reducible refine st_dget ?_
  | with_reducible refine st_din ?_
  | with_reducible refine st_dnotin ?_
  | with_reducible refine st_dput ?_
  | with_reducible refine st_daug ?_
  | with_reducible refine st_ddel ?_
  | with_reducible refine st_dget2 ?_
  | with_reducible refine st_dpop2 ?_
  | with_reducible refine st_dnewK ?_
  | with_reducible refine st_delL ?_
  | with_reducible refine st_ltS ?_)
/-! ### the text by places -/
def top (i : Nat) : Stmt := PySem.Challenge.pw_snaptree_k08_whole_pile.main.body.getD i (.Pass ⟨0, 0, 0, 0⟩)
abbrev s_wall : Stmt := top 0
abbrev sisWhole : Stmt := top 5
abbrev splInit : Stmt := inClass (top 7) 0
abbrev splLeaf : Stmt := inClass (top 7) 1
abbrev splBranch : Stmt := inClass (top 7) 2
abbrev splContent : Stmt := inClass (top 7) 3
abbrev splHold : Stmt := inClass (top 7) 4
abbrev splHolders : Stmt := inClass (top 7) 5
abbrev splLetGo : Stmt := inClass (top 7) 6
abbrev splKept : Stmt := inClass (top 7) 7
abbrev splKindOf : Stmt := inClass (top 7) 8
abbrev splNumberOf : Stmt := inClass (top 7) 9
abbrev splRowsOf : Stmt := inClass (top 7) 10
abbrev splNext : Stmt := inClass (top 7) 11
abbrev splRefuse : Stmt := inClass (top 7) 12
abbrev splLowered : Stmt := inClass (top 7) 13
abbrev splTaken : Stmt := inClass (top 7) 14
abbrev swhole : Stmt := top 9
abbrev scount : Stmt := top 10
abbrev srowsBy : Stmt := top 11
abbrev salike : Stmt := top 12
abbrev sgoneL : Stmt := top 13
abbrev srefusedL : Stmt := top 14
abbrev sasDue : Stmt := top 15
abbrev sstepL : Stmt := top 16
abbrev schain : Stmt := top 17
abbrev slaw : Stmt := top 18
structure Txt (K : PySem.W.Frag) (mg : Str → Option Value) (C_Pile E_NoBox : Addr) : Prop where
  len : mg "len" = none
  isinstance : mg "isinstance" = none
  range : mg "range" = none
  sorted : mg "sorted" = none
  all : mg "all" = none
  max : mg "max" = none
  int : mg "int" = none
  bool : mg "bool" = none
  str : mg "str" = none
  list : mg "list" = none
  tuple : mg "tuple" = none
  set : mg "set" = none
  cl_Pile : Cls K C_Pile
  mg_Pile : mg "Pile" = some (.ref C_Pile)
  n_Pile_made : NoAttr K C_Pile "made"
  n_Pile__counts : NoAttr K C_Pile "_counts"
  n_Pile__numbers : NoAttr K C_Pile "_numbers"
  n_Pile__rows : NoAttr K C_Pile "_rows"
  mg_NoBox : mg "NoBox" = some (.ref E_NoBox)
  x_NoBox : PySem.W.excIn K E_NoBox [.type "ValueError", .type "Exception", .type "BaseException", .type "object"] "ValueError.__new__" = true
  k_NoBox : PySem.W.keepIn K (.ref E_NoBox) = true
  b_NoBox : PySem.W.subIn K (.ref E_NoBox) (.type "BaseException") = some true
  t_NoBox : PySem.W.typeIn K (.ref E_NoBox) = some (.type "type")
  e_NoBox : PySem.W.exmOne K (.ref E_NoBox) (.ref E_NoBox) = some true
  c_NoBox : ExcC K E_NoBox
/-! ### whole.py, pile.py: the promises -/
def Odd (K : PySem.W.Frag) (H : Hp) (x : V) : Prop := ∃ (m : String) (b1 b2 : Bool), TyX K H x (.type m) ∧ kitB m "int" = some b1 ∧ kitB m "bool" = some b2 ∧ (b1 && !b2) = false
def spIsWhole (K : PySem.W.Frag) : Sp := fun vs H Q _ => ∃ x, vs = [x] ∧ ((∃ z, x = .int z ∧ Q (.bl true) H) ∨ (Odd K H x ∧ Q (.bl false) H))
/-- a box is asked for -/
def Ask (K : PySem.W.Frag) (H : Hp) (S : PS) (x : V) (ok : Int → Bx → Nat → Prop) (bad : Prop) : Prop := (∃ z, x = .int z ∧ (∀ b c, S.box z = some (b, c) → ok z b c) ∧ (S.box z = none → bad)) ∨ (Odd K H x ∧ bad)
def spRefuse (K : PySem.W.Frag) (C B : Addr) : Sp := fun vs H Q E => ∃ (A : PA) (S : PS) (x : V), vs = [.ref A.p, x] ∧ PileAt K C H A S ∧ Ask K H S x (fun _ _ _ => Q .non H) (E (.ref B) none H)
def spNext (C : Addr) : Sp := fun vs H Q _ => ∃ (A : PA) (m : Nat) (kc : List (Key × V)), vs = [.ref A.p] ∧ H A.p = some (.ins C A.dx (pfs A m)) ∧ H A.c = some (.dK kc) ∧ kc.length ≤ 500000 ∧
  Q (.int ((m : Int) + 1)) (upd (upd H A.p (.ins C A.dx (pfs A ((m : Int) + 1)))) A.c (.dK (putK kc (Sum.inl ((m : Int) + 1)) (.int 0))))
/-- a deed that leaves the pile as S' -/
def Did (K : PySem.W.Frag) (C : Addr) (H : Hp) (A : PA) (S' : PS) (k : Hp → Prop) : Prop := ∀ H', Gx A.foot H H' → PileAt K C H' A S' → k H'
def spLeaf (K : PySem.W.Frag) (C : Addr) : Sp := fun vs H Q _ => ∃ (A : PA) (S : PS) (n : Int), vs = [.ref A.p, .int n] ∧ PileAt K C H A S ∧ S.made ≤ 2900 ∧ Did K C H A (S.new (.leaf n)) (Q (.int ((S.made : Int) + 1)))
/-- a row's box that is there; one that is not -/
def There (S : PS) (x : V) : Prop := ∃ z b, x = .int z ∧ S.box z = some b
def Gone (K : PySem.W.Frag) (H : Hp) (S : PS) (x : V) : Prop := (∃ z, x = .int z ∧ S.box z = none) ∨ Odd K H x
def spBranch (K : PySem.W.Frag) (C B Pt : Addr) : Sp := fun vs H Q E => ∃ (A : PA) (S : PS) (l : Addr) (us : List V) (ps : List (V × V)), vs = [.ref A.p, .ref l] ∧ PileAt K C H A S ∧ SqL K H l us ∧ PrV K H us ps ∧ ps.length ≤ 5000 ∧ S.made ≤ 2900 ∧ GxR.TabG H Pt ∧
  ((∃ rs : Rw, ps = rs.map rwV ∧ (∀ r ∈ rs, There S (.int r.2)) ∧ Did K C H A ((S.holds (rs.map (·.2))).new (.branch rs)) (Q (.int ((S.made : Int) + 1)))) ∨
   ((∃ p ∈ ps, Gone K H S p.2) ∧ (∀ p ∈ ps, There S p.2 ∨ Gone K H S p.2) ∧ ∀ H', Gr H H' → E (.ref B) none H'))
/-- what is told of a box -/
def Told (K : PySem.W.Frag) (H : Hp) (b : Bx) (t : Addr) : Prop := match b with
  | .leaf n => H t = some (.tup [.str "leaf", .int n])
  | .branch rs => ∃ l us, H t = some (.tup [.str "branch", .ref l]) ∧ H l = some (.lst us) ∧ Prs K H us rs
def spContent (K : PySem.W.Frag) (C B : Addr) : Sp := fun vs H Q E => ∃ (A : PA) (S : PS) (x : V), vs = [.ref A.p, x] ∧ PileAt K C H A S ∧
  Ask K H S x (fun _ b _ => ∀ t H', H t = none → Gr H H' → Told K H' b t → (∀ l us rs, b = .branch rs → H' t = some (.tup [.str "branch", .ref l]) → H' l = some (.lst us) → H l = none) → Q (.ref t) H') (E (.ref B) none H)
def spHold (K : PySem.W.Frag) (C B : Addr) : Sp := fun vs H Q E => ∃ (A : PA) (S : PS) (x : V), vs = [.ref A.p, x] ∧ PileAt K C H A S ∧ Ask K H S x (fun z _ _ => Did K C H A (S.hold z) (Q .non)) (E (.ref B) none H)
def spHolders (K : PySem.W.Frag) (C B : Addr) : Sp := fun vs H Q E => ∃ (A : PA) (S : PS) (x : V), vs = [.ref A.p, x] ∧ PileAt K C H A S ∧ Ask K H S x (fun _ _ c => Q (.int c) H) (E (.ref B) none H)
def spLetGo (K : PySem.W.Frag) (C B : Addr) : Sp := fun vs H Q E => ∃ (A : PA) (S : PS) (x : V), vs = [.ref A.p, x] ∧ PileAt K C H A S ∧ Ask K H S x (fun z _ _ => Did K C H A (S.letGo z).1 (Q (.int (S.letGo z).2))) (E (.ref B) none H)
def spKept (K : PySem.W.Frag) (C : Addr) : Sp := fun vs H Q _ => ∃ (A : PA) (S : PS), vs = [.ref A.p] ∧ PileAt K C H A S ∧
  ∀ (l : Addr) (zs : List Int) H', H l = none → Gr H H' → H' l = some (.lst (zs.map V.int)) → zs.Pairwise (· < ·) → (∀ z, z ∈ zs ↔ (S.box z).isSome = true) → Q (.ref l) H'
def spLowered (K : PySem.W.Frag) (C : Addr) : Sp := fun vs H Q _ => ∃ (A : PA) (S : PS) (z : Int) (b : Bx) (c : Nat), vs = [.ref A.p, .int z] ∧ PileAt K C H A S ∧ S.box z = some (b, c) ∧ Did K C H A (S.lower z) (Q (.int ((c - 1 : Nat) : Int)))
def spTaken (K : PySem.W.Frag) (C : Addr) : Sp := fun vs H Q _ => ∃ (A : PA) (S : PS) (z : Int) (b : Bx) (c : Nat), vs = [.ref A.p, .int z] ∧ PileAt K C H A S ∧ S.box z = some (b, c) ∧
  ∀ (l : Addr) H', H l = none → Gx A.foot H H' → PileAt K C H' A (S.drop z) → H' l = some (.lst ((b.rows.map (·.2)).map V.int)) → Q (.ref l) H'
def spInit (K : PySem.W.Frag) (C : Addr) : Sp := fun vs H Q _ => ∃ (p dx : Addr), vs = [.ref p] ∧ H p = some (.ins C dx []) ∧
  ∀ (A : PA) H', A.p = p → H A.c = none → H A.n = none → H A.r = none → Gx (fun b => b = p) H H' → PileAt K C H' A PS.empty → Q .non H'
/-- a pile made -/
def PNew (K : PySem.W.Frag) (C : Addr) (H : Hp) (Q : VK) : Prop := ∀ (A : PA) H', (∀ b, A.foot b → H b = none) → Gr H H' → PileAt K C H' A PS.empty → Q (.ref A.p) H'
structure CP1 (P : Program) (w : World) (K : PySem.W.Frag) (mg : Str → Option Value) (base : Heap) (C B : Addr) : Prop where
  isWhole : Df P w K mg base 1 "is_whole" ["thing"] (spIsWhole K)
structure CP2 (P : Program) (w : World) (K : PySem.W.Frag) (mg : Str → Option Value) (base : Heap) (C B : Addr) : Prop where
  plNext : Mf P w K mg base 1 C "_next_box" ["self"] (spNext C)
  plRefuse : Mf P w K mg base 2 C "_refuse_unless_there" ["self", "box"] (spRefuse K C B)
  plLowered : Mf P w K mg base 1 C "_lowered" ["self", "box"] (spLowered K C)
  plTaken : Mf P w K mg base 1 C "_taken_away" ["self", "box"] (spTaken K C)
theorem PileAt.fm {K : PySem.W.Frag} {C : Addr} {H : Hp} {A : PA} {S : PS} (h : PileAt K C H A S) {m : Str} (h1 : (m == ("made" : Str)) = false) (h2 : (m == ("_counts" : Str)) = false) (h3 : (m == ("_numbers" : Str)) = false) (h4 : (m == ("_rows" : Str)) = false) {P : Prop} (q : P) :
    ∃ a dx fs, V.ref A.p = .ref a ∧ H a = some (.ins C dx fs) ∧ fs.lookup m = none ∧ P := lf_meth h.ins (pfs_no A _ h1 h2 h3 h4) q
theorem There.none {S : PS} {z : Int} (h : There S (.int z)) (e : S.box z = none) : False := by
  obtain ⟨y, b, q, e2⟩ := h
  cases q
  rw [e] at e2
  cases e2
/-- the counts alone are changed -/
theorem PileAt.cnt {K : PySem.W.Frag} {C : Addr} {H : Hp} {A : PA} {S S' : PS} {kc kn kr kc' : List (Key × V)} (h : PileAt K C H A S) (e1 : H A.c = some (.dK kc)) (e2 : H A.n = some (.dK kn)) (e3 : H A.r = some (.dK kr)) (hm : S'.made = S.made) (d : Dcts K H S' kc' kn kr) : PileAt K C (upd H A.c (.dK kc')) A S' := by
  have ncp : A.c ≠ A.p := ne_of e1 h.ins (by intro z; cases z)
  exact ⟨by rw [upd_ne ncp.symm, hm]; exact h.ins, ⟨kc', kn, kr, upd_same, by rw [upd_ne h.ne.1.symm]; exact e2, by rw [upd_ne h.ne.2.1.symm]; exact e3, d.move fun _ _ q => sqT_mutD e1 q⟩, h.ne⟩
section
variable {P : Program} {w : World} {K : PySem.W.Frag} {mg : Str → Option Value} {base : Heap} {C_Pile E_NoBox : Addr}
theorem scisWhole : FnScope ["thing"] ["thing"] (defScope sisWhole) := ⟨rfl, rfl, rfl, by decide +kernel, rfl, by decide +kernel, by decide +kernel⟩
theorem ok_isWhole {f : Addr} {fd : FuncData} (F : Fun K "is_whole" "is_whole" sisWhole f fd) (T : Txt K mg C_Pile E_NoBox) : FnOk P w K mg base (L2.CX P w) 1 f fd ["thing"] (spIsWhole K) := by
  refine F.okX scisWhole (fun vs H Q E h => ?_) (fun cdv A outer s H vs Q E hr h => ?_)
  · obtain ⟨x, rfl, _⟩ := h
    rfl
  · obtain ⟨x, rfl, h⟩ := h
    refine ⟨_, (pss_one (ps_ret (pe_and (pe_callB (cIsi (K := K) rfl) (by rfl) T.isinstance boot_isinstance (pa_cons (pv 0) (pa_cons (pe_bltn (by rfl) T.int PyProof.Rows.boot_int (v := .ty "int") rfl) pa_nil))) (pe_one (pe_not (pe_callB (cIsi (K := K) rfl) (by rfl) T.isinstance boot_isinstance (pa_cons (pv 0) (pa_cons (pe_bltn (by rfl) T.bool PyProof.Rows.boot_bool (v := .ty "bool") rfl) pa_nil)))))))), ?_⟩
    repeat walk_at "sx"
    rcases h with ⟨z, rfl, k⟩ | ⟨⟨m, b1, b2, ty, e1, e2, e3⟩, k⟩
    · refine st_isi (.base (.int _)) (b := true) (by decide +kernel) ?_
      repeat walk_at "sx"
      refine st_isi (.base (.int _)) (b := false) (by decide +kernel) ?_
      repeat walk_at "sx"
      exact k
    · refine st_isi ty e1 ?_
      repeat walk_at "sx"
      refine ite3 (fun h => ?_) (fun h => ?_)
      · repeat walk_at "sx"
        refine st_isi ty e2 ?_
        repeat walk_at "sx"
        rw [h, Bool.true_and] at e3
        rw [e3]
        exact k
      · exact k
theorem scplRefuse : FnScope ["self", "box"] ["self", "box"] (defScope splRefuse) := ⟨rfl, rfl, rfl, by decide +kernel, rfl, by decide +kernel, by decide +kernel⟩
theorem ok_plRefuse {f : Addr} {fd : FuncData} (F : Fun K "_refuse_unless_there" "Pile._refuse_unless_there" splRefuse f fd) (T : Txt K mg C_Pile E_NoBox) (C : CP1 P w K mg base C_Pile E_NoBox) : FnOk P w K mg base (L2.CX P w) 2 f fd ["self", "box"] (spRefuse K C_Pile E_NoBox) := by
  refine F.okX scplRefuse (fun vs H Q E h => ?_) (fun cdv A outer s H vs Q E hr h => ?_)
  · obtain ⟨A, S, x, rfl, _⟩ := h
    rfl
  · obtain ⟨A, S, x, rfl, pl, h⟩ := h
    have hu := hu_of hr
    obtain ⟨kc, kn, kr, e1, e2, e3, d⟩ := pl.dcts
    refine ⟨_, (pss_one (ps_if (PW.pt (pw_or (pt_not (pt_val (pe_d0 C.isWhole (hr.mono (by decide)) rfl (pa_cons (pv 1) pa_nil)))) (pw_or1 (pt_cmp (pc_dnotin hu (pv 1) (pe_fld (pv 0) rfl))))))
  (pss_one (ps_raise rfl (takes_of rfl rfl rfl rfl) (pmk_own PySem.F.excBase_ValueError T.x_NoBox T.mg_NoBox T.k_NoBox (raises_own T.b_NoBox T.t_NoBox) rfl)))
  pss_nil)), ?_⟩
    repeat walk_at "sx"
    rcases h with ⟨z, rfl, k1, k2⟩ | ⟨od, k⟩
    · refine ⟨_, rfl, .inl ⟨z, rfl, ?_⟩⟩
      repeat walk_at "sx"
      walk_at "dx"
      repeat walk_at "sx"
      refine lf_fld pl.ins T.cl_Pile T.n_Pile__counts (pfs_lk A _).2.1 ?_
      refine ⟨A.c, _, rfl, DGet.k (k := .inl z) e1, ?_⟩
      repeat walk_at "sx"
      rw [d.vc]
      cases e : S.box z with
      | none =>
        repeat walk_at "sx"
        exact k2 e
      | some x =>
        repeat walk_at "sx"
        exact k1 x.1 x.2 e
    · refine ⟨_, rfl, .inr ⟨od, ?_⟩⟩
      repeat walk_at "sx"
      exact k
theorem scplNext : FnScope ["self"] ["self"] (defScope splNext) := ⟨rfl, rfl, rfl, by decide +kernel, rfl, by decide +kernel, by decide +kernel⟩
theorem ok_plNext {f : Addr} {fd : FuncData} (F : Fun K "_next_box" "Pile._next_box" splNext f fd) (T : Txt K mg C_Pile E_NoBox) : FnOk P w K mg base (L2.CX P w) 1 f fd ["self"] (spNext C_Pile) := by
  refine F.okX scplNext (fun vs H Q E h => ?_) (fun cdv A outer s H vs Q E hr h => ?_)
  · obtain ⟨A, m, kc, rfl, _⟩ := h
    rfl
  · obtain ⟨A, m, kc, rfl, e1, e2, hl, k⟩ := h
    have hu := hu_of hr
    have ncp : A.c ≠ A.p := ne_of e2 e1 (by intro z; cases z)
    refine ⟨_, (pss_cons (ps_fldaug (pv 0) pe_int in_add)
  (pss_cons (ps_dput hu (pe_fld (pv 0) rfl) (pe_fld (pv 0) rfl) pe_int rfl)
  (pss_one (ps_ret (pe_fld (pv 0) rfl))))), ?_⟩
    repeat walk_at "sx"
    refine st_fldAug ?_
    repeat walk_at "sx"
    refine ⟨A.p, C_Pile, A.dx, pfs A m, _, rfl, e1, T.cl_Pile, T.n_Pile_made, (pfs_lk A _).1, ?_⟩
    repeat walk_at "sx"
    refine ⟨_, _, rfl, rfl, ?_⟩
    refine ⟨A.dx, pfs A m, e1, by show 4 < 1000; decide, ?_⟩
    rw [pfs_made]
    repeat walk_at "sx"
    walk_at "dx"
    repeat walk_at "sx"
    refine lf_fld upd_same T.cl_Pile T.n_Pile__counts (pfs_lk A _).2.1 ?_
    repeat walk_at "sx"
    refine lf_fld upd_same T.cl_Pile T.n_Pile_made (pfs_lk A _).1 ?_
    refine lf_dput (k := .inl ((m : Int) + 1)) (by rw [upd_ne ncp]; exact e2) (by omega) ?_
    repeat walk_at "sx"
    refine lf_fld (by rw [upd_ne ncp.symm]; exact upd_same) T.cl_Pile T.n_Pile_made (pfs_lk A _).1 ?_
    exact k
theorem scplLeaf : FnScope ["self", "number", "box"] ["self", "number"] (defScope splLeaf) := ⟨rfl, rfl, rfl, by decide +kernel, rfl, by decide +kernel, by decide +kernel⟩
theorem ok_plLeaf {f : Addr} {fd : FuncData} (F : Fun K "leaf" "Pile.leaf" splLeaf f fd) (T : Txt K mg C_Pile E_NoBox) (C : CP2 P w K mg base C_Pile E_NoBox) : FnOk P w K mg base (L2.CX P w) 2 f fd ["self", "number"] (spLeaf K C_Pile) := by
  refine F.okX scplLeaf (fun vs H Q E h => ?_) (fun cdv A outer s H vs Q E hr h => ?_)
  · obtain ⟨A, S, n, rfl, _⟩ := h
    rfl
  · obtain ⟨A, S, n, rfl, pl, hm, k⟩ := h
    have hu := hu_of hr
    obtain ⟨kc, kn, kr, e1, e2, e3, d⟩ := pl.dcts
    obtain ⟨n1, n2, n3⟩ := pl.ne
    have ncp : A.c ≠ A.p := ne_of e1 pl.ins (by intro z; cases z)
    have nnp : A.n ≠ A.p := ne_of e2 pl.ins (by intro z; cases z)
    have nrp : A.r ≠ A.p := ne_of e3 pl.ins (by intro z; cases z)
    have h1 := d.lc
    have h2 := d.ln
    refine ⟨_, (pss_cons (ps_set (i := 2) scplLeaf.nd rfl (Or.inl rfl) (pe_mm0 (pv 0) T.cl_Pile C.plNext (hr.mono (by decide)) ))
  (pss_cons (ps_dput hu (pe_fld (pv 0) rfl) (pv 2) (pv 1) rfl)
  (pss_one (ps_ret (pv 2))))), ?_⟩
    repeat walk_at "sx"
    refine pl.fm (by decide +kernel) (by decide +kernel) (by decide +kernel) (by decide +kernel) ?_
    repeat walk_at "sx"
    refine ⟨A, S.made, kc, rfl, pl.ins, e1, by omega, ?_⟩
    repeat walk_at "sx"
    walk_at "dx"
    repeat walk_at "sx"
    refine lf_fld (by rw [upd_ne ncp.symm]; exact upd_same) T.cl_Pile T.n_Pile__numbers (pfs_lk A _).2.2.1 ?_
    repeat walk_at "sx"
    refine lf_dput (k := .inl ((S.made : Int) + 1)) (by rw [upd_ne n1.symm, upd_ne nnp]; exact e2) (by omega) ?_
    repeat walk_at "sx"
    refine k _ (((((Gx.refl H).put (.inl rfl) pl.ins (by intro z; exact z) (by intro _ z; cases z)).put (.inr (.inl rfl)) (by rw [upd_ne ncp]; exact e1) (by intro z; exact z) (by intro _ z; cases z)).put (.inr (.inr (.inl rfl))) (by rw [upd_ne n1.symm, upd_ne nnp]; exact e2) (by intro z; exact z) (by intro _ z; cases z))) ⟨?_, ⟨_, _, kr, ?_, upd_same, ?_, (d.mkLeaf n hm).move ?_⟩, pl.ne⟩
    · rw [upd_ne nnp.symm, upd_ne ncp.symm, upd_same] <;> rfl
    · rw [upd_ne n1, upd_same]
    · rw [upd_ne n3.symm, upd_ne n2.symm, upd_ne nrp]
      exact e3
    · intro p xs hp
      refine sqT_mutD (by rw [upd_ne n1.symm, upd_ne nnp]; exact e2) (sqT_mutD (by rw [upd_ne ncp]; exact e1) ?_)
      rcases hp with (hp | ⟨o, hp⟩) | hp
      · exact .inl (.inl (by rw [upd_ne (ne_of hp pl.ins (by intro z; cases z))]; exact hp))
      · exact .inl (.inr ⟨o, by rw [upd_ne (ne_of hp pl.ins (by intro z; cases z))]; exact hp⟩)
      · exact .inr hp
theorem scplContent : FnScope ["self", "box"] ["self", "box"] (defScope splContent) := ⟨rfl, rfl, rfl, by decide +kernel, rfl, by decide +kernel, by decide +kernel⟩
theorem ok_plContent {f : Addr} {fd : FuncData} (F : Fun K "content" "Pile.content" splContent f fd) (T : Txt K mg C_Pile E_NoBox) (C : CP2 P w K mg base C_Pile E_NoBox) : FnOk P w K mg base (L2.CX P w) 3 f fd ["self", "box"] (spContent K C_Pile E_NoBox) := by
  refine F.okX scplContent (fun vs H Q E h => ?_) (fun cdv A outer s H vs Q E hr h => ?_)
  · obtain ⟨A, S, x, rfl, _⟩ := h
    rfl
  · obtain ⟨A, S, x, rfl, pl, h⟩ := h
    have hu := hu_of hr
    obtain ⟨kc, kn, kr, e1, e2, e3, d⟩ := pl.dcts
    refine ⟨_, (pss_cons (ps_expr (pe_mmE (pv 0) T.cl_Pile C.plRefuse (hr.mono (by decide)) (takes_of rfl rfl rfl rfl) (pa_cons (pv 1) pa_nil)))
  (pss_cons (ps_if (pt_cmp (pc_din hu (pv 1) (pe_fld (pv 0) rfl)))
  (pss_one (ps_ret (pe_tup (pa_cons pe_str (pa_cons (pe_callTy (cListOf (K := K) rfl) (by rfl) T.list PyProof.Rows.boot_list (pa_cons (pe_dget hu (pe_fld (pv 0) rfl) (pv 1) (fun _ _ => rfl)) pa_nil)) pa_nil)))))
  pss_nil)
  (pss_one (ps_ret (pe_tup (pa_cons pe_str (pa_cons (pe_dget hu (pe_fld (pv 0) rfl) (pv 1) (fun _ _ => rfl)) pa_nil))))))), ?_⟩
    repeat walk_at "sx"
    refine pl.fm (by decide +kernel) (by decide +kernel) (by decide +kernel) (by decide +kernel) ?_
    repeat walk_at "sx"
    refine ⟨A, S, x, rfl, pl, ?_⟩
    rcases h with ⟨z, rfl, k1, k2⟩ | ⟨od, k⟩
    · refine .inl ⟨z, rfl, fun b c e => ?_, k2⟩
      have vn := d.vn z
      have vr := d.vr z
      have k1 := k1 b c e
      rw [e] at vn vr
      repeat walk_at "sx"
      walk_at "dx"
      repeat walk_at "sx"
      refine lf_fld pl.ins T.cl_Pile T.n_Pile__rows (pfs_lk A _).2.2.2 ?_
      refine ⟨A.r, _, rfl, DGet.k (k := .inl z) e3, ?_⟩
      cases b with
      | leaf n =>
        have vr : valV kr (Sum.inl z) = none := vr
        rw [vr]
        repeat walk_at "sx"
        refine iteF ?_
        repeat walk_at "sx"
        walk_at "dx"
        repeat walk_at "sx"
        refine lf_fld pl.ins T.cl_Pile T.n_Pile__numbers (pfs_lk A _).2.2.1 ?_
        repeat walk_at "sx"
        refine lf_dget (k := .inl z) e2 vn ?_
        repeat walk_at "sx"
        refine ⟨by show 2 ≤ sizeLine; decide, ?_⟩
        walk_at "new"; rename_i t htn H1 g1 e4
        exact k1 t H1 htn g1 e4 (fun _ _ _ z => by cases z)
      | branch rs =>
        obtain ⟨t, us, vr, ht, hp⟩ := vr
        rw [vr]
        repeat walk_at "sx"
        refine iteT ?_
        repeat walk_at "sx"
        walk_at "dx"
        repeat walk_at "sx"
        refine lf_fld pl.ins T.cl_Pile T.n_Pile__rows (pfs_lk A _).2.2.2 ?_
        repeat walk_at "sx"
        refine lf_dget (k := .inl z) e3 vr ?_
        repeat walk_at "sx"
        refine st_listT ht ?_
        walk_at "new"; rename_i l hln H1 g1 e4
        repeat walk_at "sx"
        refine ⟨by show 2 ≤ sizeLine; decide, ?_⟩
        walk_at "new"; rename_i u hun H2 g2 e5
        refine k1 u H2 (g1.free hun) (g1.trans g2) ⟨l, us, e5, g2.lst e4, hp.gr (g1.trans g2)⟩ (fun l' us' rs' _ e6 _ => ?_)
        rw [e5] at e6
        cases e6
        exact hln
    · exact .inr ⟨od, k⟩
theorem scplHold : FnScope ["self", "box"] ["self", "box"] (defScope splHold) := ⟨rfl, rfl, rfl, by decide +kernel, rfl, by decide +kernel, by decide +kernel⟩
theorem ok_plHold {f : Addr} {fd : FuncData} (F : Fun K "hold" "Pile.hold" splHold f fd) (T : Txt K mg C_Pile E_NoBox) (C : CP2 P w K mg base C_Pile E_NoBox) : FnOk P w K mg base (L2.CX P w) 3 f fd ["self", "box"] (spHold K C_Pile E_NoBox) := by
  refine F.okX scplHold (fun vs H Q E h => ?_) (fun cdv A outer s H vs Q E hr h => ?_)
  · obtain ⟨A, S, x, rfl, _⟩ := h
    rfl
  · obtain ⟨A, S, x, rfl, pl, h⟩ := h
    have hu := hu_of hr
    obtain ⟨kc, kn, kr, e1, e2, e3, d⟩ := pl.dcts
    refine ⟨_, (pss_cons (ps_expr (pe_mmE (pv 0) T.cl_Pile C.plRefuse (hr.mono (by decide)) (takes_of rfl rfl rfl rfl) (pa_cons (pv 1) pa_nil)))
  (pss_one (ps_daug hu (pe_fld (pv 0) rfl) (pv 1) pe_int in_add (fun _ _ _ => rfl)))), ?_⟩
    repeat walk_at "sx"
    refine pl.fm (by decide +kernel) (by decide +kernel) (by decide +kernel) (by decide +kernel) ?_
    repeat walk_at "sx"
    refine ⟨A, S, x, rfl, pl, ?_⟩
    rcases h with ⟨z, rfl, k1, k2⟩ | ⟨od, k⟩
    · refine .inl ⟨z, rfl, fun b c e => ?_, k2⟩
      have k1 := k1 b c e
      repeat walk_at "sx"
      walk_at "dx"
      repeat walk_at "sx"
      refine lf_fld pl.ins T.cl_Pile T.n_Pile__counts (pfs_lk A _).2.1 ?_
      repeat walk_at "sx"
      refine ⟨A.c, _, rfl, (show DGet H A.c (kV (.inl z)) (some (.int c)) by have q := DGet.k (k := .inl z) e1; rw [d.vc, e] at q; exact q), ?_⟩
      repeat walk_at "sx"
      refine ⟨_, _, rfl, rfl, _, DPut.k (k := .inl z) e1 (sz_lt (by have := d.lc; have := d.ok.big; omega)), ?_⟩
      exact k1 _ ((Gx.refl H).put (.inr (.inl rfl)) e1 (by intro z; exact z) (by intro _ z; cases z)) (pl.cnt e1 e2 e3 rfl (d.hold e))
    · exact .inr ⟨od, k⟩
theorem scplHolders : FnScope ["self", "box"] ["self", "box"] (defScope splHolders) := ⟨rfl, rfl, rfl, by decide +kernel, rfl, by decide +kernel, by decide +kernel⟩
theorem ok_plHolders {f : Addr} {fd : FuncData} (F : Fun K "holders" "Pile.holders" splHolders f fd) (T : Txt K mg C_Pile E_NoBox) (C : CP2 P w K mg base C_Pile E_NoBox) : FnOk P w K mg base (L2.CX P w) 3 f fd ["self", "box"] (spHolders K C_Pile E_NoBox) := by
  refine F.okX scplHolders (fun vs H Q E h => ?_) (fun cdv A outer s H vs Q E hr h => ?_)
  · obtain ⟨A, S, x, rfl, _⟩ := h
    rfl
  · obtain ⟨A, S, x, rfl, pl, h⟩ := h
    have hu := hu_of hr
    obtain ⟨kc, kn, kr, e1, e2, e3, d⟩ := pl.dcts
    refine ⟨_, (pss_cons (ps_expr (pe_mmE (pv 0) T.cl_Pile C.plRefuse (hr.mono (by decide)) (takes_of rfl rfl rfl rfl) (pa_cons (pv 1) pa_nil)))
  (pss_one (ps_ret (pe_dget hu (pe_fld (pv 0) rfl) (pv 1) (fun _ _ => rfl))))), ?_⟩
    repeat walk_at "sx"
    refine pl.fm (by decide +kernel) (by decide +kernel) (by decide +kernel) (by decide +kernel) ?_
    repeat walk_at "sx"
    refine ⟨A, S, x, rfl, pl, ?_⟩
    rcases h with ⟨z, rfl, k1, k2⟩ | ⟨od, k⟩
    · refine .inl ⟨z, rfl, fun b c e => ?_, k2⟩
      have k1 := k1 b c e
      repeat walk_at "sx"
      walk_at "dx"
      repeat walk_at "sx"
      refine lf_fld pl.ins T.cl_Pile T.n_Pile__counts (pfs_lk A _).2.1 ?_
      repeat walk_at "sx"
      exact lf_dget (k := .inl z) e1 (by rw [d.vc, e]; rfl) k1
    · exact .inr ⟨od, k⟩
theorem scplLowered : FnScope ["self", "box"] ["self", "box"] (defScope splLowered) := ⟨rfl, rfl, rfl, by decide +kernel, rfl, by decide +kernel, by decide +kernel⟩
theorem ok_plLowered {f : Addr} {fd : FuncData} (F : Fun K "_lowered" "Pile._lowered" splLowered f fd) (T : Txt K mg C_Pile E_NoBox) : FnOk P w K mg base (L2.CX P w) 1 f fd ["self", "box"] (spLowered K C_Pile) := by
  refine F.okX scplLowered (fun vs H Q E h => ?_) (fun cdv A outer s H vs Q E hr h => ?_)
  · obtain ⟨A, S, z, b, c, rfl, _⟩ := h
    rfl
  · obtain ⟨A, S, z, b, c, rfl, pl, e, k⟩ := h
    have hu := hu_of hr
    obtain ⟨kc, kn, kr, e1, e2, e3, d⟩ := pl.dcts
    have ncp : A.c ≠ A.p := ne_of e1 pl.ins (by intro z; cases z)
    have vc : valV kc (.inl z) = some (.int (c : Int)) := by rw [d.vc, e]; rfl
    refine ⟨_, (pss_cons (ps_dput hu (pe_fld (pv 0) rfl) (pv 1) (pe_callB (call_max2 rfl) (by rfl) T.max (by decide +kernel) (pa_cons (pe_op op_sub (pe_dget hu (pe_fld (pv 0) rfl) (pv 1) (fun _ _ => rfl)) pe_int) (pa_cons pe_int pa_nil))) rfl)
  (pss_one (ps_ret (pe_dget hu (pe_fld (pv 0) rfl) (pv 1) (fun _ _ => rfl))))), ?_⟩
    repeat walk_at "sx"
    walk_at "dx"
    repeat walk_at "sx"
    walk_at "dx"
    repeat walk_at "sx"
    refine lf_fld pl.ins T.cl_Pile T.n_Pile__counts (pfs_lk A _).2.1 ?_
    repeat walk_at "sx"
    refine lf_dget (k := .inl z) e1 vc ?_
    repeat walk_at "sx"
    refine ⟨_, _, rfl, ?_⟩
    have ec : (if (0 : Int) > (c : Int) - 1 then (0 : Int) else (c : Int) - 1) = ((c - 1 : Nat) : Int) := by split <;> omega
    rw [ec]
    repeat walk_at "sx"
    refine lf_fld pl.ins T.cl_Pile T.n_Pile__counts (pfs_lk A _).2.1 ?_
    repeat walk_at "sx"
    refine lf_dput (k := .inl z) e1 (by have := d.lc; have := d.ok.big; omega) ?_
    repeat walk_at "sx"
    walk_at "dx"
    repeat walk_at "sx"
    refine lf_fld (by rw [upd_ne ncp.symm]; exact pl.ins) T.cl_Pile T.n_Pile__counts (pfs_lk A _).2.1 ?_
    repeat walk_at "sx"
    refine lf_dget (k := .inl z) upd_same (by rw [valV_put, if_pos rfl]) ?_
    exact k _ ((Gx.refl H).put (.inr (.inl rfl)) e1 (by intro z; exact z) (by intro _ z; cases z)) (pl.cnt e1 e2 e3 rfl (d.lower e))
theorem scplKept : FnScope ["self"] ["self"] (defScope splKept) := ⟨rfl, rfl, rfl, by decide +kernel, rfl, by decide +kernel, by decide +kernel⟩
theorem ok_plKept {f : Addr} {fd : FuncData} (F : Fun K "kept" "Pile.kept" splKept f fd) (T : Txt K mg C_Pile E_NoBox) : FnOk P w K mg base (L2.CX P w) 1 f fd ["self"] (spKept K C_Pile) := by
  refine F.okX scplKept (fun vs H Q E h => ?_) (fun cdv A outer s H vs Q E hr h => ?_)
  · obtain ⟨A, S, rfl, _⟩ := h
    rfl
  · obtain ⟨A, S, rfl, pl, k⟩ := h
    obtain ⟨kc, kn, kr, e1, e2, e3, d⟩ := pl.dcts
    obtain ⟨ks, hk, hn⟩ := d.ks
    have hl : ks.length ≤ 3000 := by
      have h1 := congrArg List.length hk
      rw [List.length_map, List.length_map] at h1
      have := d.lc
      have := d.ok.big
      omega
    refine ⟨_, (pss_one (ps_ret (pe_callB (cr_sortedDIA rfl) (by rfl) T.sorted boot_sorted (pa_cons (pe_fld (pv 0) rfl) pa_nil)))), ?_⟩
    repeat walk_at "sx"
    refine lf_fld pl.ins T.cl_Pile T.n_Pile__counts (pfs_lk A _).2.1 ?_
    repeat walk_at "sx"
    refine ⟨A.c, kc, ks, rfl, .inl e1, hk, by omega, fun ys p hp hs hpn => ?_⟩
    refine k p ys _ hpn (Gr.new hpn) upd_same ?_ (fun z => ?_)
    · refine (List.Pairwise.and hs (hp.nodup_iff.mpr hn)).imp fun {a b} ⟨h1, h2⟩ => ?_
      omega
    · rw [hp.mem_iff, mem_keys hk, d.vc]
      cases S.box z <;> simp
theorem scplTaken : FnScope ["self", "box", "rows", "_", "held"] ["self", "box"] (defScope splTaken) := ⟨rfl, rfl, rfl, by decide +kernel, rfl, by decide +kernel, by decide +kernel⟩
theorem ok_plTaken {f : Addr} {fd : FuncData} (F : Fun K "_taken_away" "Pile._taken_away" splTaken f fd) (T : Txt K mg C_Pile E_NoBox) : FnOk P w K mg base (L2.CX P w) 1 f fd ["self", "box"] (spTaken K C_Pile) := by
  refine F.okX scplTaken (fun vs H Q E h => ?_) (fun cdv A outer s H vs Q E hr h => ?_)
  · obtain ⟨A, S, z, b, c, rfl, _⟩ := h
    rfl
  · obtain ⟨A, S, z, b, c, rfl, pl, e, k⟩ := h
    have hu := hu_of hr
    obtain ⟨kc, kn, kr, e1, e2, e3, d⟩ := pl.dcts
    obtain ⟨n1, n2, n3⟩ := pl.ne
    have ncp : A.c ≠ A.p := ne_of e1 pl.ins (by intro z; cases z)
    have nnp : A.n ≠ A.p := ne_of e2 pl.ins (by intro z; cases z)
    have nrp : A.r ≠ A.p := ne_of e3 pl.ins (by intro z; cases z)
    refine ⟨_, (pss_cons (ps_ddel (pe_fld (pv 0) rfl) (pv 1))
  (pss_cons (ps_expr (pe_dpop2 (pe_fld (pv 0) rfl) (pv 1) pe_non ⟨rfl, rfl, rfl, rfl⟩))
  (pss_cons (ps_set (i := 2) scplTaken.nd rfl (Or.inl rfl) (pe_dpop2 (pe_fld (pv 0) rfl) (pv 1) (pe_tup pa_nil) ⟨rfl, rfl, rfl, rfl⟩))
  (pss_one (ps_ret (pe_lc (own := [("_", 3), ("held", 4)]) (g := gTup K 2 (gCons (gName 3) (gCons (gName 4) gNil))) (tt := tYes) rfl scplTaken.nd (pi_tup (pv 2)) (blkOk_by (N := ["self", "box", "rows", "_", "held"]) (sc := defScope splTaken) (by decide +kernel)) (fun _ _ _ _ _ => pg_tup (by rfl) (pgs_cons (pg_name (i := 3) scplTaken.nd rfl (Or.inl rfl)) (pgs_cons (pg_name (i := 4) scplTaken.nd rfl (Or.inl rfl)) pgs_nil))) (fun _ _ _ _ _ => pts_nil) (fun _ _ _ _ _ => (pv 4)))))))), ?_⟩
    repeat walk_at "sx"
    walk_at "dx"
    repeat walk_at "sx"
    refine lf_fld pl.ins T.cl_Pile T.n_Pile__counts (pfs_lk A _).2.1 ?_
    repeat walk_at "sx"
    refine ⟨A.c, kc, .inl z, rfl, e1, rfl, by rw [d.vc, e]; rfl, ?_⟩
    generalize hH1 : upd H A.c _ = H1
    have g1 : Gx A.foot H H1 := by rw [← hH1]; exact (Gx.refl H).put (.inr (.inl rfl)) e1 (by intro z; exact z) (by intro _ z; cases z)
    have p1 : H1 A.p = some (.ins C_Pile A.dx (pfs A S.made)) := by rw [← hH1, upd_ne ncp.symm]; exact pl.ins
    have c1 : H1 A.c = some (.dK (dropK kc (.inl z))) := by rw [← hH1]; exact upd_same
    have r1 : H1 A.n = some (.dK kn) := by rw [← hH1, upd_ne n1.symm]; exact e2
    have s1 : H1 A.r = some (.dK kr) := by rw [← hH1, upd_ne n2.symm]; exact e3
    repeat walk_at "sx"
    walk_at "dx"
    repeat walk_at "sx"
    refine lf_fld p1 T.cl_Pile T.n_Pile__numbers (pfs_lk A _).2.2.1 ?_
    refine ⟨A.n, rfl, .inl ⟨kn, .inl r1⟩, ?_⟩
    repeat walk_at "sx"
    refine lf_pop (k := .inl z) (R := fun H' => _) r1 ?_
    generalize hH2 : upd H1 A.n _ = H2
    have g2 : Gx A.foot H H2 := by rw [← hH2]; exact g1.put (.inr (.inr (.inl rfl))) r1 (by intro z; exact z) (by intro _ z; cases z)
    have p2 : H2 A.p = some (.ins C_Pile A.dx (pfs A S.made)) := by rw [← hH2, upd_ne nnp.symm]; exact p1
    have c2 : H2 A.c = some (.dK (dropK kc (.inl z))) := by rw [← hH2, upd_ne n1]; exact c1
    have r2 : H2 A.n = some (.dK (dropK kn (.inl z))) := by rw [← hH2]; exact upd_same
    have s2 : H2 A.r = some (.dK kr) := by rw [← hH2, upd_ne n3.symm]; exact s1
    repeat walk_at "sx"
    walk_at "dx"
    repeat walk_at "sx"
    refine lf_fld p2 T.cl_Pile T.n_Pile__rows (pfs_lk A _).2.2.2 ?_
    refine ⟨A.r, rfl, .inl ⟨kr, .inl s2⟩, ?_⟩
    repeat walk_at "sx"
    refine ⟨Nat.zero_le _, ?_⟩
    walk_at "new"; rename_i u hun H3 g3 e4
    refine lf_popV (k := .inl z) (g3.dK s2) ?_
    generalize hH4 : upd H3 A.r _ = H4
    have g4 : Gx A.foot H H4 := by rw [← hH4]; exact (g2.then g3).put (.inr (.inr (.inr rfl))) (g3.dK s2) (by intro z; exact z) (by intro _ z; cases z)
    have p4 : H4 A.p = some (.ins C_Pile A.dx (pfs A S.made)) := by rw [← hH4, upd_ne nrp.symm]; exact g3.keep _ _ p2 (fun _ z => by cases z)
    have pl4 : PileAt K C_Pile H4 A (S.drop z) := ⟨p4, ⟨_, _, _, by rw [← hH4, upd_ne n2]; exact g3.dK c2, by rw [← hH4, upd_ne n3]; exact g3.dK r2, by rw [← hH4]; exact upd_same, (d.drop z).move fun _ _ => g4.t⟩, pl.ne⟩
    -- the rows taken
    have hrows : ∃ (t : Addr) (us : List V), (valV kr (Sum.inl z)).getD (.ref u) = .ref t ∧ SqT K H4 t us ∧ PrV K H4 us (b.rows.map rwV) := by
      have vr := d.vr z
      rw [e] at vr
      cases b with
      | leaf n =>
        have vr : valV kr (Sum.inl z) = none := vr
        exact ⟨u, [], by rw [vr]; rfl, .of (by rw [← hH4, upd_ne (ne_of e4 (g3.dK s2) (by intro z; cases z))]; exact e4), .nil⟩
      | branch rs =>
        obtain ⟨t, us, vr, ht, hp⟩ := vr
        exact ⟨t, us, by rw [vr]; rfl, g4.t ht, (hp.gx g4).pv⟩
    obtain ⟨t, us, et, ht, hp⟩ := hrows
    rw [et]
    have hbl : (b.rows.map rwV).length ≤ 5000 := by rw [List.length_map]; exact d.ok.len _ _ e
    repeat walk_at "sx"
    refine st_exT ht ?_
    refine lc_2 (K := K) walk_tup hp (fun H' g => g.t ht) (fun r => r.2) ?_ ?_ (by omega) (fun _ _ => rfl)
    · intro r H' _ g Qy q
      repeat walk_at "sx"
      exact q
    · intro D H5 hD g5 e5
      refine k D H5 (g4.free hD) (g4.then g5) (pl4.gr g5) ?_
      rw [e5, List.map_map, List.map_map] <;> rfl
theorem scplLetGo : FnScope ["self", "box", "gone", "waiting", "held"] ["self", "box"] (defScope splLetGo) := ⟨rfl, rfl, rfl, by decide +kernel, rfl, by decide +kernel, by decide +kernel⟩
theorem ok_plLetGo {f : Addr} {fd : FuncData} (F : Fun K "let_go" "Pile.let_go" splLetGo f fd) (T : Txt K mg C_Pile E_NoBox) (C : CP2 P w K mg base C_Pile E_NoBox) : FnOk P w K mg base (L2.CX P w) 3 f fd ["self", "box"] (spLetGo K C_Pile E_NoBox) := by
  refine F.okX scplLetGo (fun vs H Q E h => ?_) (fun cdv A outer s H vs Q E hr h => ?_)
  · obtain ⟨A, S, x, rfl, _⟩ := h
    rfl
  · obtain ⟨A, S, x, rfl, pl, h⟩ := h
    have hu := hu_of hr
    refine ⟨_, (pss_cons (ps_expr (pe_mmE (pv 0) T.cl_Pile C.plRefuse (hr.mono (by decide)) (takes_of rfl rfl rfl rfl) (pa_cons (pv 1) pa_nil)))
  (pss_cons (ps_set (i := 2) scplLetGo.nd rfl (Or.inl rfl) pe_int)
  (pss_cons (ps_set (i := 3) scplLetGo.nd rfl (Or.inl rfl) (pe_lst (pa_cons (pv 1) pa_nil)))
  (pss_cons (ps_while (passes_of rfl) (pt_truth (pv 3) (by intro _; rfl))
  (pss_cons (ps_set (i := 4) scplLetGo.nd rfl (Or.inl rfl) (pe_bm0 PySem.F.plainAttrs_list PySem.F.slot_list_pop PySem.F.type_list_pop mt_pop (pv 3)))
  (pss_one (ps_if (PW.pt (pw_and (pt_cmp (pc_din hu (pv 4) (pe_fld (pv 0) rfl))) (pw_and1 (pt_cmpR op_eq (pe_mm (pv 0) T.cl_Pile C.plLowered (hr.mono (by decide)) (pa_cons (pv 4) pa_nil)) pe_int (nomark _)))))
  (pss_cons (ps_aug (i := 2) scplLetGo.nd rfl (Or.inl rfl) pe_int ip_add)
  (pss_one (ps_expr (pe_bm PySem.F.plainAttrs_list PySem.F.slot_list_extend PySem.F.type_list_extend mt_extend (pv 3) (pa_cons (pe_mm (pv 0) T.cl_Pile C.plTaken (hr.mono (by decide)) (pa_cons (pv 4) pa_nil)) pa_nil)))))
  pss_nil))))
  (pss_one (ps_ret (pv 2))))))), ?_⟩
    repeat walk_at "sx"
    refine pl.fm (by decide +kernel) (by decide +kernel) (by decide +kernel) (by decide +kernel) ?_
    repeat walk_at "sx"
    refine ⟨A, S, x, rfl, pl, ?_⟩
    rcases h with ⟨z, rfl, k1, k2⟩ | ⟨od, k⟩
    · refine .inl ⟨z, rfl, fun b c e => ?_, k2⟩
      have k1 : Did K C_Pile H A (S.letGo z).1 (Q (.int (S.letGo z).2)) := k1 b c e
      obtain ⟨_, _, _, _, _, _, d0⟩ := pl.dcts
      repeat walk_at "sx"
      refine ⟨by show 1 ≤ sizeLine; decide, ?_⟩
      walk_at "new"; rename_i l hln H1 g1 e1
      repeat walk_at "sx"
      refine st_whileN (fun m σ H' => ∃ (S' : PS) (w : List Int) (g : Nat) (v : Option V), σ = [some (.ref A.p), some (.int z), some (.int (g : Int)), some (.ref l), v] ∧ Gx A.foot H H' ∧ PileAt K C_Pile H' A S' ∧ H' l = some (.lst (w.reverse.map V.int)) ∧ m = S'.left w ∧ m ≤ 15000001 ∧ PS.run m S' w g = S.letGo z) (S.left [z])
        ⟨S, [z], 0, none, rfl, Gx.of g1, pl.gr g1, e1, rfl, by have := PS.size_le d0.ok; unfold PS.left; rw [List.length_singleton]; omega, (PS.letGo_eq S z).symm⟩ ?_ ?_
      · rintro m σ H' ⟨S', w, g, v, rfl, gx, pl', el, hm, hb, hrun⟩
        repeat walk_at "sx"
        refine st_truL (.of el) ?_
        cases w with
        | nil =>
          refine iteF ?_
          repeat walk_at "sx"
          rw [PS.run_nil] at hrun
          rw [← hrun] at k1
          exact k1 H' gx pl'
        | cons y w =>
          have ene : (!((y :: w).reverse.map V.int).isEmpty) = true := by simp
          rw [ene]
          obtain ⟨kc, kn, kr, c1, c2, c3, d⟩ := pl'.dcts
          have hstep := PS.run_cons d.ok y w g
          obtain ⟨hl, _, _⟩ := PS.step_left d.ok y w
          rw [← hm] at hstep
          rw [hstep] at hrun
          have hlt : (S'.step y).1.left ((S'.step y).2.1.reverse ++ w) < m := by omega
          have el2 : H' l = some (.lst (w.reverse.map V.int ++ [.int y])) := by rw [el, List.reverse_cons, List.map_append] <;> rfl
          repeat walk_at "sx"
          walk_at "dx"
          repeat walk_at "sx"
          refine st_tyL (.of el) ?_
          refine st_pop el2 ?_
          have ncl : A.c ≠ l := ne_of c1 el (by intro z; cases z)
          have npl : A.p ≠ l := ne_of pl'.ins el (by intro z; cases z)
          generalize hH2 : upd H' l _ = H2
          have gx2 : Gx A.foot H H2 := by rw [← hH2]; exact gx.mut hln
          have pl2 : PileAt K C_Pile H2 A S' := by
            rw [← hH2]
            exact ⟨by rw [upd_ne npl]; exact pl'.ins, ⟨kc, kn, kr, by rw [upd_ne ncl]; exact c1, by rw [upd_ne (ne_of c2 el (by intro z; cases z))]; exact c2, by rw [upd_ne (ne_of c3 el (by intro z; cases z))]; exact c3, d.move fun _ _ => sqT_mut el⟩, pl'.ne⟩
          have el3 : H2 l = some (.lst (w.reverse.map V.int)) := by rw [← hH2]; exact upd_same
          repeat walk_at "sx"
          walk_at "dx"
          repeat walk_at "sx"
          refine lf_fld pl2.ins T.cl_Pile T.n_Pile__counts (pfs_lk A _).2.1 ?_
          refine ⟨A.c, _, rfl, DGet.k (k := .inl y) (by rw [← hH2, upd_ne ncl]; exact c1), ?_⟩
          rw [d.vc]
          unfold PS.step at hrun hlt
          cases ey : S'.box y with
          | none =>
            rw [ey] at hrun hlt
            refine ⟨_, rfl, iteF ?_⟩
            repeat walk_at "sx"
            exact ⟨_, hlt, S', w, g, _, rfl, gx2, pl2, el3, rfl, by omega, hrun⟩
          | some x =>
            obtain ⟨bx, cc⟩ := x
            rw [ey] at hrun hlt
            dsimp only at hrun hlt
            refine ⟨_, rfl, iteT ?_⟩
            repeat walk_at "sx"
            refine pl2.fm (by decide +kernel) (by decide +kernel) (by decide +kernel) (by decide +kernel) ?_
            repeat walk_at "sx"
            refine ⟨A, S', y, bx, cc, rfl, pl2, ey, fun H3 g3 pl3 => ?_⟩
            have el4 : H3 l = some (.lst (w.reverse.map V.int)) := g3.lst el3
            repeat walk_at "sx"
            by_cases q : cc - 1 = 0
            · rw [if_pos q] at hrun hlt
              rw [decide_eq_true (by rw [q]; rfl)]
              repeat walk_at "sx"
              refine st_aug rfl ?_
              repeat walk_at "sx"
              refine st_ipI ?_
              repeat walk_at "sx"
              refine st_tyL (.of el4) ?_
              repeat walk_at "sx"
              refine pl3.fm (by decide +kernel) (by decide +kernel) (by decide +kernel) (by decide +kernel) ?_
              repeat walk_at "sx"
              refine ⟨A, S'.lower y, y, bx, cc - 1, rfl, pl3, PS.lower_at ey, fun l2 H4 hl2 g4 pl4 e4 => ?_⟩
              rw [PS.drop_lower] at pl4
              have el5 := g4.lst el4
              have hbl := d.ok.len _ _ ey
              have hwl : w.length ≤ 15000001 := by
                have : (y :: w).length ≤ m := by rw [hm]; unfold PS.left; omega
                rw [List.length_cons] at this
                omega
              repeat walk_at "sx"
              refine st_extend (K := K) el5 e4 (by rw [List.length_map, List.length_map, List.length_map, List.length_reverse]; show _ ≤ 16777216; dsimp only at hbl; omega) ?_
              generalize hH5 : upd H4 l _ = H5
              obtain ⟨kc4, kn4, kr4, c41, c42, c43, d4⟩ := pl4.dcts
              repeat walk_at "sx"
              refine ⟨_, hlt, S'.drop y, (bx.rows.map (·.2)).reverse ++ w, g + 1, _, rfl, by rw [← hH5]; exact ((gx2.trans g3).trans g4).mut hln, ?_, ?_, rfl, by omega, hrun⟩
              · rw [← hH5]
                exact ⟨by rw [upd_ne npl]; exact pl4.ins, ⟨kc4, kn4, kr4, by rw [upd_ne ncl]; exact c41, by rw [upd_ne (ne_of c42 el5 (by intro z; cases z))]; exact c42, by rw [upd_ne (ne_of c43 el5 (by intro z; cases z))]; exact c43, d4.move fun _ _ => sqT_mut el5⟩, pl4.ne⟩
              · rw [← hH5, upd_same, List.reverse_append, List.reverse_reverse, List.map_append]
            · rw [if_neg q] at hrun hlt
              rw [decide_eq_false (by intro z; exact q (by have := V.int.inj z; omega))]
              repeat walk_at "sx"
              exact ⟨_, hlt, S'.lower y, w, g, _, rfl, gx2.trans g3, pl3, el4, rfl, by omega, hrun⟩
      · rintro σ H' Q1 Q2 hq ⟨v, e, k, t, q⟩
        exact ⟨v, e, k, t, hq _ _ q⟩
    · exact .inr ⟨od, k⟩
theorem scplInit : FnScope ["self"] ["self"] (defScope splInit) := ⟨rfl, rfl, rfl, by decide +kernel, rfl, by decide +kernel, by decide +kernel⟩
theorem ok_plInit {f : Addr} {fd : FuncData} (F : Fun K "__init__" "Pile.__init__" splInit f fd) (T : Txt K mg C_Pile E_NoBox) : FnOk P w K mg base (L2.CX P w) 1 f fd ["self"] (spInit K C_Pile) := by
  refine F.okX scplInit (fun vs H Q E h => ?_) (fun cdv A outer s H vs Q E hr h => ?_)
  · obtain ⟨p, dx, rfl, _⟩ := h
    rfl
  · obtain ⟨p, dx, rfl, e0, k⟩ := h
    refine ⟨_, (pss_cons (ps_fld (pv 0) pe_int rfl)
  (pss_cons (ps_fld (pv 0) pe_dnewK rfl)
  (pss_cons (ps_fld (pv 0) pe_dnewK rfl)
  (pss_one (ps_fld (pv 0) pe_dnewK rfl))))), ?_⟩
    repeat walk_at "sx"
    refine lf_putFld e0 T.cl_Pile T.n_Pile_made (by show 0 < 1000; decide) ?_
    generalize hH1 : upd H p _ = H1
    have g1 : Gx (fun b => b = p) H H1 := by rw [← hH1]; exact (Gx.refl H).put rfl e0 (by intro z; exact z) (by intro _ z; cases z)
    have p1 : H1 p = some (.ins C_Pile dx (putF "made" (.int 0) [])) := by rw [← hH1]; exact upd_same
    repeat walk_at "sx"
    refine st_dnewK ?_
    walk_at "new"; rename_i c hc H2 g2 c2
    repeat walk_at "sx"
    refine lf_putFld (g2.keep _ _ p1 (fun _ z => by cases z)) T.cl_Pile T.n_Pile__counts (by show 1 < 1000; decide) ?_
    have np1 : p ≠ c := ne_of_none p1 hc
    generalize hH3 : upd H2 p _ = H3
    have g3 : Gx (fun b => b = p) H H3 := by rw [← hH3]; exact (g1.then g2).put rfl (g2.keep _ _ p1 (fun _ z => by cases z)) (by intro z; exact z) (by intro _ z; cases z)
    have p3 : H3 p = some (.ins C_Pile dx (putF "_counts" (.ref c) (putF "made" (.int 0) []))) := by rw [← hH3]; exact upd_same
    have c3 : H3 c = some (.dK []) := by rw [← hH3, upd_ne np1.symm]; exact c2
    repeat walk_at "sx"
    refine st_dnewK ?_
    walk_at "new"; rename_i n hn H4 g4 n4
    repeat walk_at "sx"
    refine lf_putFld (g4.keep _ _ p3 (fun _ z => by cases z)) T.cl_Pile T.n_Pile__numbers (by show 2 < 1000; decide) ?_
    have np2 : p ≠ n := ne_of_none p3 hn
    generalize hH5 : upd H4 p _ = H5
    have g5 : Gx (fun b => b = p) H H5 := by rw [← hH5]; exact (g3.then g4).put rfl (g4.keep _ _ p3 (fun _ z => by cases z)) (by intro z; exact z) (by intro _ z; cases z)
    have p5 : H5 p = some (.ins C_Pile dx (putF "_numbers" (.ref n) (putF "_counts" (.ref c) (putF "made" (.int 0) [])))) := by rw [← hH5]; exact upd_same
    have c5 : H5 c = some (.dK []) := by rw [← hH5, upd_ne np1.symm]; exact g4.dK c3
    have n5 : H5 n = some (.dK []) := by rw [← hH5, upd_ne np2.symm]; exact n4
    repeat walk_at "sx"
    refine st_dnewK ?_
    walk_at "new"; rename_i r hr2 H6 g6 r6
    repeat walk_at "sx"
    refine lf_putFld (g6.keep _ _ p5 (fun _ z => by cases z)) T.cl_Pile T.n_Pile__rows (by show 3 < 1000; decide) ?_
    have np3 : p ≠ r := ne_of_none p5 hr2
    repeat walk_at "sx"
    refine k ⟨p, dx, c, n, r⟩ _ rfl (g1.free hc) (g3.free hn) (g5.free hr2) ((g5.then g6).put rfl (g6.keep _ _ p5 (fun _ z => by cases z)) (by intro z; exact z) (by intro _ z; cases z)) ⟨?_, ⟨[], [], [], ?_, ?_, ?_, Dcts.empty _ _⟩, ne_of_none c3 hn, ne_of_none c5 hr2, ne_of_none n5 hr2⟩
    · rw [upd_same, pfs_init ⟨p, dx, c, n, r⟩] <;> rfl
    · rw [upd_ne np1.symm]; exact g6.dK c5
    · rw [upd_ne np2.symm]; exact g6.dK n5
    · rw [upd_ne np3.symm]; exact r6
theorem scplBranch : FnScope ["self", "rows", "kept_rows", "_", "held", "box"] ["self", "rows"] (defScope splBranch) := ⟨rfl, rfl, rfl, by decide +kernel, rfl, by decide +kernel, by decide +kernel⟩
theorem st_holds {S : PS} {rs : Rw} {i : Nat} {r : Str × Int} (h : rs[i]? = some r) : S.holds ((rs.take (i + 1)).map (·.2)) = (S.holds ((rs.take i).map (·.2))).hold r.2 := by
  obtain ⟨hi, e⟩ := List.getElem?_eq_some_iff.mp h
  rw [List.take_succ_eq_append_getElem hi, e, List.map_append]
  exact PS.holds_snoc _ _ _
theorem ok_plBranch {f c Pt : Addr} {oc kv0 doc pm ct : Value} {od an : Option Addr} {osl : Array (Option Value)} (lk : K.lookup f = some ⟨oc, od, .func (PySem.W.fnOf "branch" "Pile.branch" (defArgs splBranch) (defBody splBranch) (defScope splBranch) .none kv0 doc pm an (.ref c) ct), osl⟩)
    (hcd : PySem.W.codeIn K (.ref c) "Pile.branch" = true) (TB : GxR.TabB base mg c Pt) (T : Txt K mg C_Pile E_NoBox) (C : CP2 P w K mg base C_Pile E_NoBox) :
    FnOk P w K mg base (L2.CX P w) 3 f (PySem.W.fnOf "branch" "Pile.branch" (defArgs splBranch) (defBody splBranch) (defScope splBranch) .none kv0 doc pm an (.ref c) ct) ["self", "rows"] (spBranch K C_Pile E_NoBox Pt) := by
  refine fn_of lk hcd scplBranch (fun vs H Q E h => ?_) (fun A outer s H vs Q E hr h => ?_)
  · obtain ⟨A, S, l, us, ps, rfl, _⟩ := h
    rfl
  · obtain ⟨A, S, l, us, ps, rfl, pl, hS, hp, hpl, hm, tab, h⟩ := h
    have hu := hu_of hr
    refine ⟨_, (pss_cons (ps_set (i := 2) scplBranch.nd rfl (Or.inl rfl) (TG.pe_tupG (k := 0) (hr.mono (by decide)) (by rfl) T.tuple PyProof.Rows.boot_tuple (TB := TB) (hcode := rfl) (S := ⟨rfl, rfl, by decide +kernel, by rfl, by rfl, by rfl, by decide +kernel, by decide +kernel, by decide +kernel, fun y hy e => absurd e ((show ∀ y ∈ ([((".0" : Str), NameKind.local), (("name" : Str), NameKind.local), (("held" : Str), NameKind.local)] : List (Str × NameKind)), y.2 ≠ NameKind.free by decide +kernel) y hy)⟩) (hi := (pv 1)) (hs := fun _ => rfl)))
  (pss_cons (ps_for (passes_of rfl) rfl (pi_tup (pv 2)) (pg_tup (by rfl) (pgs_cons (pg_name (i := 3) scplBranch.nd rfl (Or.inl rfl)) (pgs_cons (pg_name (i := 4) scplBranch.nd rfl (Or.inl rfl)) pgs_nil)))
  (pss_one (ps_expr (pe_mmE (pv 0) T.cl_Pile C.plRefuse (hr.mono (by decide)) (takes_of rfl rfl rfl rfl) (pa_cons (pv 4) pa_nil)))))
  (pss_cons (ps_for (passes_of rfl) rfl (pi_tup (pv 2)) (pg_tup (by rfl) (pgs_cons (pg_name (i := 3) scplBranch.nd rfl (Or.inl rfl)) (pgs_cons (pg_name (i := 4) scplBranch.nd rfl (Or.inl rfl)) pgs_nil)))
  (pss_one (ps_daug hu (pe_fld (pv 0) rfl) (pv 4) pe_int in_add (fun _ _ _ => rfl))))
  (pss_cons (ps_set (i := 5) scplBranch.nd rfl (Or.inl rfl) (pe_mm0 (pv 0) T.cl_Pile C.plNext (hr.mono (by decide)) ))
  (pss_cons (ps_dput hu (pe_fld (pv 0) rfl) (pv 5) (pv 2) rfl)
  (pss_one (ps_ret (pv 5)))))))), ?_⟩
    repeat walk_at "sx"
    refine st_tupG ?_
    repeat walk_at "sx"
    refine ⟨l, us, ps, rfl, hS, hp, tab, by show _ ≤ 16777216; omega, fun t ws H1 ht g1 e1 hw => ?_⟩
    have hwl := hw.len
    have pl1 := pl.gr g1
    repeat walk_at "sx"
    refine st_exT (.of e1) ?_
    refine st_loop2 (K := K) walk_tup hwl (fun i σ H' => H' = H1 ∧ (∃ u v, σ = [some (.ref A.p), some (.ref l), some (.ref t), u, v, none]) ∧ ∀ j r, j < i → ps[j]? = some r → There S r.2) ⟨rfl, ⟨_, _, rfl⟩, fun j r hj => absurd hj (Nat.not_lt_zero _)⟩ (fun i σ H' _ p => by rw [p.1]; exact ⟨.of e1, hw⟩) ?_ ?_
    · rintro i r σ H' er ⟨rfl, ⟨u, v, rfl⟩, hth⟩
      have hmem := List.mem_of_getElem? er
      have next : There S r.2 → H' = H' ∧ (∃ u' v', [some (V.ref A.p), some (V.ref l), some (V.ref t), some r.1, some r.2, none] = [some (V.ref A.p), some (V.ref l), some (V.ref t), u', v', none]) ∧ ∀ j q, j < i + 1 → ps[j]? = some q → There S q.2 := fun hr2 => ⟨rfl, ⟨_, _, rfl⟩, fun j q hj ej => by
        rcases Nat.lt_succ_iff_lt_or_eq.mp hj with z | z
        · exact hth j q z ej
        · rw [z, er] at ej
          cases ej
          exact hr2⟩
      repeat walk_at "sx"
      refine pl1.fm (by decide +kernel) (by decide +kernel) (by decide +kernel) (by decide +kernel) ?_
      repeat walk_at "sx"
      refine ⟨A, S, r.2, rfl, pl1, ?_⟩
      have cls : There S r.2 ∨ (Gone K H S r.2 ∧ ∀ H', Gr H H' → E (.ref E_NoBox) none H') := by
        rcases h with ⟨rs, rfl, h1, _⟩ | ⟨_, h1, h2⟩
        · obtain ⟨q, hq, rfl⟩ := List.mem_map.mp hmem
          exact .inl (h1 q hq)
        · rcases h1 r hmem with z | z
          · exact .inl z
          · exact .inr ⟨z, h2⟩
      rcases cls with ⟨z, b, ez, eb⟩ | ⟨hg, hE⟩
      · rw [ez]
        refine .inl ⟨z, rfl, fun b' c' _ => ?_, fun e => by rw [eb] at e; cases e⟩
        repeat walk_at "sx"
        have := next ⟨z, b, ez, eb⟩
        rw [ez] at this
        exact this
      · rcases hg with ⟨z, ez, eb⟩ | od
        · rw [ez]
          exact .inl ⟨z, rfl, fun b' c' e => (by rw [eb] at e; cases e), fun _ => hE _ g1⟩
        · refine .inr ⟨?_, hE _ g1⟩
          obtain ⟨m, b1, b2, ty, q⟩ := od
          exact ⟨m, b1, b2, g1.ty ty, q⟩
    · rintro σ H' ⟨rfl, ⟨u, v, rfl⟩, hth⟩
      rcases h with ⟨rs, rfl, h1, k⟩ | ⟨⟨p, hp2, hg⟩, _, _⟩
      · have hrl : rs.length ≤ 5000 := by rw [List.length_map] at hpl; exact hpl
        repeat walk_at "sx"
        refine st_exT (.of e1) ?_
        refine st_loop2 (K := K) walk_tup hwl (fun i σ H2 => Gx A.foot H' H2 ∧ PileAt K C_Pile H2 A (S.holds ((rs.take i).map (·.2))) ∧ ∃ u v, σ = [some (.ref A.p), some (.ref l), some (.ref t), u, v, none]) ⟨Gx.refl _, pl1, _, _, rfl⟩ (fun i σ H2 _ p => ⟨p.1.t (.of e1), hw.gx p.1⟩) ?_ ?_
        · rintro i r σ H2 er ⟨gx, pl2, u, v, rfl⟩
          rw [List.getElem?_map] at er
          obtain ⟨q, eq, rfl⟩ := Option.map_eq_some_iff.mp er
          obtain ⟨kc, kn, kr, c1, c2, c3, d⟩ := pl2.dcts
          have hth2 : ((S.holds ((rs.take i).map (·.2))).box q.2).isSome = true := by
            rw [PS.holds_some]
            obtain ⟨z, b, ez, eb⟩ := h1 q (List.mem_of_getElem? eq)
            cases ez
            rw [eb] <;> rfl
          obtain ⟨x, ex⟩ := Option.isSome_iff_exists.mp hth2
          repeat walk_at "sx"
          walk_at "dx"
          repeat walk_at "sx"
          refine lf_fld pl2.ins T.cl_Pile T.n_Pile__counts (pfs_lk A _).2.1 ?_
          repeat walk_at "sx"
          refine ⟨A.c, _, rfl, (show DGet H2 A.c (kV (.inl q.2)) (some (.int x.2)) by have z := DGet.k (k := .inl q.2) c1; rw [d.vc, ex] at z; exact z), ?_⟩
          repeat walk_at "sx"
          refine ⟨_, _, rfl, rfl, _, DPut.k (k := .inl q.2) c1 (sz_lt (by have := d.lc; have := d.ok.big; omega)), ?_⟩
          refine ⟨gx.put (.inr (.inl rfl)) c1 (by intro z; exact z) (by intro _ z; cases z), ?_, _, _, rfl⟩
          rw [st_holds eq]
          exact pl2.cnt c1 c2 c3 rfl (d.hold ex)
        · rintro σ H2 ⟨gx, pl2, u, v, rfl⟩
          rw [List.length_map, List.take_length] at pl2
          obtain ⟨kc, kn, kr, c1, c2, c3, d⟩ := pl2.dcts
          obtain ⟨n1, n2, n3⟩ := pl2.ne
          have hmd : (S.holds (rs.map (·.2))).made = S.made := PS.holds_made _ _
          have ncp : A.c ≠ A.p := ne_of c1 pl2.ins (by intro z; cases z)
          have nrp : A.r ≠ A.p := ne_of c3 pl2.ins (by intro z; cases z)
          have nnp : A.n ≠ A.p := ne_of c2 pl2.ins (by intro z; cases z)
          repeat walk_at "sx"
          refine pl2.fm (by decide +kernel) (by decide +kernel) (by decide +kernel) (by decide +kernel) ?_
          repeat walk_at "sx"
          refine ⟨A, (S.holds (rs.map (·.2))).made, kc, rfl, pl2.ins, c1, by have := d.lc; have := d.ok.big; omega, ?_⟩
          repeat walk_at "sx"
          walk_at "dx"
          repeat walk_at "sx"
          refine lf_fld (by rw [upd_ne ncp.symm]; exact upd_same) T.cl_Pile T.n_Pile__rows (pfs_lk A _).2.2.2 ?_
          repeat walk_at "sx"
          refine lf_dput (k := .inl _) (by rw [upd_ne n2.symm, upd_ne nrp]; exact c3) (by have := d.lr; have := d.ok.big; omega) ?_
          repeat walk_at "sx"
          have gx3 : Gx A.foot H2 _ := (((Gx.refl H2).put (o' := .ins C_Pile A.dx (pfs A (((S.holds (rs.map (·.2))).made : Int) + 1))) (.inl rfl) pl2.ins (by intro z; exact z) (by intro _ z; cases z)).put (o' := .dK (putK kc (Sum.inl (((S.holds (rs.map (·.2))).made : Int) + 1)) (.int 0))) (.inr (.inl rfl)) (by rw [upd_ne ncp]; exact c1) (by intro z; exact z) (by intro _ z; cases z)).put
            (o' := .dK (putK kr (Sum.inl (((S.holds (rs.map (·.2))).made : Int) + 1)) (.ref t))) (.inr (.inr (.inr rfl))) (by rw [upd_ne n2.symm, upd_ne nrp]; exact c3) (by intro z; exact z) (by intro _ z; cases z)
          rw [hmd] at gx3 ⊢
          refine k _ (((Gx.of g1).trans gx).trans gx3) ⟨?_, ⟨putK kc (Sum.inl ((S.made : Int) + 1)) (.int 0), kn, putK kr (Sum.inl ((S.made : Int) + 1)) (.ref t), ?_, ?_, upd_same, ?_⟩, pl2.ne⟩
          · rw [upd_ne nrp.symm, upd_ne ncp.symm, upd_same]
            show _ = some (HO.ins C_Pile A.dx (pfs A (((S.holds (rs.map (·.2))).made + 1 : Nat) : Int)))
            rw [hmd] <;> rfl
          · rw [upd_ne n2, upd_same]
          · rw [upd_ne n3, upd_ne n1.symm, upd_ne nnp]
            exact c2
          · have dd := (d.mkBranch (t := t) (us := ws) (rs := rs) ((gx.t (.of e1))) ((hw.gx gx).rw) hrl (by rw [hmd]; exact hm)).move fun _ _ => gx3.t
            rw [hmd] at dd
            exact dd
      · exfalso
        obtain ⟨j, hj, ej⟩ := List.mem_iff_getElem.mp hp2
        obtain ⟨z, b, ez, eb⟩ := hth j p hj (by rw [List.getElem?_eq_getElem hj, ej])
        rcases hg with ⟨z', ez', eb'⟩ | ⟨m, b1, b2, ty, q1, q2, q3⟩
        · rw [ez] at ez'
          cases ez'
          rw [eb] at eb'
          cases eb'
        · rw [ez] at ty
          cases ty with
          | base ty =>
            cases ty
            rw [show kitB "int" "int" = some true from by decide +kernel] at q1
            rw [show kitB "int" "bool" = some false from by decide +kernel] at q2
            cases q1
            cases q2
            cases q3
end
/-! ### the law's own two dicts: what is in each box, and how many hold it -/
structure LDk (K : PySem.W.Frag) (H : Hp) (S : PS) (kI kC : List (Key × V)) : Prop where
  ok : S.Ok
  low : ∀ z x, S.box z = some x → lowR x.1.rows
  vI : ∀ z : Int, match S.box z with
    | none => valV kI (Sum.inl z) = none
    | some x => ∃ t, valV kI (Sum.inl z) = some (.ref t) ∧ Told K H x.1 t
  vC : ∀ z : Int, valV kC (Sum.inl z) = (S.box z).map fun x => V.int x.2
  ks : ∃ ks : List Int, kI.map (·.1) = ks.map Sum.inl ∧ ks.Nodup
  lI : kI.length ≤ S.made
  lC : kC.length ≤ S.made
structure LD (K : PySem.W.Frag) (H : Hp) (i c : Addr) (S : PS) : Prop where
  d : ∃ kI kC, H i = some (.dK kI) ∧ H c = some (.dK kC) ∧ LDk K H S kI kC
  ne : i ≠ c
theorem Told.gx {K : PySem.W.Frag} {F : Addr → Prop} {H H' : Hp} {b : Bx} {t : Addr} (h : Told K H b t) (g : Gx F H H') : Told K H' b t := by
  cases b with
  | leaf n => exact g.tup h
  | branch rs =>
    obtain ⟨l, us, e1, e2, p⟩ := h
    exact ⟨l, us, g.tup e1, g.lst e2, p.gx g⟩
theorem LDk.gx {K : PySem.W.Frag} {F : Addr → Prop} {H H' : Hp} {S : PS} {kI kC : List (Key × V)} (h : LDk K H S kI kC) (g : Gx F H H') : LDk K H' S kI kC := by
  refine ⟨h.ok, h.low, fun z => ?_, h.vC, h.ks, h.lI, h.lC⟩
  have := h.vI z
  cases e : S.box z with
  | none => rw [e] at this; exact this
  | some x =>
    rw [e] at this
    obtain ⟨t, e1, e2⟩ := this
    exact ⟨t, e1, e2.gx g⟩
theorem LD.gx {K : PySem.W.Frag} {F : Addr → Prop} {H H' : Hp} {S : PS} {i c : Addr} (h : LD K H i c S) (g : Gx F H H') (hi : ¬ F i) (hc : ¬ F c) : LD K H' i c S := by
  obtain ⟨⟨kI, kC, e1, e2, d⟩, ne⟩ := h
  exact ⟨⟨kI, kC, g.keep _ _ e1 hi (fun _ z => by cases z), g.keep _ _ e2 hc (fun _ z => by cases z), d.gx g⟩, ne⟩
theorem LD.gr {K : PySem.W.Frag} {H H' : Hp} {S : PS} {i c : Addr} (h : LD K H i c S) (g : Gr H H') : LD K H' i c S := h.gx (F := fun _ => False) (Gx.of g) (fun z => z) (fun z => z)
section
variable {K : PySem.W.Frag} {H : Hp} {S : PS} {kI kC : List (Key × V)}
theorem LDk.none_next (d : LDk K H S kI kC) : S.box ((S.made : Int) + 1) = none := by
  cases e : S.box ((S.made : Int) + 1) with
  | none => rfl
  | some x =>
    have := d.ok.dom _ _ e
    omega
theorem LDk.new (d : LDk K H S kI kC) {b : Bx} {t : Addr} (ht : Told K H b t) (hb : b.rows.length ≤ 5000) (hl : lowR b.rows) (hm : S.made ≤ 2900) :
    LDk K H (S.new b) (putK kI (Sum.inl ((S.made : Int) + 1)) (.ref t)) (putK kC (Sum.inl ((S.made : Int) + 1)) (.int 0)) := by
  have h0 := d.none_next
  obtain ⟨ks, hk, hn⟩ := d.ks
  refine ⟨d.ok.new hb hm, fun z x e => ?_, fun z => ?_, fun z => ?_, keys_put hk hn _ _, Nat.le_trans (length_putK _ _ _) (Nat.succ_le_succ d.lI), Nat.le_trans (length_putK _ _ _) (Nat.succ_le_succ d.lC)⟩
  · unfold PS.new at e
    dsimp only at e
    by_cases q : z = (S.made : Int) + 1
    · rw [if_pos q] at e
      cases e
      exact hl
    · rw [if_neg q] at e
      exact d.low z x e
  · rw [valV_put]
    unfold PS.new
    dsimp only
    by_cases q : z = (S.made : Int) + 1
    · rw [if_pos (inl_eq.mpr q), if_pos q]
      exact ⟨t, rfl, ht⟩
    · rw [if_neg fun w => q (inl_eq.mp w), if_neg q]
      exact d.vI z
  · rw [valV_put]
    unfold PS.new
    dsimp only
    by_cases q : z = (S.made : Int) + 1
    · rw [if_pos (inl_eq.mpr q), if_pos q] <;> rfl
    · rw [if_neg fun w => q (inl_eq.mp w), if_neg q, d.vC]
theorem LDk.hold (d : LDk K H S kI kC) {z : Int} {x : Bx × Nat} (e : S.box z = some x) : LDk K H (S.hold z) kI (putK kC (Sum.inl z) (.int ((x.2 : Int) + 1))) := by
  have hs : (valV kC (Sum.inl z)).isSome = true := by rw [d.vC, e] <;> rfl
  refine ⟨d.ok.hold z, fun y u eu => ?_, fun y => ?_, fun y => ?_, d.ks, d.lI, by rw [putK_has_len hs]; exact d.lC⟩
  · unfold PS.hold at eu
    dsimp only at eu
    by_cases q : y = z
    · rw [if_pos q, q, e] at eu
      cases eu
      exact d.low z x e
    · rw [if_neg q] at eu
      exact d.low y u eu
  · have := d.vI y
    unfold PS.hold
    dsimp only
    by_cases q : y = z
    · rw [if_pos q]
      rw [q, e] at this ⊢
      exact this
    · rw [if_neg q]
      exact this
  · rw [valV_put]
    unfold PS.hold
    dsimp only
    by_cases q : y = z
    · rw [if_pos (inl_eq.mpr q), if_pos q, q, e] <;> rfl
    · rw [if_neg fun w => q (inl_eq.mp w), if_neg q, d.vC]
theorem LDk.lower (d : LDk K H S kI kC) {z : Int} {x : Bx × Nat} (e : S.box z = some x) : LDk K H (S.lower z) kI (putK kC (Sum.inl z) (.int ((x.2 - 1 : Nat) : Int))) := by
  have hs : (valV kC (Sum.inl z)).isSome = true := by rw [d.vC, e] <;> rfl
  refine ⟨d.ok.lower z, fun y u eu => ?_, fun y => ?_, fun y => ?_, d.ks, d.lI, by rw [putK_has_len hs]; exact d.lC⟩
  · unfold PS.lower at eu
    dsimp only at eu
    by_cases q : y = z
    · rw [if_pos q, q, e] at eu
      cases eu
      exact d.low z x e
    · rw [if_neg q] at eu
      exact d.low y u eu
  · have := d.vI y
    unfold PS.lower
    dsimp only
    by_cases q : y = z
    · rw [if_pos q]
      rw [q, e] at this ⊢
      exact this
    · rw [if_neg q]
      exact this
  · rw [valV_put]
    unfold PS.lower
    dsimp only
    by_cases q : y = z
    · rw [if_pos (inl_eq.mpr q), if_pos q, q, e] <;> rfl
    · rw [if_neg fun w => q (inl_eq.mp w), if_neg q, d.vC]
theorem LDk.drop (d : LDk K H S kI kC) (z : Int) : LDk K H (S.drop z) (dropK kI (Sum.inl z)) (dropK kC (Sum.inl z)) := by
  obtain ⟨ks, hk, hn⟩ := d.ks
  refine ⟨d.ok.drop z, fun y u eu => ?_, fun y => ?_, fun y => ?_, keys_drop hk hn _, Nat.le_trans (dropK_le _ _) d.lI, Nat.le_trans (dropK_le _ _) d.lC⟩
  · unfold PS.drop at eu
    dsimp only at eu
    by_cases q : y = z
    · rw [if_pos q] at eu; cases eu
    · rw [if_neg q] at eu
      exact d.low y u eu
  · have := d.vI y
    unfold PS.drop
    dsimp only
    by_cases q : y = z
    · rw [if_pos q]
      dsimp only
      rw [valV_dropK, if_pos (inl_eq.mpr q)]
    · rw [if_neg q, valV_dropK, if_neg fun w => q (inl_eq.mp w)]
      exact this
  · rw [valV_dropK]
    unfold PS.drop
    dsimp only
    by_cases q : y = z
    · rw [if_pos (inl_eq.mpr q), if_pos q] <;> rfl
    · rw [if_neg fun w => q (inl_eq.mp w), if_neg q, d.vC]
theorem LDk.empty (K : PySem.W.Frag) (H : Hp) : LDk K H PS.empty [] [] := ⟨⟨fun _ _ h => (nomatch h), fun _ _ h => (nomatch h), Nat.zero_le _⟩, fun _ _ h => (nomatch h), fun _ => rfl, fun _ => rfl, ⟨[], rfl, List.nodup_nil⟩, Nat.le_refl _, Nat.le_refl _⟩
end
def spWhole : Sp := fun vs H Q _ => ∃ i : Int, vs = [.int i] ∧ Q (.bl true) H
def spCount : Sp := fun vs H Q _ => ∃ i j : Int, vs = [.int i, .int j] ∧ Q (.bl (decide (i = j))) H
def spAlike (K : PySem.W.Frag) : Sp := fun vs H Q _ => ∃ (t u : Addr) (b : Bx), vs = [.ref t, .ref u] ∧ Told K H b t ∧ Told K H b u ∧ lowR b.rows ∧ b.rows.length ≤ 5000 ∧ ∀ H', Gr H H' → Q (.bl true) H'
def spGone (K : PySem.W.Frag) : Sp := fun vs H Q _ => ∃ (i c : Addr) (z : Int) (S : PS), vs = [.ref i, .ref c, .int z] ∧ LD K H i c S ∧ ∀ H', Gx (F2 i c) H H' → LD K H' i c (S.letGo z).1 → Q (.int (S.letGo z).2) H'
def spRowsBy (K : PySem.W.Frag) : Sp := fun vs H Q _ => ∃ (n : Int) (l : Addr) (zs : List Int), vs = [.int n, .ref l] ∧ SqL K H l (zs.map V.int) ∧ zs ≠ [] ∧ zs.length ≤ 3000 ∧
  ∀ p us rs H', H p = none → Gr H H' → H' p = some (.lst us) → Prs K H' us rs → lowR rs → rs.length ≤ 41 → (∀ r ∈ rs, r.2 ∈ zs) → Q (.ref p) H'
structure CW (P : Program) (w : World) (K : PySem.W.Frag) (mg : Str → Option Value) (base : Heap) : Prop where
  whole : Df P w K mg base 1 "_law_whole" ["_law_seen"] spWhole
structure CC (P : Program) (w : World) (K : PySem.W.Frag) (mg : Str → Option Value) (base : Heap) : Prop extends CW P w K mg base where
  count : Df P w K mg base 2 "_law_count" ["_law_seen", "_law_due"] spCount
theorem leaf_branch : decide (V.str "leaf" = V.str "branch") = false := by decide +kernel
theorem branch_leaf : decide (V.str "branch" = V.str "leaf") = false := by decide +kernel
section
variable {P : Program} {w : World} {K : PySem.W.Frag} {mg : Str → Option Value} {base : Heap} {C_Pile E_NoBox : Addr}
theorem scwhole : FnScope ["_law_seen"] ["_law_seen"] (defScope swhole) := ⟨rfl, rfl, rfl, by decide +kernel, rfl, by decide +kernel, by decide +kernel⟩
theorem ok_whole {f : Addr} {fd : FuncData} (F : Fun K "_law_whole" "_law_whole" swhole f fd) (T : Txt K mg C_Pile E_NoBox) : FnOk P w K mg base (L2.CX P w) 1 f fd ["_law_seen"] spWhole := by
  refine F.okX scwhole (fun vs H Q E h => ?_) (fun cdv A outer s H vs Q E hr h => ?_)
  · obtain ⟨i, rfl, _⟩ := h
    rfl
  · obtain ⟨i, rfl, k⟩ := h
    refine ⟨_, (pss_one (ps_ret (pe_and (pe_callB (cIsi (K := K) rfl) (by rfl) T.isinstance boot_isinstance (pa_cons (pv 0) (pa_cons (pe_bltn (by rfl) T.int PyProof.Rows.boot_int (v := .ty "int") rfl) pa_nil))) (pe_one (pe_not (pe_callB (cIsi (K := K) rfl) (by rfl) T.isinstance boot_isinstance (pa_cons (pv 0) (pa_cons (pe_bltn (by rfl) T.bool PyProof.Rows.boot_bool (v := .ty "bool") rfl) pa_nil)))))))), ?_⟩
    repeat walk_at "sx"
    refine st_isi (.base (.int _)) (b := true) (by decide +kernel) ?_
    repeat walk_at "sx"
    refine st_isi (.base (.int _)) (b := false) (by decide +kernel) ?_
    repeat walk_at "sx"
    exact k
theorem sccount : FnScope ["_law_seen", "_law_due"] ["_law_seen", "_law_due"] (defScope scount) := ⟨rfl, rfl, rfl, by decide +kernel, rfl, by decide +kernel, by decide +kernel⟩
theorem ok_count {f : Addr} {fd : FuncData} (F : Fun K "_law_count" "_law_count" scount f fd) (T : Txt K mg C_Pile E_NoBox) (C : CW P w K mg base) : FnOk P w K mg base (L2.CX P w) 2 f fd ["_law_seen", "_law_due"] spCount := by
  refine F.okX sccount (fun vs H Q E h => ?_) (fun cdv A outer s H vs Q E hr h => ?_)
  · obtain ⟨i, j, rfl, _⟩ := h
    rfl
  · obtain ⟨i, j, rfl, k⟩ := h
    refine ⟨_, (pss_one (ps_ret (pe_and (pe_d0 C.whole (hr.mono (by decide)) rfl (pa_cons (pv 0) pa_nil)) (pe_one (pe_cmpR op_eq (pv 0) (pv 1) (nomark _)))))), ?_⟩
    repeat walk_at "sx"
    refine ⟨_, rfl, ?_⟩
    repeat walk_at "sx"
    rw [show decide (V.int i = V.int j) = decide (i = j) from decide_eq_decide.mpr ⟨fun q => V.int.inj q, fun q => by rw [q]⟩]
    exact k
theorem scalike : FnScope ["_law_seen", "_law_due", "_law_k", "_law_pair"] ["_law_seen", "_law_due"] (defScope salike) := ⟨rfl, rfl, rfl, by decide +kernel, rfl, by decide +kernel, by decide +kernel⟩
theorem ok_alike {f : Addr} {fd : FuncData} (F : Fun K "_law_alike" "_law_alike" salike f fd) (T : Txt K mg C_Pile E_NoBox) (C : CC P w K mg base) : FnOk P w K mg base (L2.CX P w) 3 f fd ["_law_seen", "_law_due"] (spAlike K) := by
  refine F.okX scalike (fun vs H Q E h => ?_) (fun cdv A outer s H vs Q E hr h => ?_)
  · obtain ⟨t, u, b, rfl, _⟩ := h
    rfl
  · obtain ⟨t, u, b, rfl, h1, h2, hlow, hlen, k⟩ := h
    refine ⟨_, (pss_cons (ps_if (PW.pt (pw_or (pt_not (pt_val (pe_callB (cIsi (K := K) rfl) (by rfl) T.isinstance boot_isinstance (pa_cons (pv 0) (pa_cons (pe_bltn (by rfl) T.tuple PyProof.Rows.boot_tuple (v := .ty "tuple") rfl) pa_nil))))) (pw_or (pt_cmpR op_ne (pe_callB (cLenQ (K := K) rfl) (by rfl) T.len PySem.boot_len (pa_cons (pv 0) pa_nil)) pe_int (nomark _)) (pw_or (pt_not (pt_val (pe_callB (cIsi (K := K) rfl) (by rfl) T.isinstance boot_isinstance (pa_cons (pe_ix (ixT (K := K) rfl) (pv 0) pe_int (fun _ _ => rfl)) (pa_cons (pe_bltn (by rfl) T.str PyProof.Rows.boot_str (v := .ty "str") rfl) pa_nil))))) (pw_or1 (pt_cmpR op_ne (pe_ix (ixT (K := K) rfl) (pv 0) pe_int (fun _ _ => rfl)) (pe_ix (ixT (K := K) rfl) (pv 1) pe_int (fun _ _ => rfl)) (nomark _)))))))
  (pss_one (ps_ret pe_bl))
  pss_nil)
  (pss_cons (ps_if (pt_cmpR op_eq (pe_ix (ixT (K := K) rfl) (pv 1) pe_int (fun _ _ => rfl)) pe_str (nomark _))
  (pss_one (ps_ret (pe_d0 C.count (hr.mono (by decide)) rfl (pa_cons (pe_ix (ixT (K := K) rfl) (pv 0) pe_int (fun _ _ => rfl)) (pa_cons (pe_ix (ixT (K := K) rfl) (pv 1) pe_int (fun _ _ => rfl)) pa_nil)))))
  pss_nil)
  (pss_cons (ps_if (PW.pt (pw_or (pt_not (pt_val (pe_callB (cIsi (K := K) rfl) (by rfl) T.isinstance boot_isinstance (pa_cons (pe_ix (ixT (K := K) rfl) (pv 0) pe_int (fun _ _ => rfl)) (pa_cons (pe_bltn (by rfl) T.list PyProof.Rows.boot_list (v := .ty "list") rfl) pa_nil))))) (pw_or1 (pt_cmpR op_ne (pe_callB (cLenQ (K := K) rfl) (by rfl) T.len PySem.boot_len (pa_cons (pe_ix (ixT (K := K) rfl) (pv 0) pe_int (fun _ _ => rfl)) pa_nil)) (pe_callB (cLenQ (K := K) rfl) (by rfl) T.len PySem.boot_len (pa_cons (pe_ix (ixT (K := K) rfl) (pv 1) pe_int (fun _ _ => rfl)) pa_nil)) (nomark _)))))
  (pss_one (ps_ret pe_bl))
  pss_nil)
  (pss_cons (ps_for (passes_of rfl) rfl (pi_range1 rfl T.range (pa_cons (pe_callB (cLenQ (K := K) rfl) (by rfl) T.len PySem.boot_len (pa_cons (pe_ix (ixT (K := K) rfl) (pv 1) pe_int (fun _ _ => rfl)) pa_nil)) pa_nil)) (pg_name (i := 2) scalike.nd rfl (Or.inl rfl))
  (pss_cons (ps_set (i := 3) scalike.nd rfl (Or.inl rfl) (pe_ix (ixL (K := K) rfl) (pe_ix (ixT (K := K) rfl) (pv 0) pe_int (fun _ _ => rfl)) (pv 2) (fun _ _ => rfl)))
  (pss_one (ps_if (PW.pt (pw_or (pt_not (pt_val (pe_callB (cIsi (K := K) rfl) (by rfl) T.isinstance boot_isinstance (pa_cons (pv 3) (pa_cons (pe_bltn (by rfl) T.tuple PyProof.Rows.boot_tuple (v := .ty "tuple") rfl) pa_nil))))) (pw_or (pt_cmpR (oNeD (K := K) rfl hr.units) (pv 3) (pe_ix (ixL (K := K) rfl) (pe_ix (ixT (K := K) rfl) (pv 1) pe_int (fun _ _ => rfl)) (pv 2) (fun _ _ => rfl)) (nomark _)) (pw_or1 (pt_not (pt_val (pe_d0 C.whole (hr.mono (by decide)) rfl (pa_cons (pe_ix (ixT (K := K) rfl) (pv 3) pe_int (fun _ _ => rfl)) pa_nil))))))))
  (pss_one (ps_ret pe_bl))
  pss_nil))))
  (pss_one (ps_ret pe_bl)))))), ?_⟩
    repeat walk_at "sx"
    cases b with
    | leaf n =>
      have t1 : SqT K H t [.str "leaf", .int n] := .of h1
      have t2 : SqT K H u [.str "leaf", .int n] := .of h2
      refine st_isi (tyT t1) (b := true) (by decide +kernel) ?_
      repeat walk_at "sx"
      refine st_lenT2 t1 ?_
      repeat walk_at "sx"
      refine st_ixT t1 (atI_nat (j := 0) rfl) ?_
      repeat walk_at "sx"
      refine st_isi (.base (.str _)) (b := true) (by decide +kernel) ?_
      repeat walk_at "sx"
      refine st_ixT t1 (atI_nat (j := 0) rfl) ?_
      repeat walk_at "sx"
      refine st_ixT t2 (atI_nat (j := 0) rfl) ?_
      repeat walk_at "sx"
      refine st_ixT t2 (atI_nat (j := 0) rfl) ?_
      repeat walk_at "sx"
      refine st_ixT t1 (atI_nat (j := 1) rfl) ?_
      repeat walk_at "sx"
      refine st_ixT t2 (atI_nat (j := 1) rfl) ?_
      repeat walk_at "sx"
      refine ⟨_, _, rfl, ?_⟩
      rw [decide_eq_true rfl]
      exact k _ (Gr.refl _)
    | branch rs =>
      obtain ⟨l1, us1, a1, b1, p1⟩ := h1
      obtain ⟨l2, us2, a2, b2, p2⟩ := h2
      have t1 : SqT K H t [.str "branch", .ref l1] := .of a1
      have t2 : SqT K H u [.str "branch", .ref l2] := .of a2
      have s1 : SqL K H l1 us1 := .of b1
      have s2 : SqL K H l2 us2 := .of b2
      have hrs : rs.length ≤ 5000 := hlen
      refine st_isi (tyT t1) (b := true) (by decide +kernel) ?_
      repeat walk_at "sx"
      refine st_lenT2 t1 ?_
      repeat walk_at "sx"
      refine st_ixT t1 (atI_nat (j := 0) rfl) ?_
      repeat walk_at "sx"
      refine st_isi (.base (.str _)) (b := true) (by decide +kernel) ?_
      repeat walk_at "sx"
      refine st_ixT t1 (atI_nat (j := 0) rfl) ?_
      repeat walk_at "sx"
      refine st_ixT t2 (atI_nat (j := 0) rfl) ?_
      repeat walk_at "sx"
      refine st_ixT t2 (atI_nat (j := 0) rfl) ?_
      repeat walk_at "sx"
      rw [branch_leaf]
      repeat walk_at "sx"
      refine st_ixT t1 (atI_nat (j := 1) rfl) ?_
      repeat walk_at "sx"
      refine st_isi (tyL s1) (b := true) (by decide +kernel) ?_
      repeat walk_at "sx"
      refine st_ixT t1 (atI_nat (j := 1) rfl) ?_
      repeat walk_at "sx"
      refine st_lenL s1 ?_
      repeat walk_at "sx"
      refine st_ixT t2 (atI_nat (j := 1) rfl) ?_
      repeat walk_at "sx"
      refine st_lenL s2 ?_
      rw [p1.len, p2.len]
      repeat walk_at "sx"
      repeat walk_at "sx"
      refine st_ixT t2 (atI_nat (j := 1) rfl) ?_
      repeat walk_at "sx"
      refine st_lenL s2 ?_
      rw [p2.len]
      repeat walk_at "sx"
      refine st_exR (by omega) (by omega) ?_
      rw [Int.toNat_natCast]
      refine st_loopR (fun i σ H' => H' = H ∧ ∃ u' v', σ = [some (.ref t), some (.ref u), u', v']) ⟨rfl, none, none, rfl⟩ ?_ ?_
      · rintro i σ H' hi ⟨rfl, u', v', rfl⟩
        obtain ⟨r, hr2⟩ : ∃ r, rs[i]? = some r := ⟨rs[i]'hi, List.getElem?_eq_getElem _⟩
        obtain ⟨p, hp1, hp2⟩ := p1.at hr2
        obtain ⟨q, hq1, hq2⟩ := p2.at hr2
        repeat walk_at "sx"
        refine st_ixT t1 (atI_nat (j := 1) rfl) ?_
        repeat walk_at "sx"
        refine st_ixL s1 (atI_nat hp1) ?_
        repeat walk_at "sx"
        refine st_isi (tyT hp2) (b := true) (by decide +kernel) ?_
        repeat walk_at "sx"
        refine st_ixT t2 (atI_nat (j := 1) rfl) ?_
        repeat walk_at "sx"
        refine st_ixL s2 (atI_nat hq1) ?_
        repeat walk_at "sx"
        refine st_nePair hp2 hq2 (hlow r (List.mem_of_getElem? hr2)) ?_
        repeat walk_at "sx"
        refine st_ixT hp2 (atI_nat (j := 1) rfl) ?_
        repeat walk_at "sx"
        refine ⟨_, rfl, ?_⟩
        repeat walk_at "sx"
        exact ⟨rfl, _, _, rfl⟩
      · rintro σ H' ⟨rfl, u', v', rfl⟩
        repeat walk_at "sx"
        exact k _ (Gr.refl _)
end
theorem st_dpop1 {td ty : TE} {σ : L2.St} {H : Hp} {Q : VK} (h : td σ H fun x H1 => ∃ a, x = .ref a ∧ IsD H1 a ∧ ty σ H1 fun y H2 => ∃ kvs k v, H2 a = some (.dK kvs) ∧ y = kV k ∧ valV kvs k = some v ∧ Q v (upd H2 a (.dK (dropK kvs k)))) : tDPop1 td ty σ H Q := h
theorem lc_rows {K : PySem.W.Frag} {l : Addr} {us : List V} {rs : Rw} {j : Nat} {te : TE} {vs : List Nat} {σ : L2.St} {H1 : Hp} {Q : VK} (hl : SqL K H1 l us) (pr : Prs K H1 us rs) (f : Str × Int → V)
    (hs : ∀ r p H2, r ∈ rs → Gr H1 H2 → SqT K H2 p [.str r.1, .int r.2] → ∀ Qy : VK, (∀ H3, Gr H2 H3 → Qy (f r) H3) → te ((wipe σ vs).set j (some (.ref p))) H2 Qy)
    (hq : ∀ D H2, H1 D = none → Gr H1 H2 → H2 D = some (.lst (rs.map f)) → Q (.ref D) H2) (hn : rs.length ≤ 1000000) (hw : ∀ x, wipe ((wipe σ vs).set j (some x)) vs = wipe σ vs := by intro _; rfl) : LC (gName j) tYes te vs σ Q (Itl K l) H1 := by
  refine lc_gr (n := us.length) (Y := fun i x => us[i]? = some x) walk_list (fun H' g => g.l hl) (fun i => some (f (rs.getD i ("", 0)))) (fun i x H2 hi y g Qy Qn q1 q2 => ?_) (fun D H2 hD g e => hq D H2 hD g ?_) (by rw [pr.len]; exact hn) hw
  · obtain ⟨p, r, rfl, er, hp⟩ := pr.back y
    refine iteT (B := Qn H2) (hs r p H2 (List.mem_of_getElem? er) g (g.t hp) Qy fun H3 g3 => q1 _ H3 ?_ g3)
    rw [List.getD_eq_getElem?_getD, er] <;> rfl
  · rw [e, filterMap_some, pr.len]
    have k : ∀ l : Rw, (List.range l.length).map (fun i => f (l.getD i ("", 0))) = l.map f := by
      intro l
      induction l with
      | nil => rfl
      | cons x r ih =>
        rw [List.length_cons, List.range_succ_eq_map, List.map_cons, List.map_map, List.map_cons, ← ih]
        rfl
    rw [k]
def spAsDue (K : PySem.W.Frag) (C : Addr) : Sp := fun vs H Q _ => ∃ (A : PA) (i c : Addr) (S : PS), vs = [.ref A.p, .ref i, .ref c, .int (S.made : Int)] ∧ PileAt K C H A S ∧ LD K H i c S ∧ ∀ H', Gr H H' → Q (.bl true) H'
structure CP3 (P : Program) (w : World) (K : PySem.W.Frag) (mg : Str → Option Value) (base : Heap) (C B Pt : Addr) : Prop where
  plLeaf : Mf P w K mg base 2 C "leaf" ["self", "number"] (spLeaf K C)
  plBranch : Mf P w K mg base 3 C "branch" ["self", "rows"] (spBranch K C B Pt)
  plContent : Mf P w K mg base 3 C "content" ["self", "box"] (spContent K C B)
  plHold : Mf P w K mg base 3 C "hold" ["self", "box"] (spHold K C B)
  plHolders : Mf P w K mg base 3 C "holders" ["self", "box"] (spHolders K C B)
  plLetGo : Mf P w K mg base 3 C "let_go" ["self", "box"] (spLetGo K C B)
  plKept : Mf P w K mg base 1 C "kept" ["self"] (spKept K C)
structure CE (P : Program) (w : World) (K : PySem.W.Frag) (mg : Str → Option Value) (base : Heap) (C B Pt : Addr) : Prop extends CP3 P w K mg base C B Pt, CC P w K mg base
def lets : List Nat := (Str.ofString "nopqrstuvwxyz").cps.toList
def fours : List Nat := (Str.ofString "abcd").cps.toList
theorem lets_eq : lets = [110, 111, 112, 113, 114, 115, 116, 117, 118, 119, 120, 121, 122] := by decide +kernel
theorem fours_eq : fours = [97, 98, 99, 100] := by decide +kernel
def chN (n : Int) (i : Nat) : Str := ⟨#[lets.getD ((n / 7 + 5 * (i : Int)) % 13).toNat 0]⟩ ++ repS ⟨#[fours.getD ((i : Int) % 4).toNat 0]⟩ (i / 13)
theorem lows_one {c : Nat} (h : 97 ≤ c ∧ c ≤ 122) : lowS ⟨#[c]⟩ = true := by
  unfold lowS
  simp [h.1, h.2]
theorem lets_low (i : Nat) (h : i < 13) : 97 ≤ lets.getD i 0 ∧ lets.getD i 0 ≤ 122 := by
  rw [lets_eq]
  have : ∀ i, i < 13 → 97 ≤ ([110, 111, 112, 113, 114, 115, 116, 117, 118, 119, 120, 121, 122] : List Nat).getD i 0 ∧ ([110, 111, 112, 113, 114, 115, 116, 117, 118, 119, 120, 121, 122] : List Nat).getD i 0 ≤ 122 := by decide
  exact this i h
theorem fours_low (i : Nat) (h : i < 4) : 97 ≤ fours.getD i 0 ∧ fours.getD i 0 ≤ 122 := by
  rw [fours_eq]
  have : ∀ i, i < 4 → 97 ≤ ([97, 98, 99, 100] : List Nat).getD i 0 ∧ ([97, 98, 99, 100] : List Nat).getD i 0 ≤ 122 := by decide
  exact this i h
theorem chN_low (n : Int) (i : Nat) : lowS (chN n i) = true := by
  unfold chN
  rw [lowS_app, lows_one (lets_low _ (by omega)), repS_low (lows_one (fours_low _ (by omega)))] <;> rfl
theorem at_get {l : List Nat} {j : Int} {n : Nat} (hn : l.length = n) (h1 : 0 ≤ j) (h2 : j < n) : atI l j = some (l.getD j.toNat 0) := by
  obtain ⟨k, rfl⟩ := Int.eq_ofNat_of_zero_le h1
  rw [atI_nat (j := k) (List.getElem?_eq_getElem (by omega)), Int.toNat_natCast, List.getD_eq_getElem?_getD, List.getElem?_eq_getElem (by omega)] <;> rfl
def rwN (n : Int) (zs : List Int) (ns : List Str) : Rw := (List.range ns.length).map fun i => (ns.getD i "", zs.getD ((n / 11 + 3 * (i : Int)) % zs.length).toNat 0)
section
variable {P : Program} {w : World} {K : PySem.W.Frag} {mg : Str → Option Value} {base : Heap} {C_Pile E_NoBox : Addr}
theorem scgoneL : FnScope ["_law_inside", "_law_counts", "_law_box", "_law_waiting", "_law_gone_here", "_law_one", "_law_left", "_law_pair"] ["_law_inside", "_law_counts", "_law_box"] (defScope sgoneL) := ⟨rfl, rfl, rfl, by decide +kernel, rfl, by decide +kernel, by decide +kernel⟩
theorem ok_goneL {f : Addr} {fd : FuncData} (F : Fun K "_law_gone" "_law_gone" sgoneL f fd) (T : Txt K mg C_Pile E_NoBox) : FnOk P w K mg base (L2.CX P w) 1 f fd ["_law_inside", "_law_counts", "_law_box"] (spGone K) := by
  refine F.okX scgoneL (fun vs H Q E h => ?_) (fun cdv A outer s H vs Q E hr h => ?_)
  · obtain ⟨i, c, z, S, rfl, _⟩ := h
    rfl
  · obtain ⟨i, c, z, S, rfl, ld, k⟩ := h
    have hu := hu_of hr
    have ok0 : S.Ok := by
      obtain ⟨_, _, _, _, d⟩ := ld.d
      exact d.ok
    refine ⟨_, (pss_cons (ps_set (i := 3) scgoneL.nd rfl (Or.inl rfl) (pe_lst (pa_cons (pv 2) pa_nil)))
  (pss_cons (ps_set (i := 4) scgoneL.nd rfl (Or.inl rfl) pe_int)
  (pss_cons (ps_while (passes_of rfl) (pt_cmpR (oNeD (K := K) rfl hr.units) (pv 3) (pe_lst pa_nil) (nomark _))
  (pss_cons (ps_set (i := 5) scgoneL.nd rfl (Or.inl rfl) (pe_bm0 PySem.F.plainAttrs_list PySem.F.slot_list_pop PySem.F.type_list_pop mt_pop (pv 3)))
  (pss_cons (ps_if (pt_cmp (pc_din hu (pv 5) (pv 1)))
  (pss_one (ps_dput hu (pv 1) (pv 5) (pe_callB (call_max2 rfl) (by rfl) T.max (by decide +kernel) (pa_cons pe_int (pa_cons (pe_op op_sub (pe_dget hu (pv 1) (pv 5) (fun _ _ => rfl)) pe_int) pa_nil))) rfl))
  pss_nil)
  (pss_one (ps_if (PW.pt (pw_and (pt_cmp (pc_din hu (pv 5) (pv 1))) (pw_and1 (pt_cmpR op_eq (pe_dget hu (pv 1) (pv 5) (fun _ _ => rfl)) pe_int (nomark _)))))
  (pss_cons (ps_set (i := 4) scgoneL.nd rfl (Or.inl rfl) (pe_op op_add (pv 4) pe_int))
  (pss_cons (ps_expr (pe_dpop1 (pv 1) (pv 5) ⟨rfl, rfl, rfl, rfl⟩))
  (pss_cons (ps_set (i := 6) scgoneL.nd rfl (Or.inl rfl) (pe_dpop1 (pv 0) (pv 5) ⟨rfl, rfl, rfl, rfl⟩))
  (pss_one (ps_if (pt_cmpR op_eq (pe_ix (ixT (K := K) rfl) (pv 6) pe_int (fun _ _ => rfl)) pe_str (nomark _))
  (pss_one (ps_set (i := 3) scgoneL.nd rfl (Or.inl rfl) (pe_op op_cat (pv 3) (pe_lc (own := [("_law_pair", 7)]) (g := gName 7) (tt := tYes) rfl scgoneL.nd (pi_list (pe_ix (ixT (K := K) rfl) (pv 6) pe_int (fun _ _ => rfl))) (blkOk_by (N := ["_law_inside", "_law_counts", "_law_box", "_law_waiting", "_law_gone_here", "_law_one", "_law_left", "_law_pair"]) (sc := defScope sgoneL) (by decide +kernel)) (fun _ _ _ _ _ => pg_name (i := 7) scgoneL.nd rfl (Or.inl rfl)) (fun _ _ _ _ _ => pts_nil) (fun _ _ _ _ _ => (pe_ix (ixT (K := K) rfl) (pv 7) pe_int (fun _ _ => rfl)))))))
  pss_nil)))))
  pss_nil)))))
  (pss_one (ps_ret (pv 4)))))), ?_⟩
    repeat walk_at "sx"
    refine ⟨by show 1 ≤ sizeLine; decide, ?_⟩
    walk_at "new"; rename_i l hln H1 g1 e1
    repeat walk_at "sx"
    obtain ⟨kI0, kC0, c10, c20, d0⟩ := ld.d
    have nic := ld.ne
    refine st_whileN (fun m σ H' => ∃ (S' : PS) (w : List Int) (g : Nat) (l : Addr) (v1 v2 v3 : Option V), σ = [some (.ref i), some (.ref c), some (.int z), some (.ref l), some (.int (g : Int)), v1, v2, v3] ∧ Gx (F2 i c) H H' ∧ (∃ kI kC, H' i = some (.dK kI) ∧ H' c = some (.dK kC) ∧ LDk K H S' kI kC) ∧ H l = none ∧ H' l = some (.lst (w.reverse.map V.int)) ∧ m = S'.left w ∧ m ≤ 15000001 ∧ PS.run m S' w g = S.letGo z) (S.left [z])
      ⟨S, [z], 0, l, none, none, none, rfl, Gx.of g1, ⟨kI0, kC0, g1.dK c10, g1.dK c20, d0⟩, hln, e1, rfl, by have := PS.size_le ok0; unfold PS.left; rw [List.length_singleton]; omega, (PS.letGo_eq S z).symm⟩ ?_ ?_
    · rintro m σ H' ⟨S', w, g, l, v1, v2, v3, rfl, gx, ⟨kI, kC, c1, c2, d⟩, hl, el, hm, hb, hrun⟩
      repeat walk_at "sx"
      refine ⟨by show 0 ≤ sizeLine; decide, ?_⟩
      walk_at "new"; rename_i l0 hl0 H2 g2 e2
      repeat walk_at "sx"
      refine st_neI (xs := w.reverse) (ys := []) (.of (g2.lst el)) (.of e2) ?_
      repeat walk_at "sx"
      cases w with
      | nil =>
        refine iteF ?_
        repeat walk_at "sx"
        rw [PS.run_nil] at hrun
        rw [← hrun] at k
        exact k _ (gx.then g2) ⟨⟨kI, kC, g2.dK c1, g2.dK c2, d.gx (gx.then g2)⟩, nic⟩
      | cons y w =>
        rw [decide_eq_false (by simp)]
        have hstep := PS.run_cons d.ok y w g
        obtain ⟨hl2, _, _⟩ := PS.step_left d.ok y w
        rw [← hm] at hstep
        rw [hstep] at hrun
        have hlt : (S'.step y).1.left ((S'.step y).2.1.reverse ++ w) < m := by omega
        have el2 : H2 l = some (.lst (w.reverse.map V.int ++ [.int y])) := by rw [g2.lst el, List.reverse_cons, List.map_append] <;> rfl
        repeat walk_at "sx"
        walk_at "dx"
        repeat walk_at "sx"
        refine st_tyL (.of el2) ?_
        refine st_pop el2 ?_
        have nil' : i ≠ l := ne_of (g2.dK c1) el2 (by intro z; cases z)
        have ncl : c ≠ l := ne_of (g2.dK c2) el2 (by intro z; cases z)
        generalize hH3 : upd H2 l _ = H3
        have gx3 : Gx (F2 i c) H H3 := by rw [← hH3]; exact (gx.then g2).mut hl
        have c13 : H3 i = some (.dK kI) := by rw [← hH3, upd_ne nil']; exact g2.dK c1
        have c23 : H3 c = some (.dK kC) := by rw [← hH3, upd_ne ncl]; exact g2.dK c2
        have el3 : H3 l = some (.lst (w.reverse.map V.int)) := by rw [← hH3]; exact upd_same
        repeat walk_at "sx"
        walk_at "dx"
        repeat walk_at "sx"
        refine ⟨c, _, rfl, DGet.k (k := .inl y) c23, ?_⟩
        rw [d.vC]
        unfold PS.step at hrun hlt
        cases ey : S'.box y with
        | none =>
          rw [ey] at hrun hlt
          refine ⟨_, rfl, iteF ?_⟩
          repeat walk_at "sx"
          walk_at "dx"
          repeat walk_at "sx"
          refine ⟨c, _, rfl, DGet.k (k := .inl y) c23, ?_⟩
          rw [d.vC, ey]
          refine ⟨_, rfl, iteF ?_⟩
          repeat walk_at "sx"
          exact ⟨_, hlt, S', w, g, l, _, _, _, rfl, gx3, ⟨kI, kC, c13, c23, d⟩, hl, el3, rfl, by omega, hrun⟩
        | some x =>
          obtain ⟨bx, cc⟩ := x
          rw [ey] at hrun hlt
          dsimp only at hrun hlt
          refine ⟨_, rfl, iteT ?_⟩
          repeat walk_at "sx"
          walk_at "dx"
          repeat walk_at "sx"
          walk_at "dx"
          repeat walk_at "sx"
          refine lf_dget (k := .inl y) c23 (by rw [d.vC, ey] <;> rfl) ?_
          repeat walk_at "sx"
          refine ⟨0, (cc : Int) - 1, rfl, ?_⟩
          have emx : (if (cc : Int) - 1 > 0 then (cc : Int) - 1 else 0) = ((cc - 1 : Nat) : Int) := by split <;> omega
          rw [emx]
          repeat walk_at "sx"
          refine lf_dput (k := .inl y) c23 (by have := d.lC; have := d.ok.big; omega) ?_
          generalize hH4 : upd H3 c _ = H4
          have gx4 : Gx (F2 i c) H H4 := by rw [← hH4]; exact gx3.put (.inr rfl) c23 (by intro z; exact z) (by intro _ z; cases z)
          have c14 : H4 i = some (.dK kI) := by rw [← hH4, upd_ne nic]; exact c13
          have c24 : H4 c = some (.dK (putK kC (Sum.inl y) (.int ((cc - 1 : Nat) : Int)))) := by rw [← hH4]; exact upd_same
          have el4 : H4 l = some (.lst (w.reverse.map V.int)) := by rw [← hH4, upd_ne ncl.symm]; exact el3
          have d4 := d.lower ey
          have low4 : (S'.lower y).box y = some (bx, cc - 1) := PS.lower_at ey
          repeat walk_at "sx"
          walk_at "dx"
          repeat walk_at "sx"
          refine ⟨c, _, rfl, DGet.k (k := .inl y) c24, ?_⟩
          rw [d4.vC, low4]
          refine ⟨_, rfl, iteT ?_⟩
          repeat walk_at "sx"
          walk_at "dx"
          repeat walk_at "sx"
          refine lf_dget (k := .inl y) c24 (by rw [d4.vC, low4] <;> rfl) ?_
          repeat walk_at "sx"
          by_cases q : cc - 1 = 0
          · rw [if_pos q] at hrun hlt
            rw [decide_eq_true (by rw [q] <;> rfl)]
            repeat walk_at "sx"
            refine st_dpop1 ?_
            repeat walk_at "sx"
            refine ⟨c, rfl, .inl ⟨_, .inl c24⟩, ?_⟩
            repeat walk_at "sx"
            refine ⟨_, .inl y, _, c24, rfl, by rw [d4.vC, low4] <;> rfl, ?_⟩
            generalize hH5 : upd H4 c _ = H5
            have gx5 : Gx (F2 i c) H H5 := by rw [← hH5]; exact gx4.put (.inr rfl) c24 (by intro z; exact z) (by intro _ z; cases z)
            have c15 : H5 i = some (.dK kI) := by rw [← hH5, upd_ne nic]; exact c14
            have c25 : H5 c = some (.dK (dropK (putK kC (Sum.inl y) (.int ((cc - 1 : Nat) : Int))) (Sum.inl y))) := by rw [← hH5]; exact upd_same
            have el5 : H5 l = some (.lst (w.reverse.map V.int)) := by rw [← hH5, upd_ne ncl.symm]; exact el4
            have hI := d.vI y
            rw [ey] at hI
            obtain ⟨t, et, told⟩ := hI
            repeat walk_at "sx"
            refine st_dpop1 ?_
            repeat walk_at "sx"
            refine ⟨i, rfl, .inl ⟨_, .inl c15⟩, ?_⟩
            repeat walk_at "sx"
            refine ⟨_, .inl y, _, c15, rfl, et, ?_⟩
            generalize hH6 : upd H5 i _ = H6
            have gx6 : Gx (F2 i c) H H6 := by rw [← hH6]; exact gx5.put (.inl rfl) c15 (by intro z; exact z) (by intro _ z; cases z)
            have c16 : H6 i = some (.dK (dropK kI (Sum.inl y))) := by rw [← hH6]; exact upd_same
            have c26 : H6 c = some (.dK (dropK (putK kC (Sum.inl y) (.int ((cc - 1 : Nat) : Int))) (Sum.inl y))) := by rw [← hH6, upd_ne nic.symm]; exact c25
            have el6 : H6 l = some (.lst (w.reverse.map V.int)) := by rw [← hH6, upd_ne nil'.symm]; exact el5
            have d6 := d4.drop y
            rw [PS.drop_lower] at d6
            have told6 := told.gx gx6
            repeat walk_at "sx"
            cases bx with
            | leaf n =>
              refine st_ixT (.of told6) (atI_nat (j := 0) rfl) ?_
              repeat walk_at "sx"
              rw [leaf_branch]
              repeat walk_at "sx"
              exact ⟨_, hlt, S'.drop y, w, g + 1, l, _, _, _, rfl, gx6, ⟨_, _, c16, c26, d6⟩, hl, el6, rfl, by omega, hrun⟩
            | branch rs =>
              obtain ⟨l2, us, a1, b1, pr⟩ := told6
              have hrs : rs.length ≤ 5000 := d.ok.len _ _ ey
              have hwl : w.length ≤ 15000001 := by
                have : (y :: w).length ≤ m := by rw [hm]; unfold PS.left; omega
                rw [List.length_cons] at this
                omega
              refine st_ixT (.of a1) (atI_nat (j := 0) rfl) ?_
              repeat walk_at "sx"
              refine st_ixT (.of a1) (atI_nat (j := 1) rfl) ?_
              repeat walk_at "sx"
              refine st_exL (.of b1) ?_
              refine lc_rows (.of b1) pr (fun r => .int r.2) (fun r p H7 _ _ hp Qy q => ?_) (fun D H7 hD g7 e7 => ?_) (by omega)
              · repeat walk_at "sx"
                refine st_ixT hp (atI_nat (j := 1) rfl) ?_
                exact q _ (Gr.refl _)
              · repeat walk_at "sx"
                refine st_cat (g7.lst el6) e7 (by rw [List.length_map, List.length_map, List.length_reverse, sizeLine_eq]; omega) ?_
                walk_at "new"; rename_i l8 hl8 H8 g8 e8
                repeat walk_at "sx"
                refine ⟨_, hlt, S'.drop y, (rs.map (·.2)).reverse ++ w, g + 1, l8, _, _, _, rfl, (gx6.then g7).then g8, ⟨_, _, g8.dK (g7.dK c16), g8.dK (g7.dK c26), d6⟩, (gx6.then g7).free hl8, ?_, rfl, by omega, hrun⟩
                rw [e8, List.reverse_append, List.reverse_reverse, List.map_append, List.map_map] <;> rfl
          · rw [if_neg q] at hrun hlt
            rw [decide_eq_false (by intro z; exact q (by have := V.int.inj z; omega))]
            repeat walk_at "sx"
            exact ⟨_, hlt, S'.lower y, w, g, l, _, _, _, rfl, gx4, ⟨kI, _, c14, c24, d4⟩, hl, el4, rfl, by omega, hrun⟩
    · rintro σ H' Q1 Q2 hq ⟨v, e, hz, t⟩
      refine ⟨v, e, hz, fun p hp => ?_⟩
      obtain ⟨d1, d2, a1, a2, a3, a4, k, ek, q⟩ := t p hp
      exact ⟨d1, d2, a1, a2, a3, a4, k, ek, hq _ _ q⟩
theorem scrowsBy : FnScope ["_law_cell", "_law_there", "_law_many", "_law_some", "_law_k", "_law_names"] ["_law_cell", "_law_there"] (defScope srowsBy) := ⟨rfl, rfl, rfl, by decide +kernel, rfl, by decide +kernel, by decide +kernel⟩
theorem ok_rowsBy {f : Addr} {fd : FuncData} (F : Fun K "_law_rows_by" "_law_rows_by" srowsBy f fd) (T : Txt K mg C_Pile E_NoBox) : FnOk P w K mg base (L2.CX P w) 1 f fd ["_law_cell", "_law_there"] (spRowsBy K) := by
  refine F.okX scrowsBy (fun vs H Q E h => ?_) (fun cdv A outer s H vs Q E hr h => ?_)
  · obtain ⟨n, l, zs, rfl, _⟩ := h
    rfl
  · obtain ⟨n, l, zs, rfl, hl, hne, hzl, k⟩ := h
    refine ⟨_, (pss_cons (ps_set (i := 2) scrowsBy.nd rfl (Or.inl rfl) (pe_op op_mod (pv 0) pe_int))
  (C8.pss_cut (ps_if (pt_cmpR op_eq (pe_op op_mod (pe_op op_fdiv (pv 0) pe_int) pe_int) pe_int (nomark _))
  (pss_one (ps_set (i := 2) scrowsBy.nd rfl (Or.inl rfl) (pe_op op_mod (pe_op op_fdiv (pv 0) pe_int) pe_int)))
  pss_nil)
  (pss_cons (ps_setLc (i := 3) (own := [("_law_k", 4)]) (g := gName 4) (tt := tYes) rfl scrowsBy.nd rfl rfl (sw_true rfl rfl rfl (by decide +kernel)) (pi_range1 rfl T.range (pa_cons (pv 2) pa_nil)) (blkOk_by (N := ["_law_cell", "_law_there", "_law_many", "_law_some", "_law_k", "_law_names"]) (sc := defScope srowsBy) (by decide +kernel)) (fun _ _ _ _ _ => pg_name (i := 4) scrowsBy.nd rfl (Or.inl rfl)) (fun _ _ _ _ _ => pts_nil) (fun _ _ _ _ _ => (pe_op oAddS (pe_ix ix_str pe_str (pe_op op_mod (pe_op op_add (pe_op op_fdiv (pv 0) pe_int) (pe_op op_mul pe_int (pv 4))) pe_int) (fun _ _ => rfl)) (pe_op oMulS (pe_ix ix_str pe_str (pe_op op_mod (pv 4) pe_int) (fun _ _ => rfl)) (pe_op op_fdiv (pv 4) pe_int)))))
  (pss_cons (ps_set (i := 5) scrowsBy.nd rfl (Or.inr rfl) (pe_callB (cr_sortedX rfl) (by rfl) T.sorted boot_sorted (pa_cons (pe_callTy (cSetX (K := K) rfl rfl) (by rfl) T.set PyProof.Rows.boot_set (pa_cons (pv 3) pa_nil)) pa_nil)))
  (pss_one (ps_ret (pe_lc (own := [("_law_k", 4)]) (g := gName 4) (tt := tYes) rfl scrowsBy.nd (pi_range1 rfl T.range (pa_cons (pe_callB (cLenQ (K := K) rfl) (by rfl) T.len PySem.boot_len (pa_cons (pv 5) pa_nil)) pa_nil)) (blkOk_by (N := ["_law_cell", "_law_there", "_law_many", "_law_some", "_law_k", "_law_names"]) (sc := defScope srowsBy) (by decide +kernel)) (fun _ _ _ _ _ => pg_name (i := 4) scrowsBy.nd rfl (Or.inl rfl)) (fun _ _ _ _ _ => pts_nil) (fun _ _ _ _ _ => (pe_tup (pa_cons (pe_ix (ixL (K := K) rfl) (pv 5) (pv 4) (fun _ _ => rfl)) (pa_cons (pe_ix (ixL (K := K) rfl) (pv 1) (pe_op op_mod (pe_op op_add (pe_op op_fdiv (pv 0) pe_int) (pe_op op_mul pe_int (pv 4))) (pe_callB (cLenQ (K := K) rfl) (by rfl) T.len PySem.boot_len (pa_cons (pv 1) pa_nil))) (fun _ _ => rfl)) pa_nil))))))))))), ?_⟩
    repeat walk_at "sx"
    refine st_I (by show (0 : Int) < 6; decide) ?_
    repeat walk_at "sx"
    refine st_cut (fun σ' H' => ∃ m : Nat, σ' = [some (.int n), some (.ref l), some (.int (m : Int)), none, none, none] ∧ H' = H ∧ m ≤ 40) ?_ ?_
    · repeat walk_at "sx"
      refine st_I ⟨by decide, by decide⟩ ?_
      repeat walk_at "sx"
      refine st_I (by show (0 : Int) < 8; decide) ?_
      repeat walk_at "sx"
      refine ite3 (fun h => ?_) (fun h => ?_)
      · repeat walk_at "sx"
        refine st_I ⟨by decide, by decide⟩ ?_
        repeat walk_at "sx"
        refine st_I (by show (0 : Int) < 41; decide) ?_
        repeat walk_at "sx"
        obtain ⟨m, em, hm⟩ := nat_emod (n / 48) 41 41 rfl (by decide)
        exact ⟨m, by rw [← em] <;> rfl, rfl, by omega⟩
      · repeat walk_at "sx"
        obtain ⟨m, em, hm⟩ := nat_emod n 6 6 rfl (by decide)
        exact ⟨m, by rw [← em] <;> rfl, rfl, by omega⟩
    · rintro σ' H' ⟨m, rfl, rfl, hm⟩
      repeat walk_at "sx"
      refine st_exR (by omega) (by omega) ?_
      rw [Int.toNat_natCast]
      refine lc_r (fun i => .str (chN n i)) ?_ ?_ (by omega)
      · intro i H2 hi g Qy q
        repeat walk_at "sx"
        refine st_I ⟨by decide, by decide⟩ ?_
        repeat walk_at "sx"
        refine st_I (.inl ⟨by decide, by decide⟩) ?_
        repeat walk_at "sx"
        refine st_I (by show (0 : Int) < 13; decide) ?_
        refine st_ixS (by decide +kernel) (at_get (n := 13) (by decide +kernel) (by omega) (by omega)) ?_
        repeat walk_at "sx"
        refine st_I (by show (0 : Int) < 4; decide) ?_
        refine st_ixS (by decide +kernel) (at_get (n := 4) (by decide +kernel) (by omega) (by omega)) ?_
        repeat walk_at "sx"
        refine st_I ⟨by decide, by decide⟩ ?_
        rw [show (i : Int) / 13 = ((i / 13 : Nat) : Int) by omega]
        refine st_mulS (by rw [len_tl]; exact Nat.le_refl 1) (by rw [len_tl]; show 1 ≤ 16; decide) (by omega) ?_
        refine st_addS (by rw [repS_len, len_tl, len_tl, sizeLine_eq]; show 1 + i / 13 * 1 ≤ 16777216; omega) ?_
        exact q _ (Gr.refl _)
      · intro D H2 hD g e
        repeat walk_at "sx"
        refine ⟨D, (List.range m).map (chN n), rfl, .of (by rw [e, List.map_map] <;> rfl), by rw [List.length_map, List.length_range]; omega, fun a ha => ?_⟩
        generalize hH3 : upd H2 a _ = H3
        have g3 : Gr H2 H3 := gr_of ha hH3
        have e3 := at_of hH3
        repeat walk_at "sx"
        refine ⟨a, _, _, rfl, e3, by rw [List.length_map, List.length_range]; omega, fun ns p hs hd hmem hlen hp => ?_⟩
        rw [List.length_map, List.length_range] at hlen
        generalize hH4 : upd H3 p _ = H4
        have g4 : Gr H3 H4 := gr_of hp hH4
        have e4 := at_of hH4
        have g24 := g3.trans g4
        repeat walk_at "sx"
        refine st_lenL (.of e4) ?_
        rw [List.length_map]
        repeat walk_at "sx"
        refine st_exR (by omega) (by omega) ?_
        rw [Int.toNat_natCast]
        have hz1 : 0 < zs.length := List.length_pos_iff.mpr hne
        refine lc_acc (n := ns.length) (Y := fun i x => x = .int (0 + (i : Int))) walk_range (fun _ _ => True.intro) (fun i acc H' => Prs K H' acc ((rwN n zs ns).take i)) (fun H2 _ => .nil) (fun i acc H H' g h => h.gr g) (fun i acc H D xs zs e _ h => h.mut e) ?_ (fun D acc H5 hD g5 e5 _ h => ?_) (by omega) (fun _ => rfl)
        · intro i x acc H5 hi y g5 a5 Qy Qn q1 q2
          rw [y, Int.zero_add]
          repeat walk_at "sx"
          refine st_ixL (xs := ns.map V.str) (v := .str (ns.getD i "")) (.of (g5.lst e4)) (atI_nat (by rw [List.getElem?_map, List.getD_eq_getElem?_getD, List.getElem?_eq_getElem hi] <;> rfl)) ?_
          have hl5 := g5.l (g24.l (g.l hl))
          repeat walk_at "sx"
          refine st_I ⟨by decide, by decide⟩ ?_
          repeat walk_at "sx"
          refine st_I (.inl ⟨by decide, by decide⟩) ?_
          repeat walk_at "sx"
          refine st_lenL hl5 ?_
          rw [List.length_map]
          repeat walk_at "sx"
          refine st_I (by show (0 : Int) < (zs.length : Int); omega) ?_
          have b1 := Int.emod_nonneg (n / 11 + 3 * (i : Int)) (show (zs.length : Int) ≠ 0 by omega)
          have b2 := Int.emod_lt_of_pos (n / 11 + 3 * (i : Int)) (show (0 : Int) < (zs.length : Int) by omega)
          refine st_ixL (v := .int (zs.getD ((n / 11 + 3 * (i : Int)) % zs.length).toNat 0)) hl5 ?_ ?_
          · obtain ⟨j, ej⟩ := Int.eq_ofNat_of_zero_le b1
            rw [ej] at b2 ⊢
            refine atI_nat ?_
            rw [Int.toNat_natCast, List.getElem?_map, List.getD_eq_getElem?_getD, List.getElem?_eq_getElem (by omega)] <;> rfl
          repeat walk_at "sx"
          refine ⟨by show 2 ≤ sizeLine; decide, ?_⟩
          walk_at "new"; rename_i t ht H6 g6 e6
          refine q1 _ H6 g6 ?_
          rw [List.take_succ_eq_append_getElem (by unfold rwN; rw [List.length_map, List.length_range]; exact hi)]
          refine (a5.gr g6).app (.cons ?_ .nil)
          refine .of ?_
          rw [e6]
          unfold rwN
          simp only [List.get_eq_getElem, List.getElem_map, List.getElem_range]
        · have el : (rwN n zs ns).length = ns.length := by unfold rwN; rw [List.length_map, List.length_range]
          rw [← el, List.take_length] at h
          have gAll := ((g.trans g24).trans g5)
          refine k D acc (rwN n zs ns) H5 ((g.trans g24).free hD) gAll e5 h (fun r hr => ?_) (by omega) (fun r hr => ?_)
          · obtain ⟨i, hi, rfl⟩ := List.mem_map.mp hr
            have hi := List.mem_range.mp hi
            have : ns.getD i "" ∈ ns := by rw [List.getD_eq_getElem?_getD, List.getElem?_eq_getElem hi]; exact List.getElem_mem hi
            obtain ⟨j, _, ej⟩ := List.mem_map.mp ((hmem _).mp this)
            show lowS (ns.getD i "") = true
            rw [← ej]
            exact chN_low n j
          · obtain ⟨i, hi, rfl⟩ := List.mem_map.mp hr
            have b1 := Int.emod_nonneg (n / 11 + 3 * (i : Int)) (show (zs.length : Int) ≠ 0 by omega)
            have b2 := Int.emod_lt_of_pos (n / 11 + 3 * (i : Int)) (show (0 : Int) < (zs.length : Int) by omega)
            show zs.getD ((n / 11 + 3 * (i : Int)) % zs.length).toNat 0 ∈ zs
            rw [List.getD_eq_getElem?_getD, List.getElem?_eq_getElem (by omega)]
            exact List.getElem_mem _
theorem scasDue : FnScope ["_law_pile", "_law_inside", "_law_counts", "_law_made", "_law_kept", "_law_box"] ["_law_pile", "_law_inside", "_law_counts", "_law_made"] (defScope sasDue) := ⟨rfl, rfl, rfl, by decide +kernel, rfl, by decide +kernel, by decide +kernel⟩
theorem ok_asDue {f Pt : Addr} {fd : FuncData} (F : Fun K "_law_as_due" "_law_as_due" sasDue f fd) (T : Txt K mg C_Pile E_NoBox) (C : CE P w K mg base C_Pile E_NoBox Pt) : FnOk P w K mg base (L2.CX P w) 4 f fd ["_law_pile", "_law_inside", "_law_counts", "_law_made"] (spAsDue K C_Pile) := by
  refine F.okX scasDue (fun vs H Q E h => ?_) (fun cdv A' outer s H vs Q E hr h => ?_)
  · obtain ⟨A, i, c, S, rfl, _⟩ := h
    rfl
  · obtain ⟨A, i, c, S, rfl, pl, ld, k⟩ := h
    have hu := hu_of hr
    refine ⟨_, (pss_cons (ps_set (i := 4) scasDue.nd rfl (Or.inl rfl) (pe_mm0 (pv 0) T.cl_Pile C.plKept (hr.mono (by decide)) ))
  (pss_cons (ps_if (PW.pt (pw_or (pt_not (pt_val (pe_callB (cIsi (K := K) rfl) (by rfl) T.isinstance boot_isinstance (pa_cons (pv 4) (pa_cons (pe_bltn (by rfl) T.list PyProof.Rows.boot_list (v := .ty "list") rfl) pa_nil))))) (pw_or (pt_cmpR (oNeD (K := K) rfl hr.units) (pv 4) (pe_callB (cr_sortedDIA rfl) (by rfl) T.sorted boot_sorted (pa_cons (pv 1) pa_nil)) (nomark _)) (pw_or1 (pt_not (pt_val (pe_d0 C.count (hr.mono (by decide)) rfl (pa_cons (pe_fld (pv 0) rfl) (pa_cons (pv 3) pa_nil)))))))))
  (pss_one (ps_ret pe_bl))
  pss_nil)
  (pss_one (ps_ret (pe_callB (cAll (K := K) rfl rfl) (by rfl) T.all boot_all (pa_cons (pe_lc (own := [("_law_box", 5)]) (g := gName 5) (tt := tYes) rfl scasDue.nd (pi_list (pv 4)) (blkOk_by (N := ["_law_pile", "_law_inside", "_law_counts", "_law_made", "_law_kept", "_law_box"]) (sc := defScope sasDue) (by decide +kernel)) (fun _ _ _ _ _ => pg_name (i := 5) scasDue.nd rfl (Or.inl rfl)) (fun _ _ _ _ _ => pts_nil) (fun _ _ _ _ _ => (pe_and (pe_d0 C.whole (hr.mono (by decide)) rfl (pa_cons (pv 5) pa_nil)) (pe_one (pe_d0 C.count (hr.mono (by decide)) rfl (pa_cons (pe_mm (pv 0) T.cl_Pile C.plHolders (hr.mono (by decide)) (pa_cons (pv 5) pa_nil)) (pa_cons (pe_dget hu (pv 2) (pv 5) (fun _ _ => rfl)) pa_nil))))))) pa_nil)))))), ?_⟩
    repeat walk_at "sx"
    refine pl.fm (by decide +kernel) (by decide +kernel) (by decide +kernel) (by decide +kernel) ?_
    repeat walk_at "sx"
    refine ⟨A, S, rfl, pl, fun q zs H1 _ g1 eq hz1 hz2 => ?_⟩
    obtain ⟨kI, kC, c1, c2, d⟩ := (ld.gr g1).d
    obtain ⟨ks, hk, hn⟩ := d.ks
    have hlk : ks.length ≤ 3000 := by
      have e := congrArg List.length hk
      rw [List.length_map, List.length_map] at e
      have := d.lI
      have := d.ok.big
      omega
    repeat walk_at "sx"
    refine st_isi (tyL (.of eq)) (b := true) (by decide +kernel) ?_
    repeat walk_at "sx"
    refine ⟨i, kI, ks, rfl, .inl c1, hk, by omega, fun ys p hp hs hpn => ?_⟩
    generalize hH2 : upd H1 p _ = H2
    have g2 : Gr H1 H2 := gr_of hpn hH2
    have e2 := at_of hH2
    have ey : ys = zs := ints_ext (lt_of_perm hp hn hs) hz1 fun z => by
      rw [hp.mem_iff, mem_keys hk z, hz2]
      have := d.vI z
      cases e : S.box z with
      | none => rw [e] at this; rw [this] <;> exact Iff.rfl
      | some x =>
        rw [e] at this
        obtain ⟨t, e3, _⟩ := this
        rw [e3]
        exact ⟨fun _ => rfl, fun _ => rfl⟩
    repeat walk_at "sx"
    refine st_neI (.of (g2.lst eq)) (.of e2) ?_
    rw [decide_eq_true ey.symm]
    repeat walk_at "sx"
    have pl2 := (pl.gr g1).gr g2
    have ld2 := (ld.gr g1).gr g2
    refine lf_fld pl2.ins T.cl_Pile T.n_Pile_made (pfs_lk A _).1 ?_
    repeat walk_at "sx"
    refine ⟨_, _, rfl, ?_⟩
    rw [decide_eq_true rfl]
    repeat walk_at "sx"
    have hlz : zs.length ≤ 3000 := by rw [← ey, hp.length_eq]; exact hlk
    refine st_exL (.of (g2.lst eq)) ?_
    refine lc_l (fun _ => .bl true) (.of (g2.lst eq)) (fun j x H3 hx g3 Qy q => ?_) (fun D H3 hD g3 e3 => ?_) (by rw [List.length_map]; omega)
    · rw [List.getElem?_map] at hx
      obtain ⟨z, ez, rfl⟩ := Option.map_eq_some_iff.mp hx
      have hz := (hz2 z).mp (List.mem_of_getElem? ez)
      obtain ⟨x, ex⟩ := Option.isSome_iff_exists.mp hz
      obtain ⟨b, cc⟩ := x
      repeat walk_at "sx"
      refine ⟨_, rfl, ?_⟩
      repeat walk_at "sx"
      have pl3 := pl2.gr g3
      refine pl3.fm (by decide +kernel) (by decide +kernel) (by decide +kernel) (by decide +kernel) ?_
      repeat walk_at "sx"
      refine ⟨A, S, _, rfl, pl3, .inl ⟨z, rfl, fun b' c' e' => ?_, fun e' => by rw [ex] at e'; cases e'⟩⟩
      rw [ex] at e'
      cases e'
      repeat walk_at "sx"
      walk_at "dx"
      repeat walk_at "sx"
      refine lf_dget (k := .inl z) (g3.dK (g2.dK c2)) (by rw [d.vC, ex] <;> rfl) ?_
      repeat walk_at "sx"
      refine ⟨_, _, rfl, ?_⟩
      rw [decide_eq_true rfl]
      exact q _ (Gr.refl _)
    · repeat walk_at "sx"
      refine st_all (bs := zs.map fun _ => true) (SqL.of (by rw [e3, List.map_map, List.map_map] <;> rfl)) ?_
      rw [show (zs.map fun _ => true).all id = true by rw [List.all_eq_true]; intro b hb; obtain ⟨_, _, rfl⟩ := List.mem_map.mp hb; rfl]
      exact k _ ((g1.trans g2).trans g3)
end
/-! ### a method that may raise, asked in a try -/
def tMethW (C : Addr) (m : Str) (sp : Sp) (E : L2.St → XK) (ta : TE) (t : TA) : TE := fun σ H Q => ta σ H fun x H1 => ∃ a dx fs, x = .ref a ∧ H1 a = some (.ins C dx fs) ∧ fs.lookup m = none ∧ t σ H1 fun vs H2 => sp (x :: vs) H2 Q (E σ)
section
variable {X : Cx} {k : Nat} {ps : List Str} {C : Addr} {sp : Sp} {m : Str} {pos apos : Pos} {e o : Expr} {es : List Expr} {t : TA} {ta : TE} {pl : Sem Bool}
theorem pe_mmS {E : L2.St → XK} (ho : PE X o ta) (cl : Cls X.K C) (c : Mf X.prog X.w X.K X.mg X.base k C m ps sp) (hr : Room k X.A) (hx : ∀ σ, PassesAt (L2.CX X.prog X.w) X σ (E σ)) (ha : L2.PA X (e :: es) t)
    (hst : starEach (e :: es) X.env = (false, eval e X.env) :: starEach es X.env := by rfl) (hpl : (backTo pos (starEach es X.env)).any (·.1) = false := by rfl)
    (ht : eval (.Call (.Attribute o m apos) (e :: es) [] pos) X.env = (do
      let ov ← eval o X.env
      standAt apos.atName
      let (f, first) ← holding [ov] (getMethod ov m pl)
      callWith pos f first (backTo pos (starEach (e :: es) X.env)) (backToKw pos (keywordEach [] X.env))) := by rfl) : PE X (.Call (.Attribute o m apos) (e :: es) [] pos) (tMethW C m sp E ta t) := by
  obtain ⟨f, fd, F, hm, b⟩ := c.ex
  refine ⟨fun pins s σ H Q I h => ?_⟩
  refine PySem.W.methodCall_KW (pl := pl) (thn (ho.run pins s σ H _ I h) fun u s1 ⟨x, H1, I1, rx, a, dx, fs, ex, ea, l, q⟩ => ?_) ht
  subst ex
  obtain rfl : u = Value.ref a := rx
  refine getmeth_ok I1 ea cl hm l (PySem.W.callWith_K (first := [.ref a]) (h₀ := X.base) I.ok.mod.kin hm.kp (thn (ha.run pos pins s1 σ H1 _ I1 q) fun us s2 ⟨vs, H2, I2, r, q2⟩ => ⟨I2.kIn, ?_⟩) hst hpl)
  exact run_fnS (us := .ref a :: us) (vs := .ref a :: vs) F hr b (hx σ) I2 (.cons rfl r) q2
theorem st_methW {E : L2.St → XK} {σ : L2.St} {H : Hp} {Q : VK} (h : ta σ H fun x H1 => ∃ a dx fs, x = .ref a ∧ H1 a = some (.ins C dx fs) ∧ fs.lookup m = none ∧ t σ H1 fun vs H2 => sp (x :: vs) H2 Q (E σ)) : tMethW C m sp E ta t σ H Q := h
end
def spRefusedL (K : PySem.W.Frag) (C Pt : Addr) : Sp := fun vs H Q _ => ∃ (A : PA) (S : PS) (z g n : Int), vs = [.ref A.p, .int z, .int g, .int n] ∧ PileAt K C H A S ∧ S.made ≤ 2900 ∧ S.box z = none ∧ There S (.int g) ∧ GxR.TabG H Pt ∧ ∀ H', Gr H H' → Q (.bl true) H'
section
variable {P : Program} {w : World} {K : PySem.W.Frag} {mg : Str → Option Value} {base : Heap} {C_Pile E_NoBox : Addr}
theorem screfusedL : FnScope ["_law_pile", "_law_box", "_law_good", "_law_cell"] ["_law_pile", "_law_box", "_law_good", "_law_cell"] (defScope srefusedL) := ⟨rfl, rfl, rfl, by decide +kernel, rfl, by decide +kernel, by decide +kernel⟩
theorem ok_refusedL {f Pt : Addr} {fd : FuncData} (F : Fun K "_law_refused" "_law_refused" srefusedL f fd) (T : Txt K mg C_Pile E_NoBox) (C : CP3 P w K mg base C_Pile E_NoBox Pt) : FnOk P w K mg base (L2.CX P w) 4 f fd ["_law_pile", "_law_box", "_law_good", "_law_cell"] (spRefusedL K C_Pile Pt) := by
  refine F.okX screfusedL (fun vs H Q E h => ?_) (fun cdv A' outer s H vs Q E hr h => ?_)
  · obtain ⟨A, S, z, g, n, rfl, _⟩ := h
    rfl
  · obtain ⟨A, S, z, g, n, rfl, pl, hm, hz, hg, tab, k⟩ := h
    refine ⟨_, (pss_cons (ps_try_only rfl rfl ⟨rfl, by decide, .inl T.mg_NoBox⟩ takes0 (fun W pn xe tk _ => (pss_one (ps_if (pt_cmpR op_eq (pe_op op_mod (pv 3) pe_int) pe_int (nomark _))
  (pss_one (ps_expr (pe_mmS (pv 0) T.cl_Pile C.plContent (hr.mono (by decide)) (fun σ => passAt tk σ) (pa_cons (pv 1) pa_nil))))
  (pss_one (ps_if (pt_cmpR op_eq (pe_op op_mod (pv 3) pe_int) pe_int (nomark _))
  (pss_one (ps_expr (pe_mmS (pv 0) T.cl_Pile C.plLetGo (hr.mono (by decide)) (fun σ => passAt tk σ) (pa_cons (pv 1) pa_nil))))
  (pss_one (ps_if (pt_cmpR op_eq (pe_op op_mod (pv 3) pe_int) pe_int (nomark _))
  (pss_one (ps_expr (pe_mmS (pv 0) T.cl_Pile C.plHold (hr.mono (by decide)) (fun σ => passAt tk σ) (pa_cons (pv 1) pa_nil))))
  (pss_one (ps_if (pt_cmpR op_eq (pe_op op_mod (pv 3) pe_int) pe_int (nomark _))
  (pss_one (ps_expr (pe_mmS (pv 0) T.cl_Pile C.plHolders (hr.mono (by decide)) (fun σ => passAt tk σ) (pa_cons (pv 1) pa_nil))))
  (pss_one (ps_expr (pe_mmS (pv 0) T.cl_Pile C.plBranch (hr.mono (by decide)) (fun σ => passAt tk σ) (pa_cons (pe_lst (pa_cons (pe_tup (pa_cons pe_str (pa_cons (pv 2) pa_nil))) (pa_cons (pe_tup (pa_cons pe_str (pa_cons (pv 1) pa_nil))) (pa_cons (pe_tup (pa_cons pe_str (pa_cons (pv 2) pa_nil))) pa_nil)))) pa_nil)))))))))))))
  (fun a oe cls d pn hz hf => (pss_one (ps_ret pe_bl))))
  (pss_one (ps_ret pe_bl))), ?_⟩
    obtain ⟨j, ej, hj⟩ := nat_emod n 6 6 rfl (by decide)
    have step : ∀ (i : Nat), decide (V.int ((j : Nat) : Int) = V.int (i : Int)) = decide (j = i) := fun i => decide_eq_decide.mpr ⟨fun q => by have := V.int.inj q; omega, fun q => by rw [q]⟩
    have wish : ∀ H', Gr H H' → WE (wOnly K (.ref E_NoBox) (fun a cls d => tRet (tC (V.bl true))) (fun x x_1 x_2 x_3 => False) { nx := tRet (tC (V.bl false)) { nx := fun x H' => Q V.non H', rt := Q }, rt := Q })
      [some (.ref A.p), some (.int z), some (.int g), some (.int n)] (.ref E_NoBox) none H' := fun H' g' => ⟨true, T.e_NoBox, fun _ a na => k H' g', fun q => nomatch q⟩
    have none1 : ∀ {P : Bx → Nat → Prop}, ∀ b c, S.box z = some (b, c) → P b c := fun b c e => by rw [hz] at e; cases e
    repeat walk_at "sx"
    refine st_I (by show (0 : Int) < 6; decide) ?_
    rw [ej]
    repeat walk_at "sx"
    rw [show (0 : Int) = ((0 : Nat) : Int) from rfl, step 0]
    refine ite3 (fun h => ?_) (fun h => ?_)
    · repeat walk_at "sx"
      refine st_methW ?_
      repeat walk_at "sx"
      refine pl.fm (by decide +kernel) (by decide +kernel) (by decide +kernel) (by decide +kernel) ?_
      repeat walk_at "sx"
      exact ⟨A, S, .int z, rfl, pl, .inl ⟨z, rfl, none1, fun _ => wish _ (Gr.refl _)⟩⟩
    repeat walk_at "sx"
    refine st_I (by show (0 : Int) < 6; decide) ?_
    rw [ej]
    repeat walk_at "sx"
    rw [show (1 : Int) = ((1 : Nat) : Int) from rfl, step 1]
    refine ite3 (fun h => ?_) (fun h => ?_)
    · repeat walk_at "sx"
      refine st_methW ?_
      repeat walk_at "sx"
      refine pl.fm (by decide +kernel) (by decide +kernel) (by decide +kernel) (by decide +kernel) ?_
      repeat walk_at "sx"
      exact ⟨A, S, .int z, rfl, pl, .inl ⟨z, rfl, none1, fun _ => wish _ (Gr.refl _)⟩⟩
    repeat walk_at "sx"
    refine st_I (by show (0 : Int) < 6; decide) ?_
    rw [ej]
    repeat walk_at "sx"
    rw [show (2 : Int) = ((2 : Nat) : Int) from rfl, step 2]
    refine ite3 (fun h => ?_) (fun h => ?_)
    · repeat walk_at "sx"
      refine st_methW ?_
      repeat walk_at "sx"
      refine pl.fm (by decide +kernel) (by decide +kernel) (by decide +kernel) (by decide +kernel) ?_
      repeat walk_at "sx"
      exact ⟨A, S, .int z, rfl, pl, .inl ⟨z, rfl, none1, fun _ => wish _ (Gr.refl _)⟩⟩
    repeat walk_at "sx"
    refine st_I (by show (0 : Int) < 6; decide) ?_
    rw [ej]
    repeat walk_at "sx"
    rw [show (3 : Int) = ((3 : Nat) : Int) from rfl, step 3]
    refine ite3 (fun h => ?_) (fun h => ?_)
    · repeat walk_at "sx"
      refine st_methW ?_
      repeat walk_at "sx"
      refine pl.fm (by decide +kernel) (by decide +kernel) (by decide +kernel) (by decide +kernel) ?_
      repeat walk_at "sx"
      exact ⟨A, S, .int z, rfl, pl, .inl ⟨z, rfl, none1, fun _ => wish _ (Gr.refl _)⟩⟩
    repeat walk_at "sx"
    refine st_methW ?_
    repeat walk_at "sx"
    refine pl.fm (by decide +kernel) (by decide +kernel) (by decide +kernel) (by decide +kernel) ?_
    repeat walk_at "sx"
    refine ⟨by show 2 ≤ sizeLine; decide, ?_⟩
    walk_at "new"; rename_i t1 ht1 H1 g1 e1
    repeat walk_at "sx"
    refine ⟨by show 2 ≤ sizeLine; decide, ?_⟩
    walk_at "new"; rename_i t2 ht2 H2 g2 e2
    repeat walk_at "sx"
    refine ⟨by show 2 ≤ sizeLine; decide, ?_⟩
    walk_at "new"; rename_i t3 ht3 H3 g3 e3
    repeat walk_at "sx"
    refine ⟨by show 3 ≤ sizeLine; decide, ?_⟩
    walk_at "new"; rename_i l hln H4 g4 e4
    repeat walk_at "sx"
    have g14 := ((g1.trans g2).trans g3).trans g4
    refine ⟨A, S, l, [.ref t1, .ref t2, .ref t3], [(.str "a", .int g), (.str "b", .int z), (.str "c", .int g)], rfl, pl.gr g14, .of e4, .cons (.of (g4.tup (g3.tup (g2.tup e1)))) (.cons (.of (g4.tup (g3.tup e2))) (.cons (.of (g4.tup e3)) .nil)), by show 3 ≤ 5000; decide, hm, g14.tab _ tab,
      .inr ⟨⟨(.str "b", .int z), by simp, .inl ⟨z, rfl, hz⟩⟩, fun p hp => ?_, fun H' g' => wish H' (g14.trans g')⟩⟩
    simp only [List.mem_cons, List.not_mem_nil, or_false] at hp
    rcases hp with rfl | rfl | rfl
    · exact .inl hg
    · exact .inr (.inl ⟨z, rfl, hz⟩)
    · exact .inl hg
end
def Apart (A : PA) (i c : Addr) : Prop := ¬ A.foot i ∧ ¬ A.foot c
def spStepL (K : PySem.W.Frag) (C Pt : Addr) : Sp := fun vs H Q _ => ∃ (A : PA) (i c : Addr) (S : PS) (n : Int), vs = [.ref A.p, .ref i, .ref c, .int (S.made : Int), .int n] ∧ PileAt K C H A S ∧ LD K H i c S ∧ Apart A i c ∧ S.made ≤ 2000 ∧ GxR.TabG H Pt ∧
  ∀ S' H', Gx (F3 A i c) H H' → PileAt K C H' A S' → LD K H' i c S' → (S'.made = S.made ∨ (S'.made = S.made + 1 ∧ (S'.box ((S.made : Int) + 1)).isSome = true)) → Q (.bl true) H'
structure CS (P : Program) (w : World) (K : PySem.W.Frag) (mg : Str → Option Value) (base : Heap) (C B Pt : Addr) : Prop extends CE P w K mg base C B Pt where
  rowsBy : Df P w K mg base 1 "_law_rows_by" ["_law_cell", "_law_there"] (spRowsBy K)
  alike : Df P w K mg base 3 "_law_alike" ["_law_seen", "_law_due"] (spAlike K)
  goneL : Df P w K mg base 1 "_law_gone" ["_law_inside", "_law_counts", "_law_box"] (spGone K)
  refusedL : Df P w K mg base 4 "_law_refused" ["_law_pile", "_law_box", "_law_good", "_law_cell"] (spRefusedL K C Pt)
theorem st_iR2 {ta : TA} {σ : L2.St} {H : Hp} {R : It → Hp → Prop} (h : ta σ H fun vs H1 => ∃ i j : Int, vs = [.int i, .int j] ∧ (-(2 ^ 62) ≤ i ∧ i < 2 ^ 62 ∧ -(2 ^ 62) ≤ j ∧ j < 2 ^ 62) ∧ R (Itr i (j - i).toNat) H1) : iRng2 ta σ H R := h
theorem LDk.mem {K : PySem.W.Frag} {H : Hp} {S : PS} {kI kC : List (Key × V)} (d : LDk K H S kI kC) {ks : List Int} (hk : kI.map (·.1) = ks.map Sum.inl) (z : Int) : z ∈ ks ↔ (S.box z).isSome = true := by
  rw [mem_keys hk z]
  have := d.vI z
  cases e : S.box z with
  | none => rw [e] at this; rw [this] <;> exact Iff.rfl
  | some x =>
    rw [e] at this
    obtain ⟨t, e3, _⟩ := this
    rw [e3]
    exact ⟨fun _ => rfl, fun _ => rfl⟩
section
variable {P : Program} {w : World} {K : PySem.W.Frag} {mg : Str → Option Value} {base : Heap} {C_Pile E_NoBox : Addr}
theorem scstepL : FnScope ["_law_pile", "_law_inside", "_law_counts", "_law_made", "_law_cell", "_law_there", "_law_way", "_law_some", "_law_number", "_law_rows", "_law_handed", "_law_seen", "_law_pair", "_law_box", "_law_missing"] ["_law_pile", "_law_inside", "_law_counts", "_law_made", "_law_cell"] (defScope sstepL) := ⟨rfl, rfl, rfl, by decide +kernel, rfl, by decide +kernel, by decide +kernel⟩
set_option maxHeartbeats 20000000 in
theorem ok_stepL {f Pt : Addr} {fd : FuncData} (F : Fun K "_law_step" "_law_step" sstepL f fd) (T : Txt K mg C_Pile E_NoBox) (C : CS P w K mg base C_Pile E_NoBox Pt) : FnOk P w K mg base (L2.CX P w) 5 f fd ["_law_pile", "_law_inside", "_law_counts", "_law_made", "_law_cell"] (spStepL K C_Pile Pt) := by
  refine F.okX scstepL (fun vs H Q E h => ?_) (fun cdv A' outer s H vs Q E hr h => ?_)
  · obtain ⟨A, i, c, S, n, rfl, _⟩ := h
    rfl
  · obtain ⟨A, i, c, S, n, rfl, pl, ld, ap, hm, tab, k⟩ := h
    have hu := hu_of hr
    obtain ⟨kI, kC, c1, c2, d⟩ := ld.d
    have nic := ld.ne
    obtain ⟨ks, hk, hn⟩ := d.ks
    have hdis : ∀ b, A.foot b → ¬ F2 i c b := fun b h z => by
      rcases z with rfl | rfl
      · exact ap.1 h
      · exact ap.2 h
    have hlk : ks.length ≤ 2000 := by
      have e := congrArg List.length hk
      rw [List.length_map, List.length_map] at e
      have := d.lI
      omega
    refine ⟨_, (pss_cons (ps_set (i := 5) scstepL.nd rfl (Or.inl rfl) (pe_callB (cr_sortedDIA rfl) (by rfl) T.sorted boot_sorted (pa_cons (pv 1) pa_nil)))
  (pss_cons (ps_set (i := 6) scstepL.nd rfl (Or.inl rfl) (pe_op op_mod (pv 4) pe_int))
  (pss_cons (ps_set (i := 7) scstepL.nd rfl (Or.inl rfl) (pe_op op_fdiv (pv 4) pe_int))
  (pss_cons (ps_if (PW.pt (pw_or (pt_cmpR op_eq (pv 6) pe_int (nomark _)) (pw_or1 (pt_cmpR (oEqD (K := K) rfl hr.units) (pv 5) (pe_lst pa_nil) (nomark _)))))
  (pss_cons (ps_set (i := 8) scstepL.nd rfl (Or.inl rfl) (pe_op op_add (pe_op op_sub (pe_op op_mod (pv 7) (pe_op op_sub (pe_op op_mul pe_int (pe_op op_pow pe_int pe_int)) pe_int)) (pe_op op_pow pe_int pe_int)) pe_int))
  (pss_cons (ps_dput hu (pv 1) (pe_op op_add (pv 3) pe_int) (pe_tup (pa_cons pe_str (pa_cons (pv 8) pa_nil))) rfl)
  (pss_cons (ps_dput hu (pv 2) (pe_op op_add (pv 3) pe_int) pe_int rfl)
  (pss_one (ps_ret (pe_d0 C.count (hr.mono (by decide)) rfl (pa_cons (pe_mm (pv 0) T.cl_Pile C.plLeaf (hr.mono (by decide)) (pa_cons (pv 8) pa_nil)) (pa_cons (pe_op op_add (pv 3) pe_int) pa_nil))))))))
  pss_nil)
  (pss_cons (ps_if (pt_cmpR op_lt (pv 6) pe_int (nomark _))
  (pss_cons (ps_set (i := 9) scstepL.nd rfl (Or.inl rfl) (pe_d0 C.rowsBy (hr.mono (by decide)) rfl (pa_cons (pv 7) (pa_cons (pv 5) pa_nil))))
  (pss_cons (ps_set (i := 10) scstepL.nd rfl (Or.inl rfl) (pe_callTy (cListOf (K := K) rfl) (by rfl) T.list PyProof.Rows.boot_list (pa_cons (pv 9) pa_nil)))
  (pss_cons (ps_set (i := 11) scstepL.nd rfl (Or.inl rfl) (pe_mm (pv 0) T.cl_Pile C.plBranch (hr.mono (by decide)) (pa_cons (pv 10) pa_nil)))
  (pss_cons (ps_if (pt_cmpR (oNeD (K := K) rfl hr.units) (pv 10) (pv 9) (nomark _))
  (pss_one (ps_ret pe_bl))
  pss_nil)
  (pss_cons (ps_expr (pe_bm PySem.F.plainAttrs_list PySem.F.slot_list_append PySem.F.type_list_append mt_append (pv 10) (pa_cons (pe_tup (pa_cons pe_str (pa_cons (pe_ix (ixL (K := K) rfl) (pv 5) pe_int (fun _ _ => rfl)) pa_nil))) pa_nil)))
  (pss_cons (ps_for (passes_of rfl) rfl (pi_list (pv 9)) (pg_name (i := 12) scstepL.nd rfl (Or.inl rfl))
  (pss_one (ps_dput hu (pv 2) (pe_ix (ixT (K := K) rfl) (pv 12) pe_int (fun _ _ => rfl)) (pe_op op_add (pe_dget hu (pv 2) (pe_ix (ixT (K := K) rfl) (pv 12) pe_int (fun _ _ => rfl)) (fun _ _ => rfl)) pe_int) rfl)))
  (pss_cons (ps_dput hu (pv 1) (pe_op op_add (pv 3) pe_int) (pe_tup (pa_cons pe_str (pa_cons (pv 9) pa_nil))) rfl)
  (pss_cons (ps_dput hu (pv 2) (pe_op op_add (pv 3) pe_int) pe_int rfl)
  (pss_one (ps_ret (pe_d0 C.count (hr.mono (by decide)) rfl (pa_cons (pv 11) (pa_cons (pe_op op_add (pv 3) pe_int) pa_nil)))))))))))))
  pss_nil)
  (pss_cons (ps_set (i := 13) scstepL.nd rfl (Or.inl rfl) (pe_ix (ixL (K := K) rfl) (pv 5) (pe_op op_mod (pv 7) (pe_callB (cLenQ (K := K) rfl) (by rfl) T.len PySem.boot_len (pa_cons (pv 5) pa_nil))) (fun _ _ => rfl)))
  (pss_cons (ps_if (pt_cmpR op_eq (pv 6) pe_int (nomark _))
  (pss_cons (ps_dput hu (pv 2) (pv 13) (pe_op op_add (pe_dget hu (pv 2) (pv 13) (fun _ _ => rfl)) pe_int) rfl)
  (pss_one (ps_ret (pe_and (pe_cmpR oIsNo (pe_mm (pv 0) T.cl_Pile C.plHold (hr.mono (by decide)) (pa_cons (pv 13) pa_nil)) pe_non (nomark _)) (pe_one (pe_d0 C.alike (hr.mono (by decide)) rfl (pa_cons (pe_mm (pv 0) T.cl_Pile C.plContent (hr.mono (by decide)) (pa_cons (pv 13) pa_nil)) (pa_cons (pe_dget hu (pv 1) (pv 13) (fun _ _ => rfl)) pa_nil))))))))
  pss_nil)
  (pss_cons (ps_if (pt_cmpR op_eq (pv 6) pe_int (nomark _))
  (pss_one (ps_ret (pe_d0 C.count (hr.mono (by decide)) rfl (pa_cons (pe_mm (pv 0) T.cl_Pile C.plLetGo (hr.mono (by decide)) (pa_cons (pv 13) pa_nil)) (pa_cons (pe_d0 C.goneL (hr.mono (by decide)) rfl (pa_cons (pv 1) (pa_cons (pv 2) (pa_cons (pv 13) pa_nil)))) pa_nil)))))
  pss_nil)
  (pss_cons (ps_setLc (i := 14) (own := [("_law_box", 13)]) (g := gName 13) rfl scstepL.nd rfl rfl (sw_true rfl rfl rfl (by decide +kernel)) (pi_range2 rfl T.range (pa_cons pe_int (pa_cons (pe_op op_add (pv 3) pe_int) pa_nil))) (blkOk_by (N := ["_law_pile", "_law_inside", "_law_counts", "_law_made", "_law_cell", "_law_there", "_law_way", "_law_some", "_law_number", "_law_rows", "_law_handed", "_law_seen", "_law_pair", "_law_box", "_law_missing"]) (sc := defScope sstepL) (by decide +kernel)) (fun _ _ _ _ _ => pg_name (i := 13) scstepL.nd rfl (Or.inl rfl)) (fun _ _ _ _ _ => (pts_one (pt_cmp (pc_dnotin hu (pv 13) (pv 1))))) (fun _ _ _ _ _ => (pv 13)))
  (pss_one (ps_ret (pe_d0 C.refusedL (hr.mono (by decide)) rfl (pa_cons (pv 0) (pa_cons (pe_ix (ixL (K := K) rfl) (pv 14) (pe_op op_mod (pv 7) (pe_callB (cLenQ (K := K) rfl) (by rfl) T.len PySem.boot_len (pa_cons (pv 14) pa_nil))) (fun _ _ => rfl)) (pa_cons (pv 13) (pa_cons (pe_op op_fdiv (pv 7) pe_int) pa_nil)))))))))))))))), ?_⟩
    repeat walk_at "sx"
    refine ⟨i, kI, ks, rfl, .inl c1, hk, by omega, fun ys p hp hs hpn => ?_⟩
    generalize hH1 : upd H p _ = H1
    have g1 : Gr H H1 := gr_of hpn hH1
    have e1 := at_of hH1
    have hys : ∀ z, z ∈ ys ↔ (S.box z).isSome = true := fun z => by rw [hp.mem_iff, d.mem hk]
    have hly : ys.length ≤ 2000 := by rw [hp.length_eq]; exact hlk
    repeat walk_at "sx"
    refine st_I (by show (0 : Int) < 6; decide) ?_
    obtain ⟨j, ej, hj⟩ := nat_emod n 6 6 rfl (by decide)
    rw [ej]
    repeat walk_at "sx"
    refine st_I ⟨by decide, by decide⟩ ?_
    repeat walk_at "sx"
    refine ite3 (fun h => ?_) (fun h => ?_)
    · repeat walk_at "sx"
      refine st_I ⟨by decide, by decide, by decide⟩ ?_
      repeat walk_at "sx"
      refine st_I (.inl ⟨by decide, by decide⟩) ?_
      repeat walk_at "sx"
      refine st_I (by show (0 : Int) < 2 * 10 ^ 30 - 1; decide) ?_
      repeat walk_at "sx"
      refine st_I ⟨by decide, by decide, by decide⟩ ?_
      repeat walk_at "sx"
      generalize n / 6 % (2 * 10 ^ Int.toNat 30 - 1) - 10 ^ Int.toNat 30 + 1 = m
      repeat walk_at "sx"
      walk_at "dx"
      repeat walk_at "sx"
      refine ⟨by show 2 ≤ sizeLine; decide, ?_⟩
      walk_at "new"; rename_i t ht H3 g3 e3
      repeat walk_at "sx"
      have d3 := d.gx (F := fun _ => False) (Gx.of (g1.trans g3))
      have lI := d.lI
      have lC := d.lC
      have big := d.ok.big
      refine lf_dput (k := .inl ((S.made : Int) + 1)) (g3.dK (g1.dK c1)) (by omega) ?_
      generalize hH4 : upd H3 i _ = H4
      have gx4 : Gx (F2 i c) H H4 := by rw [← hH4]; exact (Gx.of (g1.trans g3)).put (.inl rfl) (g3.dK (g1.dK c1)) (by intro z; exact z) (by intro _ z; cases z)
      have c14 : H4 i = some (.dK (putK kI (Sum.inl ((S.made : Int) + 1)) (.ref t))) := by rw [← hH4]; exact upd_same
      have c24 : H4 c = some (.dK kC) := by rw [← hH4, upd_ne nic.symm]; exact g3.dK (g1.dK c2)
      repeat walk_at "sx"
      walk_at "dx"
      repeat walk_at "sx"
      refine lf_dput (k := .inl ((S.made : Int) + 1)) c24 (by omega) ?_
      generalize hH5 : upd H4 c _ = H5
      have gx5 : Gx (F2 i c) H H5 := by rw [← hH5]; exact gx4.put (.inr rfl) c24 (by intro z; exact z) (by intro _ z; cases z)
      have gx35 : Gx (F2 i c) H3 H5 := by
        rw [← hH5, ← hH4]
        refine ((Gx.refl H3).put (.inl rfl) (g3.dK (g1.dK c1)) (by intro z; exact z) (by intro _ z; cases z)).put (.inr rfl) (by rw [upd_ne nic.symm]; exact g3.dK (g1.dK c2)) (by intro z; exact z) (by intro _ z; cases z)
      have ld5 : LD K H5 i c (S.new (.leaf m)) := ⟨⟨_, _, by rw [← hH5, upd_ne nic]; exact c14, by rw [← hH5]; exact upd_same, (d3.new (b := .leaf m) (t := t) e3 (Nat.zero_le _) (fun _ h => nomatch h) (by omega)).gx gx35⟩, nic⟩
      have pl5 : PileAt K C_Pile H5 A S := pl.gx gx5 hdis
      repeat walk_at "sx"
      refine pl5.fm (by decide +kernel) (by decide +kernel) (by decide +kernel) (by decide +kernel) ?_
      repeat walk_at "sx"
      refine ⟨A, S, m, rfl, pl5, by omega, fun H6 g6 pl6 => ?_⟩
      repeat walk_at "sx"
      refine ⟨_, _, rfl, ?_⟩
      rw [decide_eq_true rfl]
      exact k _ _ ((gx5.mono fun _ z => .inr z).trans (g6.mono fun _ z => .inl z)) pl6 (ld5.gx g6 ap.1 ap.2) (.inr ⟨rfl, by unfold PS.new; dsimp only; rw [if_pos rfl] <;> rfl⟩)
    have hj0 : j ≠ 0 := fun z => by
      have := of_decide_eq_false h
      exact this (by rw [z] <;> rfl)
    repeat walk_at "sx"
    refine ⟨by show 0 ≤ sizeLine; decide, ?_⟩
    walk_at "new"; rename_i l0 hl0 H2 g2 e2
    have g12 := g1.trans g2
    repeat walk_at "sx"
    refine st_eqI (xs := ys) (ys := []) (.of (g2.lst e1)) (.of e2) ?_
    repeat walk_at "sx"
    refine ite3 (fun h => ?_) (fun h => ?_)
    · repeat walk_at "sx"
      refine st_I ⟨by decide, by decide, by decide⟩ ?_
      repeat walk_at "sx"
      refine st_I (.inl ⟨by decide, by decide⟩) ?_
      repeat walk_at "sx"
      refine st_I (by show (0 : Int) < 2 * 10 ^ 30 - 1; decide) ?_
      repeat walk_at "sx"
      refine st_I ⟨by decide, by decide, by decide⟩ ?_
      repeat walk_at "sx"
      generalize n / 6 % (2 * 10 ^ Int.toNat 30 - 1) - 10 ^ Int.toNat 30 + 1 = m
      repeat walk_at "sx"
      walk_at "dx"
      repeat walk_at "sx"
      refine ⟨by show 2 ≤ sizeLine; decide, ?_⟩
      walk_at "new"; rename_i t ht H3 g3 e3
      repeat walk_at "sx"
      have d3 := d.gx (F := fun _ => False) (Gx.of (g12.trans g3))
      have lI := d.lI
      have lC := d.lC
      have big := d.ok.big
      refine lf_dput (k := .inl ((S.made : Int) + 1)) (g3.dK (g12.dK c1)) (by omega) ?_
      generalize hH4 : upd H3 i _ = H4
      have gx4 : Gx (F2 i c) H H4 := by rw [← hH4]; exact (Gx.of (g12.trans g3)).put (.inl rfl) (g3.dK (g12.dK c1)) (by intro z; exact z) (by intro _ z; cases z)
      have c14 : H4 i = some (.dK (putK kI (Sum.inl ((S.made : Int) + 1)) (.ref t))) := by rw [← hH4]; exact upd_same
      have c24 : H4 c = some (.dK kC) := by rw [← hH4, upd_ne nic.symm]; exact g3.dK (g12.dK c2)
      repeat walk_at "sx"
      walk_at "dx"
      repeat walk_at "sx"
      refine lf_dput (k := .inl ((S.made : Int) + 1)) c24 (by omega) ?_
      generalize hH5 : upd H4 c _ = H5
      have gx5 : Gx (F2 i c) H H5 := by rw [← hH5]; exact gx4.put (.inr rfl) c24 (by intro z; exact z) (by intro _ z; cases z)
      have gx35 : Gx (F2 i c) H3 H5 := by
        rw [← hH5, ← hH4]
        refine ((Gx.refl H3).put (.inl rfl) (g3.dK (g12.dK c1)) (by intro z; exact z) (by intro _ z; cases z)).put (.inr rfl) (by rw [upd_ne nic.symm]; exact g3.dK (g12.dK c2)) (by intro z; exact z) (by intro _ z; cases z)
      have ld5 : LD K H5 i c (S.new (.leaf m)) := ⟨⟨_, _, by rw [← hH5, upd_ne nic]; exact c14, by rw [← hH5]; exact upd_same, (d3.new (b := .leaf m) (t := t) e3 (Nat.zero_le _) (fun _ h => nomatch h) (by omega)).gx gx35⟩, nic⟩
      have pl5 : PileAt K C_Pile H5 A S := pl.gx gx5 hdis
      repeat walk_at "sx"
      refine pl5.fm (by decide +kernel) (by decide +kernel) (by decide +kernel) (by decide +kernel) ?_
      repeat walk_at "sx"
      refine ⟨A, S, m, rfl, pl5, by omega, fun H6 g6 pl6 => ?_⟩
      repeat walk_at "sx"
      refine ⟨_, _, rfl, ?_⟩
      rw [decide_eq_true rfl]
      exact k _ _ ((gx5.mono fun _ z => .inr z).trans (g6.mono fun _ z => .inl z)) pl6 (ld5.gx g6 ap.1 ap.2) (.inr ⟨rfl, by unfold PS.new; dsimp only; rw [if_pos rfl] <;> rfl⟩)
    have hne : ys ≠ [] := of_decide_eq_false h
    have hpos : 0 < ys.length := List.length_pos_iff.mpr hne
    repeat walk_at "sx"
    have hG12 : Gx (F3 A i c) H H2 := Gx.of g12
    refine ite3 (fun h => ?_) (fun h => ?_)
    · repeat walk_at "sx"
      refine ⟨n / 6, p, ys, rfl, .of (g2.lst e1), hne, by omega, fun r us rs H3 hr3 g3 e3 pr hlow hlen hin => ?_⟩
      repeat walk_at "sx"
      refine st_listL (.of e3) ?_
      walk_at "new"; rename_i q hq H4 g4 e4
      have g14 := (g12.trans g3).trans g4
      have g34 := g4
      have pl4 := pl.gr g14
      repeat walk_at "sx"
      refine pl4.fm (by decide +kernel) (by decide +kernel) (by decide +kernel) (by decide +kernel) ?_
      repeat walk_at "sx"
      refine ⟨A, S, q, us, rs.map rwV, rfl, pl4, .of e4, (pr.gr g4).pv, by rw [List.length_map]; omega, by omega, g14.tab _ tab, .inl ⟨rs, rfl, fun x hx => ?_, fun H5 g5 pl5 => ?_⟩⟩
      · obtain ⟨b, eb⟩ := Option.isSome_iff_exists.mp ((hys _).mp (hin x hx))
        exact ⟨_, b, rfl, eb⟩
      have hq0 : H q = none := (g12.trans g3).free hq
      have gx05 : Gx (F3 A i c) H H5 := (Gx.of g14).trans (g5.mono fun _ z => .inl z)
      repeat walk_at "sx"
      refine st_neRR (.of (g5.lst e4)) ((pr.gr g4).gx g5) (.of (g5.lst (g4.lst e3))) ((pr.gr g4).gx g5) hlow ?_
      repeat walk_at "sx"
      refine st_tyL (.of (g5.lst e4)) ?_
      repeat walk_at "sx"
      refine st_ixL (v := .int (ys.getD 0 0)) (.of (g5.lst (g4.lst (g3.lst (g2.lst e1))))) (atI_nat (j := 0) (by rw [List.getElem?_map, List.getD_eq_getElem?_getD, List.getElem?_eq_getElem hpos] <;> rfl)) ?_
      repeat walk_at "sx"
      refine ⟨by show 2 ≤ sizeLine; decide, ?_⟩
      walk_at "new"; rename_i t0 ht0 H6 g6 e6
      repeat walk_at "sx"
      refine st_append (g6.lst (g5.lst e4)) (sz_lt (by rw [pr.len]; omega)) ?_
      have plr : PileAt K C_Pile H6 A _ := pl5.gr g6
      have hne_pq : r ≠ q := fun z => by rw [z, hq] at e3; cases e3
      generalize hH7 : upd H6 q _ = H7
      have gx67 : ∀ {F : Addr → Prop} {H0 : Hp}, H0 q = none → Gx F H0 H6 → Gx F H0 H7 := fun hq0 g0 => by rw [← hH7]; exact g0.mut hq0
      have gx07 : Gx (F3 A i c) H H7 := gx67 hq0 (gx05.then g6)
      have gx37 : Gx A.foot H3 H7 := gx67 hq (((Gx.of g4).trans g5).then g6)
      have e37 : H7 r = some (.lst us) := gx37.lst e3
      have pl7 : PileAt K C_Pile H7 A ((S.holds (rs.map (·.2))).new (.branch rs)) := by
        obtain ⟨kc, kn, kr, k1, k2, k3, dd⟩ := plr.dcts
        have eq6 := g6.lst (g5.lst e4)
        rw [← hH7]
        exact ⟨by rw [upd_ne (ne_of plr.ins eq6 (by intro z; cases z))]; exact plr.ins, ⟨kc, kn, kr, by rw [upd_ne (ne_of k1 eq6 (by intro z; cases z))]; exact k1, by rw [upd_ne (ne_of k2 eq6 (by intro z; cases z))]; exact k2, by rw [upd_ne (ne_of k3 eq6 (by intro z; cases z))]; exact k3, dd.move fun _ _ => sqT_mut eq6⟩, plr.ne⟩
      have c17 : H7 i = some (.dK kI) := gx37.keep _ _ (g3.dK (g12.dK c1)) ap.1 (fun _ z => by cases z)
      have c27 : H7 c = some (.dK kC) := gx37.keep _ _ (g3.dK (g12.dK c2)) ap.2 (fun _ z => by cases z)
      have pr7 : Prs K H7 us rs := pr.gx gx37
      have d7 : LDk K H7 S kI kC := d.gx gx07
      have lI := d.lI
      have lC := d.lC
      have big := d.ok.big
      repeat walk_at "sx"
      refine st_exL (.of e37) ?_
      refine st_loop (m := us.length) (Y := fun i x => us[i]? = some x) (G := fun H' => SqL K H' r us) walk_list
        (fun a σ H' => ∃ (v : Option V) (kC' : List (Key × V)), σ = [some (.ref A.p), some (.ref i), some (.ref c), some (.int (S.made : Int)), some (.int n), some (.ref p), some (.int (j : Int)), some (.int (n / 6)), none, some (.ref r), some (.ref q), some (.int ((S.made : Int) + 1)), v, none, none] ∧ Gx (F2 i c) H7 H' ∧ H' i = some (.dK kI) ∧ H' c = some (.dK kC') ∧ LDk K H7 (S.holds ((rs.take a).map (·.2))) kI kC')
        ⟨none, kC, rfl, Gx.refl _, c17, c27, d7⟩ (fun a σ H' _ ⟨v, kC', e, gx, _⟩ => gx.l (.of e37)) ?_ ?_
      · rintro a x σ H' ha ⟨v, kC', rfl, gx, c1', c2', d'⟩ hx
        obtain ⟨u, row, rfl, er, hu7⟩ := pr7.back hx
        have hS : (S.holds ((rs.take a).map (·.2))).box row.2 ≠ none := fun z => by
          have h1 := PS.holds_some S ((rs.take a).map (·.2)) row.2
          rw [z, (hys _).mp (hin row (List.mem_of_getElem? er))] at h1
          cases h1
        obtain ⟨bx, ebx⟩ := Option.ne_none_iff_exists'.mp hS
        obtain ⟨b, cc⟩ := bx
        repeat walk_at "sx"
        walk_at "dx"
        repeat walk_at "sx"
        walk_at "dx"
        repeat walk_at "sx"
        refine st_ixT (gx.t hu7) (atI_nat (j := 1) rfl) ?_
        refine lf_dget (k := .inl row.2) c2' (by rw [d'.vC, ebx] <;> rfl) ?_
        repeat walk_at "sx"
        refine st_ixT (gx.t hu7) (atI_nat (j := 1) rfl) ?_
        have lC' := d'.lC
        rw [PS.holds_made] at lC'
        refine lf_dput (k := .inl row.2) c2' (by omega) ?_
        generalize hH8 : upd H' c _ = H8
        refine ⟨_, _, rfl, by rw [← hH8]; exact gx.put (.inr rfl) c2' (by intro z; exact z) (by intro _ z; cases z), by rw [← hH8, upd_ne nic]; exact c1', by rw [← hH8]; exact upd_same, ?_⟩
        have hrow : a < rs.length := (List.getElem?_eq_some_iff.mp er).1
        have et : (rs.take (a + 1)).map (·.2) = (rs.take a).map (·.2) ++ [row.2] := by
          rw [List.take_succ_eq_append_getElem hrow, List.map_append, (List.getElem?_eq_some_iff.mp er).2] <;> rfl
        rw [et, PS.holds_snoc]
        exact d'.hold ebx
      · rintro σ H' ⟨v, kC', rfl, gx, c1', c2', d'⟩
        rw [pr.len, List.take_length] at d'
        repeat walk_at "sx"
        walk_at "dx"
        repeat walk_at "sx"
        refine ⟨by show 2 ≤ sizeLine; decide, ?_⟩
        walk_at "new"; rename_i t ht H9 g9 e9
        repeat walk_at "sx"
        have lI' := d'.lI
        have lC' := d'.lC
        rw [PS.holds_made] at lI' lC'
        refine lf_dput (k := .inl ((S.made : Int) + 1)) (g9.dK c1') (by omega) ?_
        generalize hHa : upd H9 i _ = Ha
        have gxa : Gx (F2 i c) H9 Ha := by rw [← hHa]; exact (Gx.refl H9).put (.inl rfl) (g9.dK c1') (by intro z; exact z) (by intro _ z; cases z)
        have c1a : Ha i = some (.dK (putK kI (Sum.inl ((S.made : Int) + 1)) (.ref t))) := by rw [← hHa]; exact upd_same
        have c2a : Ha c = some (.dK kC') := by rw [← hHa, upd_ne nic.symm]; exact g9.dK c2'
        repeat walk_at "sx"
        walk_at "dx"
        repeat walk_at "sx"
        refine lf_dput (k := .inl ((S.made : Int) + 1)) c2a (by omega) ?_
        generalize hHb : upd Ha c _ = Hb
        have gxb : Gx (F2 i c) H9 Hb := by rw [← hHb]; exact gxa.put (.inr rfl) c2a (by intro z; exact z) (by intro _ z; cases z)
        have gx7b : Gx (F2 i c) H7 Hb := (gx.then g9).trans gxb
        have d9 : LDk K H9 (S.holds (rs.map (·.2))) kI kC' := d'.gx (gx.then g9)
        have told : Told K H9 (.branch rs) t := ⟨r, us, e9, g9.lst (gx.lst e37), (pr7.gx gx).gr g9⟩
        have dn := d9.new (b := .branch rs) told (show rs.length ≤ 5000 by omega) hlow (by rw [PS.holds_made]; omega)
        rw [PS.holds_made] at dn
        have ldb : LD K Hb i c ((S.holds (rs.map (·.2))).new (.branch rs)) := ⟨⟨_, _, by rw [← hHb, upd_ne nic]; exact c1a, by rw [← hHb]; exact upd_same, dn.gx gxb⟩, nic⟩
        have plb := pl7.gx gx7b hdis
        repeat walk_at "sx"
        refine ⟨_, _, rfl, ?_⟩
        rw [decide_eq_true rfl]
        refine k _ _ (gx07.trans (gx7b.mono fun _ z => .inr z)) plb ldb (.inr ⟨by show (S.holds _).made + 1 = _; rw [PS.holds_made], ?_⟩)
        unfold PS.new
        dsimp only
        rw [PS.holds_made, if_pos rfl] <;> rfl
    repeat walk_at "sx"
    refine st_lenL (.of (g2.lst e1)) ?_
    rw [List.length_map]
    refine st_I (by show (0 : Int) < (ys.length : Int); omega) ?_
    have b1 := Int.emod_nonneg (n / 6) (show (ys.length : Int) ≠ 0 by omega)
    have b2 := Int.emod_lt_of_pos (n / 6) (show (0 : Int) < (ys.length : Int) by omega)
    obtain ⟨jz, ejz⟩ := Int.eq_ofNat_of_zero_le b1
    rw [ejz] at b2 ⊢
    obtain ⟨z, ez⟩ : ∃ z, ys[jz]? = some z := ⟨_, List.getElem?_eq_getElem (by omega)⟩
    refine st_ixL (v := .int z) (.of (g2.lst e1)) (atI_nat (by rw [List.getElem?_map, ez] <;> rfl)) ?_
    obtain ⟨x, ex⟩ := Option.isSome_iff_exists.mp ((hys z).mp (List.mem_of_getElem? ez))
    obtain ⟨b, cc⟩ := x
    have step : ∀ (i : Nat), decide (V.int ((j : Nat) : Int) = V.int (i : Int)) = decide (j = i) := fun i => decide_eq_decide.mpr ⟨fun q => by have := V.int.inj q; omega, fun q => by rw [q]⟩
    have lI := d.lI
    have lC := d.lC
    have big := d.ok.big
    repeat walk_at "sx"
    rw [show (3 : Int) = ((3 : Nat) : Int) from rfl, step 3]
    refine ite3 (fun h => ?_) (fun h => ?_)
    · repeat walk_at "sx"
      walk_at "dx"
      repeat walk_at "sx"
      walk_at "dx"
      repeat walk_at "sx"
      refine lf_dget (k := .inl z) (g12.dK c2) (by rw [d.vC, ex] <;> rfl) ?_
      repeat walk_at "sx"
      refine lf_dput (k := .inl z) (g12.dK c2) (by omega) ?_
      generalize hH3 : upd H2 c _ = H3
      have gx3 : Gx (F2 i c) H H3 := by rw [← hH3]; exact (Gx.of g12).put (.inr rfl) (g12.dK c2) (by intro z; exact z) (by intro _ z; cases z)
      have d3 := (d.hold ex).gx gx3
      have ld3 : LD K H3 i c (S.hold z) := ⟨⟨_, _, by rw [← hH3, upd_ne nic]; exact g12.dK c1, by rw [← hH3]; exact upd_same, d3⟩, nic⟩
      have pl3 := pl.gx gx3 hdis
      repeat walk_at "sx"
      refine pl3.fm (by decide +kernel) (by decide +kernel) (by decide +kernel) (by decide +kernel) ?_
      repeat walk_at "sx"
      refine ⟨A, S, .int z, rfl, pl3, .inl ⟨z, rfl, fun b' c' e' => fun H4 g4 pl4 => ?_, fun e' => by rw [ex] at e'; cases e'⟩⟩
      have gx4 : Gx (F3 A i c) H H4 := (gx3.mono fun _ z => .inr z).trans (g4.mono fun _ z => .inl z)
      have ld4 := ld3.gx g4 ap.1 ap.2
      have ex4 : (S.hold z).box z = some (b, cc + 1) := by
        unfold PS.hold
        dsimp only
        rw [if_pos rfl, ex] <;> rfl
      repeat walk_at "sx"
      refine pl4.fm (by decide +kernel) (by decide +kernel) (by decide +kernel) (by decide +kernel) ?_
      repeat walk_at "sx"
      refine ⟨A, _, .int z, rfl, pl4, .inl ⟨z, rfl, fun b' c' e' => fun t H5 ht g5 told _ => ?_, fun e' => by rw [ex4] at e'; cases e'⟩⟩
      rw [ex4] at e'
      cases e'
      obtain ⟨kI5, kC5, c15, c25, d5⟩ := (ld4.gr g5).d
      have hI := d5.vI z
      rw [ex4] at hI
      obtain ⟨t2, et2, told2⟩ := hI
      repeat walk_at "sx"
      walk_at "dx"
      repeat walk_at "sx"
      refine lf_dget (k := .inl z) c15 et2 ?_
      repeat walk_at "sx"
      exact ⟨t, t2, _, rfl, told, told2, d.low _ _ ex, d.ok.len _ _ ex, fun H6 g6 => k _ _ ((gx4.then g5).then g6) ((pl4.gr g5).gr g6) ((ld4.gr g5).gr g6) (.inl rfl)⟩
    repeat walk_at "sx"
    rw [show (4 : Int) = ((4 : Nat) : Int) from rfl, step 4]
    refine ite3 (fun h => ?_) (fun h => ?_)
    · repeat walk_at "sx"
      have pl2 := pl.gr g12
      refine pl2.fm (by decide +kernel) (by decide +kernel) (by decide +kernel) (by decide +kernel) ?_
      repeat walk_at "sx"
      refine ⟨A, S, .int z, rfl, pl2, .inl ⟨z, rfl, fun b' c' e' => fun H4 g4 pl4 => ?_, fun e' => by rw [ex] at e'; cases e'⟩⟩
      have ld4 := (ld.gr g12).gx g4 ap.1 ap.2
      repeat walk_at "sx"
      refine ⟨i, c, z, S, rfl, ld4, fun H5 g5 ld5 => ?_⟩
      repeat walk_at "sx"
      refine ⟨_, _, rfl, ?_⟩
      rw [decide_eq_true rfl]
      exact k _ _ (((Gx.of g12).trans (g4.mono fun _ z => .inl z)).trans (g5.mono fun _ z => .inr z)) (pl4.gx g5 hdis) ld5 (.inl (PS.letGo_ok d.ok z).2)
    repeat walk_at "sx"
    refine st_iR2 ?_
    repeat walk_at "sx"
    refine ⟨1, (S.made : Int) + 2, rfl, ⟨by omega, by omega, by omega, by omega⟩, ?_⟩
    rw [show ((S.made : Int) + 2 - 1).toNat = S.made + 1 by omega]
    refine lc_gr (n := S.made + 1) (Y := fun i x => x = .int (1 + (i : Int))) walk_range (fun _ _ => True.intro) (fun q => if (S.box (1 + (q : Int))).isSome = true then none else some (.int (1 + (q : Int)))) (fun q x H3 hq y g3 Qy Qn q1 q2 => ?_) (fun D H3 hD g3 e3 => ?_) (by omega) (fun _ => rfl)
    · subst y
      refine st_tB ?_
      walk_at "dx"
      repeat walk_at "sx"
      refine ⟨i, _, rfl, DGet.k (k := .inl (1 + (q : Int))) (g3.dK (g12.dK c1)), ?_⟩
      have hv : (valV kI (Sum.inl (1 + (q : Int)))).isSome = (S.box (1 + (q : Int))).isSome := by
        have := d.vI (1 + (q : Int))
        cases e : S.box (1 + (q : Int)) with
        | none => rw [e] at this; rw [this] <;> rfl
        | some x =>
          rw [e] at this
          obtain ⟨t, e3, _⟩ := this
          rw [e3] <;> rfl
      rw [hv]
      refine ⟨_, rfl, ?_⟩
      cases e : (S.box (1 + (q : Int))).isSome with
      | true =>
        refine iteF ?_
        exact q2 (by rw [e, if_pos rfl]) _ (Gr.refl _)
      | false =>
        refine iteT ?_
        repeat walk_at "sx"
        exact q1 _ _ (by rw [e, if_neg (by decide)]) (Gr.refl _)
    · generalize hms : (List.range (S.made + 1)).filterMap (fun (q : Nat) => if (S.box (1 + (q : Int))).isSome = true then none else some (V.int (1 + (q : Int)))) = ms at e3
      have hmem : ∀ v ∈ ms, ∃ y : Int, v = .int y ∧ S.box y = none := fun v hv => by
        rw [← hms] at hv
        obtain ⟨q, _, e⟩ := List.mem_filterMap.mp hv
        cases eb : S.box (1 + (q : Int)) with
        | none =>
          rw [eb] at e
          exact ⟨_, (Option.some.inj e).symm, eb⟩
        | some x => rw [eb] at e; cases e
      have hml : ms.length ≤ S.made + 1 := by
        rw [← hms]
        exact filterMap_len _ _
      have hm0 : 0 < ms.length := by
        refine List.length_pos_of_mem (a := V.int ((S.made : Int) + 1)) ?_
        rw [← hms]
        refine List.mem_filterMap.mpr ⟨S.made, List.mem_range.mpr (by omega), ?_⟩
        rw [Int.add_comm 1, d.none_next] <;> rfl
      repeat walk_at "sx"
      refine st_lenL (.of e3) ?_
      refine st_I (by show (0 : Int) < (ms.length : Int); omega) ?_
      have b3 := Int.emod_nonneg (n / 6) (show (ms.length : Int) ≠ 0 by omega)
      have b4 := Int.emod_lt_of_pos (n / 6) (show (0 : Int) < (ms.length : Int) by omega)
      obtain ⟨jm, ejm⟩ := Int.eq_ofNat_of_zero_le b3
      rw [ejm] at b4 ⊢
      obtain ⟨v, ev⟩ : ∃ v, ms[jm]? = some v := ⟨_, List.getElem?_eq_getElem (by omega)⟩
      obtain ⟨y, rfl, hy⟩ := hmem v (List.mem_of_getElem? ev)
      refine st_ixL (.of e3) (atI_nat ev) ?_
      repeat walk_at "sx"
      refine st_I ⟨by decide, by decide⟩ ?_
      repeat walk_at "sx"
      have g123 := g12.trans g3
      exact ⟨A, S, y, z, _, rfl, pl.gr g123, by omega, hy, ⟨z, _, rfl, ex⟩, g123.tab _ tab, fun H4 g4 => k _ _ (Gx.of (g123.trans g4)) ((pl.gr g123).gr g4) ((ld.gr g123).gr g4) (.inl rfl)⟩
end
theorem upd_none {H : Hp} {a b : Addr} {o : HO} (h : upd H a o b = none) : H b = none := by
  by_cases q : b = a
  · rw [q, upd_same] at h; cases h
  · rw [upd_ne q] at h; exact h
theorem st_newPile {K : PySem.W.Frag} {C : Addr} {σ : L2.St} {H : Hp} {Q : VK} (h : ∀ (A : PA) H1, (∀ b, A.foot b → H b = none) → Gr H H1 → PileAt K C H1 A PS.empty → Q (.ref A.p) H1) : tMake C (spInit K C) [] E0 tNil σ H Q := by
  refine st_make ?_
  intro x dx hx hdx hne
  refine ⟨x, dx, rfl, upd_same, fun A H1 ep hc hn hr gx pl => ⟨rfl, ?_⟩⟩
  subst ep
  refine h A H1 (fun b hb => ?_) ?_ pl
  · rcases hb with rfl | rfl | rfl | rfl
    · exact hx
    · exact upd_none (upd_none hc)
    · exact upd_none (upd_none hn)
    · exact upd_none (upd_none hr)
  · have f0 : ∀ b o, H b = some o → (upd (upd H dx (.own A.p)) A.p (.ins C dx [])) b = some o := fun b o e => by rw [upd_ne (ne_of_none e hx), upd_ne (ne_of_none e hdx)]; exact e
    refine ⟨fun b o e n => gx.keep b o (f0 b o e) (ne_of_none e hx) n, fun b t => ?_, fun b o e => gx.there b o (f0 b o e)⟩
    obtain ⟨ps, e, z⟩ := t
    exact gx.tab b ⟨ps, f0 b _ e, z⟩
def spChain (K : PySem.W.Frag) (Pt : Addr) : Sp := fun vs H Q _ => ∃ a m : Nat, vs = [.int (a : Int), .int (m : Int)] ∧ a ≤ 60 ∧ 1 ≤ m ∧ m ≤ 3 ∧ GxR.TabG H Pt ∧ ∀ H', Gr H H' → Q (.bl true) H'
structure CH (P : Program) (w : World) (K : PySem.W.Frag) (mg : Str → Option Value) (base : Heap) (C B Pt : Addr) : Prop extends CE P w K mg base C B Pt where
  mk_Pile : Mi P w K mg base 1 C "Pile" ["self"] (spInit K C)
def abm : List Nat := (Str.ofString "abcdefghijklm").cps.toList
def chR (m : Nat) (b : Int) : Rw := (List.range m).map fun q => ((⟨#[abm.getD q 0]⟩ : Str), b)
theorem chR_snd (m : Nat) (b : Int) : (chR m b).map (·.2) = List.replicate m b := by
  unfold chR
  rw [List.map_map]
  refine List.ext_getElem (by simp) (fun i h1 h2 => by simp)
section
variable {P : Program} {w : World} {K : PySem.W.Frag} {mg : Str → Option Value} {base : Heap} {C_Pile E_NoBox : Addr}
theorem scchain : FnScope ["_law_many", "_law_named", "_law_pile", "_law_box", "_law_k", "_law_at"] ["_law_many", "_law_named"] (defScope schain) := ⟨rfl, rfl, rfl, by decide +kernel, rfl, by decide +kernel, by decide +kernel⟩
theorem ok_chain {f Pt : Addr} {fd : FuncData} (F : Fun K "_law_chain" "_law_chain" schain f fd) (T : Txt K mg C_Pile E_NoBox) (C : CH P w K mg base C_Pile E_NoBox Pt) : FnOk P w K mg base (L2.CX P w) 4 f fd ["_law_many", "_law_named"] (spChain K Pt) := by
  refine F.okX scchain (fun vs H Q E h => ?_) (fun cdv A' outer s H vs Q E hr h => ?_)
  · obtain ⟨a, m, rfl, _⟩ := h
    rfl
  · obtain ⟨a, m, rfl, ha, hm1, hm3, tab, k⟩ := h
    refine ⟨_, (pss_cons (ps_set (i := 2) scchain.nd rfl (Or.inl rfl) (pe_mk0 C.mk_Pile (hr.mono (by decide)) rfl))
  (pss_cons (ps_set (i := 3) scchain.nd rfl (Or.inr rfl) (pe_mm (pv 2) T.cl_Pile C.plLeaf (hr.mono (by decide)) (pa_cons pe_int pa_nil)))
  (pss_cons (ps_for (passes_of rfl) rfl (pi_range1 rfl T.range (pa_cons (pv 0) pa_nil)) (pg_name (i := 4) scchain.nd rfl (Or.inl rfl))
  (pss_one (ps_set (i := 3) scchain.nd rfl (Or.inr rfl) (pe_mm (pv 2) T.cl_Pile C.plBranch (hr.mono (by decide)) (pa_cons (pe_lc (own := [("_law_at", 5)]) (g := gName 5) (tt := tYes) rfl scchain.nd (pi_range1 rfl T.range (pa_cons (pv 1) pa_nil)) (blkOk_by (N := ["_law_many", "_law_named", "_law_pile", "_law_box", "_law_k", "_law_at"]) (sc := defScope schain) (by decide +kernel)) (fun _ _ _ _ _ => pg_name (i := 5) scchain.nd rfl (Or.inl rfl)) (fun _ _ _ _ _ => pts_nil) (fun _ _ _ _ _ => (pe_tup (pa_cons (pe_ix ix_str pe_str (pv 5) (fun _ _ => rfl)) (pa_cons (pv 3) pa_nil))))) pa_nil)))))
  (pss_cons (ps_if (PW.pt (pw_or (pt_cmpR (oNeD (K := K) rfl hr.units) (pe_mm0 (pv 2) T.cl_Pile C.plKept (hr.mono (by decide)) ) (pe_lc (own := [("_law_k", 4)]) (g := gName 4) (tt := tYes) rfl scchain.nd (pi_range1 rfl T.range (pa_cons (pe_op op_add (pv 0) pe_int) pa_nil)) (blkOk_by (N := ["_law_many", "_law_named", "_law_pile", "_law_box", "_law_k", "_law_at"]) (sc := defScope schain) (by decide +kernel)) (fun _ _ _ _ _ => pg_name (i := 4) scchain.nd rfl (Or.inl rfl)) (fun _ _ _ _ _ => pts_nil) (fun _ _ _ _ _ => (pe_op op_add (pv 4) pe_int))) (nomark _)) (pw_or1 (pt_not (pt_val (pe_d0 C.count (hr.mono (by decide)) rfl (pa_cons (pe_mm (pv 2) T.cl_Pile C.plHolders (hr.mono (by decide)) (pa_cons pe_int pa_nil)) (pa_cons (pe_op op_mul (pv 1) (pe_callTy call_int1 (by rfl) T.int PyProof.Rows.boot_int (pa_cons (pe_cmpR op_gt (pv 0) pe_int (nomark _)) pa_nil))) pa_nil))))))))
  (pss_one (ps_ret pe_bl))
  pss_nil)
  (pss_one (ps_ret (pe_and (pe_d0 C.count (hr.mono (by decide)) rfl (pa_cons (pe_mm (pv 2) T.cl_Pile C.plLetGo (hr.mono (by decide)) (pa_cons (pv 3) pa_nil)) (pa_cons (pe_op op_add (pv 0) pe_int) pa_nil))) (pe_and (pe_cmpR (oEqD (K := K) rfl hr.units) (pe_mm0 (pv 2) T.cl_Pile C.plKept (hr.mono (by decide)) ) (pe_lst pa_nil) (nomark _)) (pe_one (pe_d0 C.count (hr.mono (by decide)) rfl (pa_cons (pe_fld (pv 2) rfl) (pa_cons (pe_op op_add (pv 0) pe_int) pa_nil)))))))))))), ?_⟩
    repeat walk_at "sx"
    refine st_newPile ?_
    intro A H1 hfree g1 pl1
    repeat walk_at "sx"
    refine pl1.fm (by decide +kernel) (by decide +kernel) (by decide +kernel) (by decide +kernel) ?_
    repeat walk_at "sx"
    refine ⟨A, _, 7, rfl, pl1, by show 0 ≤ 2900; decide, fun H2 g2 pl2 => ?_⟩
    have ch1 : Ch (PS.empty.new (.leaf 7)) (0 + 1) m 0 := by
      refine ⟨fun z hz => ?_, fun z h1 h2 => ⟨.leaf 7, ?_, ?_⟩⟩
      · unfold PS.new PS.empty
        dsimp only
        rw [if_neg (by omega)]
      · unfold PS.new PS.empty
        dsimp only
        rw [if_pos (by omega), if_pos (by omega)]
      · rw [if_pos (by omega)] <;> rfl
    repeat walk_at "sx"
    refine st_exR (by omega) (by omega) ?_
    rw [Int.toNat_natCast]
    refine st_loopR (fun i σ H' => ∃ (S : PS) (v : Option V), σ = [some (.int (a : Int)), some (.int (m : Int)), some (.ref A.p), some (.int ((i : Int) + 1)), v, none] ∧ Gx A.foot H1 H' ∧ PileAt K C_Pile H' A S ∧ S.made = i + 1 ∧ Ch S (i + 1) m 0)
      ⟨_, none, rfl, g2, pl2, rfl, ch1⟩ ?_ ?_
    · rintro i σ H3 hi ⟨S, v, rfl, g3, pl3, hmade, ch⟩
      repeat walk_at "sx"
      refine pl3.fm (by decide +kernel) (by decide +kernel) (by decide +kernel) (by decide +kernel) ?_
      repeat walk_at "sx"
      refine st_exR (by omega) (by omega) ?_
      rw [Int.toNat_natCast]
      refine lc_acc (n := m) (Y := fun i x => x = .int (0 + (i : Int))) walk_range (fun _ _ => True.intro) (fun q acc H' => Prs K H' acc ((chR m ((i : Int) + 1)).take q)) (fun H2 _ => .nil) (fun i acc H H' g h => h.gr g) (fun i acc H D xs zs e _ h => h.mut e) ?_ (fun D acc H5 hD g5 e5 _ h => ?_) (by omega) (fun _ => rfl)
      · intro q x acc H5 hq y g5 a5 Qy Qn q1 q2
        rw [y, Int.zero_add]
        repeat walk_at "sx"
        refine st_ixS (by decide +kernel) (at_get (n := 13) (by decide +kernel) (by omega) (by omega)) ?_
        repeat walk_at "sx"
        refine ⟨by show 2 ≤ sizeLine; decide, ?_⟩
        walk_at "new"; rename_i t ht H6 g6 e6
        refine q1 _ H6 g6 ?_
        rw [List.take_succ_eq_append_getElem (by unfold chR; rw [List.length_map, List.length_range]; exact hq)]
        refine (a5.gr g6).app (.cons ?_ .nil)
        refine .of ?_
        rw [e6]
        unfold chR
        simp only [List.get_eq_getElem, List.getElem_map, List.getElem_range, Int.toNat_natCast]
        rfl
      · have el : (chR m ((i : Int) + 1)).length = m := by unfold chR; rw [List.length_map, List.length_range]
        rw [List.take_of_length_le (by omega)] at h
        obtain ⟨b, eb, _⟩ := ch.each ((i : Int) + 1) (by omega) (by omega)
        repeat walk_at "sx"
        refine ⟨A, S, D, acc, (chR m ((i : Int) + 1)).map rwV, rfl, pl3.gr g5, .of e5, h.pv, by rw [List.length_map]; omega, by omega, g5.tab _ (g3.tab _ (g1.tab _ tab)), .inl ⟨_, rfl, fun x hx => ?_, fun H6 g6 pl6 => ?_⟩⟩
        · unfold chR at hx
          obtain ⟨_, _, rfl⟩ := List.mem_map.mp hx
          exact ⟨_, _, rfl, eb⟩
        rw [chR_snd] at pl6
        repeat walk_at "sx"
        rw [hmade]
        refine ⟨_, _, rfl, (g3.then g5).trans g6, pl6, by show (S.holds _).made + 1 = _; rw [PS.holds_made, hmade], ch.new hmade (chR_snd m _)⟩
    · rintro σ H3 ⟨S, v, rfl, g3, pl3, hmade, ch⟩
      have ok3 : S.Ok := by
        obtain ⟨_, _, _, _, _, _, dd⟩ := pl3.dcts
        exact dd.ok
      repeat walk_at "sx"
      refine pl3.fm (by decide +kernel) (by decide +kernel) (by decide +kernel) (by decide +kernel) ?_
      repeat walk_at "sx"
      refine ⟨A, S, rfl, pl3, fun q zs H4 _ g4 eq hz1 hz2 => ?_⟩
      repeat walk_at "sx"
      refine st_exR (by omega) (by omega) ?_
      rw [show ((a : Int) + 1).toNat = a + 1 by omega]
      refine lc_r (fun i => .int ((i : Int) + 1)) ?_ ?_ (by omega)
      · intro i H5 hi g5 Qy q
        repeat walk_at "sx"
        exact q _ (Gr.refl _)
      · intro D H5 _ g5 e5
        repeat walk_at "sx"
        have ezs : zs = (List.range (a + 1)).map fun (i : Nat) => (i : Int) + 1 := ints_ext hz1 (upto (a + 1)).1 fun z => by
          rw [hz2, (upto (a + 1)).2]
          constructor
          · intro h
            refine Decidable.byContradiction fun hc => ?_
            rw [ch.out z hc] at h
            cases h
          · intro h
            obtain ⟨b, eb, _⟩ := ch.each z h.1 h.2
            rw [eb] <;> rfl
        refine st_neI (xs := zs) (ys := (List.range (a + 1)).map fun (i : Nat) => (i : Int) + 1) (.of (g5.lst eq)) (.of (by rw [e5, List.map_map] <;> rfl)) ?_
        rw [decide_eq_true ezs]
        have g35 := g4.trans g5
        have pl5 := pl3.gr g35
        repeat walk_at "sx"
        refine pl5.fm (by decide +kernel) (by decide +kernel) (by decide +kernel) (by decide +kernel) ?_
        repeat walk_at "sx"
        obtain ⟨b1, eb1, _⟩ := ch.each 1 (by omega) (by omega)
        refine ⟨A, S, .int 1, rfl, pl5, .inl ⟨1, rfl, fun b' c' e' => ?_, fun e' => by rw [eb1] at e'; cases e'⟩⟩
        rw [eb1] at e'
        cases e'
        repeat walk_at "sx"
        refine .inr ⟨_, rfl, ?_⟩
        repeat walk_at "sx"
        refine st_I (.inl ⟨by omega, by omega⟩) ?_
        repeat walk_at "sx"
        refine ⟨_, _, rfl, ?_⟩
        have ecnt : (((if (1 : Int) = ((a + 1 : Nat) : Int) then 0 else m : Nat) : Int) = (m : Int) * (if decide ((a : Int) > 0) = true then 1 else 0)) := by
          by_cases q : a = 0
          · rw [if_pos (by omega), if_neg (by rw [decide_eq_false (by omega)]; decide), Int.mul_zero] <;> rfl
          · rw [if_neg (by omega), if_pos (decide_eq_true (by omega)), Int.mul_one]
        dsimp only
        rw [decide_eq_true ecnt]
        repeat walk_at "sx"
        refine pl5.fm (by decide +kernel) (by decide +kernel) (by decide +kernel) (by decide +kernel) ?_
        repeat walk_at "sx"
        obtain ⟨b2, eb2, _⟩ := ch.each ((a : Int) + 1) (by omega) (by omega)
        refine ⟨A, S, .int ((a : Int) + 1), rfl, pl5, .inl ⟨(a : Int) + 1, rfl, fun b' c' e' => fun H6 g6 pl6 => ?_, fun e' => by rw [eb2] at e'; cases e'⟩⟩
        obtain ⟨lg1, lg2⟩ := ch.letGo hm1 ok3
        rw [lg2]
        repeat walk_at "sx"
        refine ⟨_, _, rfl, ?_⟩
        rw [decide_eq_true (by rfl)]
        repeat walk_at "sx"
        refine pl6.fm (by decide +kernel) (by decide +kernel) (by decide +kernel) (by decide +kernel) ?_
        repeat walk_at "sx"
        refine ⟨A, _, rfl, pl6, fun q2 zs2 H7 _ g7 eq7 _ hz4 => ?_⟩
        have ezs2 : zs2 = [] := by
          refine List.eq_nil_iff_forall_not_mem.mpr fun z hz => ?_
          have := (hz4 z).mp hz
          rw [lg1 z] at this
          cases this
        repeat walk_at "sx"
        refine ⟨by show 0 ≤ sizeLine; decide, ?_⟩
        walk_at "new"; rename_i l8 hl8 H8 g8 e8
        repeat walk_at "sx"
        refine st_eqI (xs := zs2) (ys := []) (.of (g8.lst eq7)) (.of e8) ?_
        rw [decide_eq_true ezs2]
        repeat walk_at "sx"
        have pl8 := (pl6.gr g7).gr g8
        refine lf_fld pl8.ins T.cl_Pile T.n_Pile_made (pfs_lk A _).1 ?_
        repeat walk_at "sx"
        refine ⟨_, _, rfl, ?_⟩
        rw [(PS.letGo_ok ok3 _).2, hmade, decide_eq_true (by rfl)]
        exact k _ (Gx.gr hfree g1 ((((g3.then g35).trans g6).then g7).then g8))
end
def spLaw (K : PySem.W.Frag) (Pt : Addr) : Sp := fun vs H Q _ => ∃ (l : Addr) (ns : List Int), vs = [.ref l] ∧ SqL K H l (ns.map V.int) ∧ ns.length ≤ 63 ∧ GxR.TabG H Pt ∧ ∀ H', Q (.bl true) H'
structure CL (P : Program) (w : World) (K : PySem.W.Frag) (mg : Str → Option Value) (base : Heap) (C B Pt : Addr) : Prop extends CS P w K mg base C B Pt where
  mk_Pile : Mi P w K mg base 1 C "Pile" ["self"] (spInit K C)
  chain : Df P w K mg base 4 "_law_chain" ["_law_many", "_law_named"] (spChain K Pt)
  stepL : Df P w K mg base 5 "_law_step" ["_law_pile", "_law_inside", "_law_counts", "_law_made", "_law_cell"] (spStepL K C Pt)
  asDue : Df P w K mg base 4 "_law_as_due" ["_law_pile", "_law_inside", "_law_counts", "_law_made"] (spAsDue K C)
theorem st_slL {K : PySem.W.Frag} {H : Hp} {Q : VK} {p : Addr} {xs : List V} {lo hi : Option Int} (h : SqL K H p xs) (q : ∀ r, H r = none → Q (.ref r) (upd H r (.lst (cutV xs lo hi)))) : rSlL K (.ref p) lo hi H Q := ⟨p, xs, rfl, h, q⟩
theorem cut_ints (ns : List Int) (lo hi : Option Int) : ∃ cs : List Int, cutV (ns.map V.int) lo hi = cs.map V.int ∧ cs.length ≤ ns.length ∧ ∀ z ∈ cs, z ∈ ns := by
  refine ⟨(ns.drop (HT.sIx (ns.map V.int).length 0 lo)).take (HT.sIx (ns.map V.int).length (ns.map V.int).length hi - HT.sIx (ns.map V.int).length 0 lo), ?_, ?_, fun z hz => List.mem_of_mem_drop (List.mem_of_mem_take hz)⟩
  · unfold cutV
    rw [List.map_take, List.map_drop]
  · rw [List.length_take, List.length_drop]
    omega
theorem keysV {kI : List (Key × V)} {ks : List Int} (hk : kI.map (·.1) = ks.map Sum.inl) : kI.map (fun kv => kV kv.1) = ks.map V.int := by
  have e : kI.map (fun kv => kV kv.1) = (kI.map (·.1)).map kV := by rw [List.map_map] <;> rfl
  rw [e, hk, List.map_map] <;> rfl
section
variable {P : Program} {w : World} {K : PySem.W.Frag} {mg : Str → Option Value} {base : Heap} {C_Pile E_NoBox : Addr}
theorem sclaw : FnScope ["_law_script", "_law_pile", "_law_inside", "_law_counts", "_law_made", "_law_cell", "_law_box", "_law_told"] ["_law_script"] (defScope slaw) := ⟨rfl, rfl, rfl, by decide +kernel, rfl, by decide +kernel, by decide +kernel⟩
set_option maxHeartbeats 20000000 in
theorem ok_law {f Pt : Addr} {fd : FuncData} (F : Fun K "law" "law" slaw f fd) (T : Txt K mg C_Pile E_NoBox) (C : CL P w K mg base C_Pile E_NoBox Pt) : FnOk P w K mg base (L2.CX P w) 6 f fd ["_law_script"] (spLaw K Pt) := by
  refine F.okX sclaw (fun vs H Q E h => ?_) (fun cdv A' outer s H vs Q E hr h => ?_)
  · obtain ⟨l, ns, rfl, _⟩ := h
    rfl
  · obtain ⟨l, ns, rfl, hS, hn63, tab, k⟩ := h
    have hu := hu_of hr
    refine ⟨_, (C8.pss_cut (ps_if (PW.pt (pw_and (pt_cmpR (oNeD (K := K) rfl hr.units) (pv 0) (pe_lst pa_nil) (nomark _)) (pw_and1 (pt_not (pt_val (pe_d0 C.chain (hr.mono (by decide)) rfl (pa_cons (pe_op op_mod (pe_op op_fdiv (pe_ix (ixL (K := K) rfl) (pv 0) pe_int (fun _ _ => rfl)) pe_int) pe_int) (pa_cons (pe_op op_add pe_int (pe_op op_mod (pe_op op_fdiv (pe_ix (ixL (K := K) rfl) (pv 0) pe_int (fun _ _ => rfl)) pe_int) pe_int)) pa_nil))))))))
  (pss_one (ps_ret pe_bl))
  pss_nil)
  (pss_cons (ps_set (i := 1) sclaw.nd rfl (Or.inr rfl) (pe_mk0 C.mk_Pile (hr.mono (by decide)) rfl))
  (pss_cons (ps_set (i := 2) sclaw.nd rfl (Or.inr rfl) pe_dnewK)
  (pss_cons (ps_set (i := 3) sclaw.nd rfl (Or.inl rfl) pe_dnewK)
  (pss_cons (ps_set (i := 4) sclaw.nd rfl (Or.inl rfl) pe_int)
  (pss_cons (ps_for (passes_of rfl) rfl (pi_list (pe_slice sl_list (pv 0) po_none (po_some pe_int))) (pg_name (i := 5) sclaw.nd rfl (Or.inl rfl))
  (pss_cons (ps_if (pt_not (pt_val (pe_d0 C.stepL (hr.mono (by decide)) rfl (pa_cons (pv 1) (pa_cons (pv 2) (pa_cons (pv 3) (pa_cons (pv 4) (pa_cons (pv 5) pa_nil))))))))
  (pss_one (ps_ret pe_bl))
  pss_nil)
  (pss_cons (ps_set (i := 4) sclaw.nd rfl (Or.inl rfl) (pe_callB (cMax (K := K) rfl rfl) (by rfl) T.max (by decide +kernel) (pa_cons (pe_op op_cat (pe_lst (pa_cons (pv 4) pa_nil)) (pe_callTy (call_list_dK rfl) (by rfl) T.list PyProof.Rows.boot_list (pa_cons (pv 2) pa_nil))) pa_nil)))
  (pss_cons (ps_if (pt_not (pt_val (pe_d0 C.asDue (hr.mono (by decide)) rfl (pa_cons (pv 1) (pa_cons (pv 2) (pa_cons (pv 3) (pa_cons (pv 4) pa_nil)))))))
  (pss_one (ps_ret pe_bl))
  pss_nil)
  (pss_one (ps_for (passes_of rfl) rfl (pi_list (pe_slice sl_list (pe_callB (cr_sortedDIA rfl) (by rfl) T.sorted boot_sorted (pa_cons (pv 2) pa_nil)) (po_some (pe_un un_neg pe_int)) po_none)) (pg_name (i := 6) sclaw.nd rfl (Or.inl rfl))
  (pss_cons (ps_set (i := 7) sclaw.nd rfl (Or.inl rfl) (pe_mm (pv 1) T.cl_Pile C.plContent (hr.mono (by decide)) (pa_cons (pv 6) pa_nil)))
  (pss_cons (ps_if (pt_not (pt_val (pe_d0 C.alike (hr.mono (by decide)) rfl (pa_cons (pv 7) (pa_cons (pe_dget hu (pv 2) (pv 6) (fun _ _ => rfl)) pa_nil)))))
  (pss_one (ps_ret pe_bl))
  pss_nil)
  (pss_one (ps_if (pt_cmpR op_eq (pe_ix (ixT (K := K) rfl) (pe_dget hu (pv 2) (pv 6) (fun _ _ => rfl)) pe_int (fun _ _ => rfl)) pe_str (nomark _))
  (pss_one (ps_expr (pe_bm PySem.F.plainAttrs_list PySem.F.slot_list_append PySem.F.type_list_append mt_append (pe_ix (ixT (K := K) rfl) (pv 7) pe_int (fun _ _ => rfl)) (pa_cons (pe_tup (pa_cons pe_str (pa_cons pe_int pa_nil))) pa_nil))))
  pss_nil))))))))))
  (pss_one (ps_ret (pe_callB (cAll (K := K) rfl rfl) (by rfl) T.all boot_all (pa_cons (pe_lc (own := [("_law_box", 6)]) (g := gName 6) (tt := tYes) rfl sclaw.nd (pi_list (pe_callB (cr_sortedDIA rfl) (by rfl) T.sorted boot_sorted (pa_cons (pv 2) pa_nil))) (blkOk_by (N := ["_law_script", "_law_pile", "_law_inside", "_law_counts", "_law_made", "_law_cell", "_law_box", "_law_told"]) (sc := defScope slaw) (by decide +kernel)) (fun _ _ _ _ _ => pg_name (i := 6) sclaw.nd rfl (Or.inl rfl)) (fun _ _ _ _ _ => pts_nil) (fun _ _ _ _ _ => (pe_d0 C.alike (hr.mono (by decide)) rfl (pa_cons (pe_mm (pv 1) T.cl_Pile C.plContent (hr.mono (by decide)) (pa_cons (pv 6) pa_nil)) (pa_cons (pe_dget hu (pv 2) (pv 6) (fun _ _ => rfl)) pa_nil))))) pa_nil)))))))))), ?_⟩
    repeat walk_at "sx"
    refine st_cut (fun σ' H' => σ' = [some (.ref l), none, none, none, none, none, none, none] ∧ Gr H H') ?_ ?_
    · repeat walk_at "sx"
      refine ⟨by show 0 ≤ sizeLine; decide, ?_⟩
      walk_at "new"; rename_i l0 hl0 H1 g1 e1
      repeat walk_at "sx"
      refine st_neI (xs := ns) (ys := []) (g1.l hS) (.of e1) ?_
      cases ns with
      | nil =>
        rw [decide_eq_true rfl]
        repeat walk_at "sx"
        exact ⟨rfl, g1⟩
      | cons n ns =>
        rw [decide_eq_false (by simp)]
        repeat walk_at "sx"
        refine st_ixL (g1.l hS) (atI_nat (j := 0) rfl) ?_
        repeat walk_at "sx"
        refine st_I ⟨by decide, by decide⟩ ?_
        repeat walk_at "sx"
        refine st_I (by show (0 : Int) < 61; decide) ?_
        repeat walk_at "sx"
        refine st_ixL (g1.l hS) (atI_nat (j := 0) rfl) ?_
        repeat walk_at "sx"
        refine st_I ⟨by decide, by decide⟩ ?_
        repeat walk_at "sx"
        refine st_I (by show (0 : Int) < 3; decide) ?_
        repeat walk_at "sx"
        obtain ⟨a, ea, ha⟩ := nat_emod (n / 7) 61 61 rfl (by decide)
        obtain ⟨m, em, hm⟩ := nat_emod (n / 427) 3 3 rfl (by decide)
        refine ⟨a, 1 + m, by rw [ea, em, Int.natCast_add] <;> rfl, by omega, by omega, by omega, g1.tab _ tab, fun H2 g2 => ?_⟩
        repeat walk_at "sx"
        exact ⟨rfl, g1.trans g2⟩
    · rintro σ' H0 ⟨rfl, g0⟩
      repeat walk_at "sx"
      refine st_newPile ?_
      intro A H1 hfree g1 pl1
      repeat walk_at "sx"
      refine st_dnewK ?_
      walk_at "new"; rename_i i hi H2 g2 e2
      repeat walk_at "sx"
      refine st_dnewK ?_
      walk_at "new"; rename_i c hc H3 g3 e3
      have nic : i ≠ c := fun z => by rw [z, hc] at e2; cases e2
      have pl3 := (pl1.gr g2).gr g3
      have ap : Apart A i c := by
        obtain ⟨kc, kn, kr, k1, k2, k3, _⟩ := pl1.dcts
        have no : ∀ {b : Addr} {o : HO}, H1 b = some o → b ≠ i ∧ b ≠ c := fun e => ⟨fun z => (by rw [z, hi] at e; cases e), fun z => (by rw [z, g2.free hc] at e; cases e)⟩
        refine ⟨fun z => ?_, fun z => ?_⟩
        · rcases z with z | z | z | z
          · exact (no pl1.ins).1 z.symm
          · exact (no k1).1 z.symm
          · exact (no k2).1 z.symm
          · exact (no k3).1 z.symm
        · rcases z with z | z | z | z
          · exact (no pl1.ins).2 z.symm
          · exact (no k1).2 z.symm
          · exact (no k2).2 z.symm
          · exact (no k3).2 z.symm
      have ld3 : LD K H3 i c PS.empty := ⟨⟨[], [], g3.dK e2, e3, LDk.empty K H3⟩, nic⟩
      have g03 := ((g0.trans g1).trans g2).trans g3
      repeat walk_at "sx"
      refine st_slL (g03.l hS) ?_
      obtain ⟨cs, ecs, hcl, _⟩ := cut_ints ns none (some 40)
      rw [ecs]
      walk_at "new"; rename_i q hq H4 g4 e4
      have g04 := g03.trans g4
      repeat walk_at "sx"
      refine st_exL (.of e4) ?_
      refine st_loop (m := (cs.map V.int).length) (Y := fun i x => (cs.map V.int)[i]? = some x) (G := fun H' => SqL K H' q (cs.map V.int)) walk_list
        (fun a σ H' => ∃ (S : PS) (v5 v6 v7 : Option V), σ = [some (.ref l), some (.ref A.p), some (.ref i), some (.ref c), some (.int (S.made : Int)), v5, v6, v7] ∧ Gx (F3 A i c) H4 H' ∧ PileAt K C_Pile H' A S ∧ LD K H' i c S ∧ S.made ≤ a)
        ⟨_, none, none, none, rfl, Gx.refl _, pl3.gr g4, ld3.gr g4, Nat.le_refl _⟩ (fun a σ H' _ ⟨S, v5, v6, v7, e, gx, _⟩ => gx.l (.of e4)) ?_ ?_
      · rintro a x σ H5 ha ⟨S, v5, v6, v7, rfl, gx5, pl5, ld5, hmade⟩ hx
        rw [List.length_map] at ha
        rw [List.getElem?_map] at hx
        obtain ⟨n, en, rfl⟩ := Option.map_eq_some_iff.mp hx
        repeat walk_at "sx"
        refine ⟨A, i, c, S, n, rfl, pl5, ld5, ap, by omega, gx5.tab _ (g04.tab _ tab), fun S' H6 g6 pl6 ld6 hm6 => ?_⟩
        obtain ⟨kI, kC, c1, c2, d⟩ := ld6.d
        obtain ⟨ks, hk, hn⟩ := d.ks
        have big := d.ok.big
        have hlk : ks.length ≤ 3000 := by
          have e := congrArg List.length hk
          rw [List.length_map, List.length_map] at e
          have := d.lI
          omega
        have hdom : ∀ z ∈ ks, 1 ≤ z ∧ z ≤ S'.made := fun z hz => by
          obtain ⟨x, ex⟩ := Option.isSome_iff_exists.mp ((d.mem hk z).mp hz)
          exact d.ok.dom _ _ ex
        repeat walk_at "sx"
        refine ⟨by show 1 ≤ sizeLine; decide, ?_⟩
        walk_at "new"; rename_i l7 hl7 H7 g7 e7
        repeat walk_at "sx"
        refine ⟨i, kI, rfl, g7.dK c1, ?_⟩
        rw [keysV hk]
        walk_at "new"; rename_i l8 hl8 H8 g8 e8
        repeat walk_at "sx"
        refine st_cat (g8.lst e7) e8 (by rw [List.length_map, sizeLine_eq]; show 1 + ks.length ≤ 16777216; omega) ?_
        walk_at "new"; rename_i l9 hl9 H9 g9 e9
        repeat walk_at "sx"
        refine ⟨l9, (S.made : Int) :: ks, rfl, .of e9, by simp, fun mm hmm hle => ?_⟩
        have emm : mm = (S'.made : Int) := by
          have h1 := hle _ List.mem_cons_self
          rcases List.mem_cons.mp hmm with rfl | hz
          · rcases hm6 with h | ⟨h, h2⟩
            · rw [h]
            · have := hle _ (List.mem_cons_of_mem _ ((d.mem hk _).mpr h2))
              omega
          · have := hdom _ hz
            rcases hm6 with h | ⟨h, h2⟩
            · omega
            · have := hle _ (List.mem_cons_of_mem _ ((d.mem hk _).mpr h2))
              omega
        rw [emm]
        have g69 := (g7.trans g8).trans g9
        repeat walk_at "sx"
        refine ⟨A, i, c, S', rfl, pl6.gr g69, ld6.gr g69, fun Ha ga => ?_⟩
        have g6a := g69.trans ga
        repeat walk_at "sx"
        refine ⟨i, kI, ks, rfl, .inl (g6a.dK c1), hk, by omega, fun ys p hp hs hpn => ?_⟩
        generalize hHb : upd Ha p _ = Hb
        have gb : Gr Ha Hb := gr_of hpn hHb
        have eb := at_of hHb
        repeat walk_at "sx"
        refine ⟨1, rfl, ?_⟩
        repeat walk_at "sx"
        refine st_slL (.of eb) ?_
        obtain ⟨zs, ezs, hzl, hzin⟩ := cut_ints ys (some (-1)) none
        rw [ezs]
        walk_at "new"; rename_i r hr0 Hc gc ec
        have g6c := (g6a.trans gb).trans gc
        repeat walk_at "sx"
        refine st_exL (.of ec) ?_
        refine st_loop (m := (zs.map V.int).length) (Y := fun i x => (zs.map V.int)[i]? = some x) (G := fun H' => SqL K H' r (zs.map V.int)) walk_list
          (fun _ σ H' => ∃ (v5 v6 v7 : Option V), σ = [some (.ref l), some (.ref A.p), some (.ref i), some (.ref c), some (.int (S'.made : Int)), v5, v6, v7] ∧ Gr Hc H')
          ⟨_, _, _, rfl, Gr.refl _⟩ (fun a σ H' _ ⟨v5, v6, v7, e, gx⟩ => gx.l (.of ec)) ?_ ?_
        · rintro a' x σ Hd _ ⟨v5, v6, v7, rfl, gd⟩ hx
          rw [List.getElem?_map] at hx
          obtain ⟨z, ez, rfl⟩ := Option.map_eq_some_iff.mp hx
          obtain ⟨x, ex⟩ := Option.isSome_iff_exists.mp ((d.mem hk z).mp (hp.mem_iff.mp (hzin z (List.mem_of_getElem? ez))))
          obtain ⟨b, cc⟩ := x
          have g6d := g6c.trans gd
          have pld := pl6.gr g6d
          repeat walk_at "sx"
          refine pld.fm (by decide +kernel) (by decide +kernel) (by decide +kernel) (by decide +kernel) ?_
          repeat walk_at "sx"
          refine ⟨A, _, .int z, rfl, pld, .inl ⟨z, rfl, fun b' c' e' => fun t He ht ge told tlist => ?_, fun e' => by rw [ex] at e'; cases e'⟩⟩
          rw [ex] at e'
          cases e'
          have hI := (d.gx (F := fun _ => False) (Gx.of (g6d.trans ge))).vI z
          rw [ex] at hI
          obtain ⟨t2, et2, told2⟩ := hI
          repeat walk_at "sx"
          walk_at "dx"
          repeat walk_at "sx"
          refine lf_dget (k := .inl z) (ge.dK (g6d.dK c1)) et2 ?_
          repeat walk_at "sx"
          refine ⟨t, t2, _, rfl, told, told2, d.low _ _ ex, d.ok.len _ _ ex, fun Hf gf => ?_⟩
          repeat walk_at "sx"
          walk_at "dx"
          repeat walk_at "sx"
          refine lf_dget (k := .inl z) (gf.dK (ge.dK (g6d.dK c1))) et2 ?_
          repeat walk_at "sx"
          have gdf := (gd.trans ge).trans gf
          cases b with
          | leaf m =>
            refine st_ixT (.of (gf.tup told2)) (atI_nat (j := 0) rfl) ?_
            repeat walk_at "sx"
            rw [leaf_branch]
            repeat walk_at "sx"
            exact ⟨_, _, _, rfl, gdf⟩
          | branch rs =>
            obtain ⟨la, usa, a1, a2, a3⟩ := told2
            obtain ⟨lb, usb, b1, b2, b3⟩ := told
            have hlb := tlist lb usb rs rfl b1 b2
            have hrs : rs.length ≤ 5000 := d.ok.len _ _ ex
            refine st_ixT (.of (gf.tup a1)) (atI_nat (j := 0) rfl) ?_
            repeat walk_at "sx"
            refine st_ixT (.of (gf.tup b1)) (atI_nat (j := 1) rfl) ?_
            refine st_tyL (.of (gf.lst b2)) ?_
            repeat walk_at "sx"
            refine ⟨by show 2 ≤ sizeLine; decide, ?_⟩
            walk_at "new"; rename_i t9 ht9 Hg gg eg
            repeat walk_at "sx"
            refine st_append (gg.lst (gf.lst b2)) (sz_lt (by rw [b3.len]; omega)) ?_
            repeat walk_at "sx"
            exact ⟨_, _, _, rfl, (gdf.trans gg).mut (gd.free hlb)⟩
        · rintro σ Hd ⟨v5, v6, v7, rfl, gd⟩
          repeat walk_at "sx"
          have g6d := g6c.trans gd
          refine ⟨S', _, _, _, rfl, (gx5.trans g6).then g6d, pl6.gr g6d, ld6.gr g6d, by omega⟩
      · rintro σ H5 ⟨S, v5, v6, v7, rfl, gx5, pl5, ld5, hmade⟩
        obtain ⟨kI, kC, c1, c2, d⟩ := ld5.d
        obtain ⟨ks, hk, hn⟩ := d.ks
        have big := d.ok.big
        have hlk : ks.length ≤ 3000 := by
          have e := congrArg List.length hk
          rw [List.length_map, List.length_map] at e
          have := d.lI
          omega
        repeat walk_at "sx"
        refine ⟨i, kI, ks, rfl, .inl c1, hk, by omega, fun ys p hp hs hpn => ?_⟩
        generalize hH6 : upd H5 p _ = H6
        have g6 : Gr H5 H6 := gr_of hpn hH6
        have e6 := at_of hH6
        have hly : ys.length ≤ 3000 := by rw [hp.length_eq]; exact hlk
        repeat walk_at "sx"
        refine st_exL (.of e6) ?_
        refine lc_l (fun _ => .bl true) (.of e6) (fun j x H7 hx g7 Qy qq => ?_) (fun D H7 hD g7 e7 => ?_) (by rw [List.length_map]; omega)
        · rw [List.getElem?_map] at hx
          obtain ⟨z, ez, rfl⟩ := Option.map_eq_some_iff.mp hx
          obtain ⟨x, ex⟩ := Option.isSome_iff_exists.mp ((d.mem hk z).mp (hp.mem_iff.mp (List.mem_of_getElem? ez)))
          obtain ⟨b, cc⟩ := x
          have pl7 := (pl5.gr g6).gr g7
          repeat walk_at "sx"
          refine pl7.fm (by decide +kernel) (by decide +kernel) (by decide +kernel) (by decide +kernel) ?_
          repeat walk_at "sx"
          refine ⟨A, _, .int z, rfl, pl7, .inl ⟨z, rfl, fun b' c' e' => fun t H8 ht g8 told _ => ?_, fun e' => by rw [ex] at e'; cases e'⟩⟩
          rw [ex] at e'
          cases e'
          have hI := (d.gx (F := fun _ => False) (Gx.of ((g6.trans g7).trans g8))).vI z
          rw [ex] at hI
          obtain ⟨t2, et2, told2⟩ := hI
          repeat walk_at "sx"
          walk_at "dx"
          repeat walk_at "sx"
          refine lf_dget (k := .inl z) (g8.dK (g7.dK (g6.dK c1))) et2 ?_
          repeat walk_at "sx"
          exact ⟨t, t2, _, rfl, told, told2, d.low _ _ ex, d.ok.len _ _ ex, fun H9 g9 => qq _ (g8.trans g9)⟩
        · repeat walk_at "sx"
          refine st_all (bs := ys.map fun _ => true) (SqL.of (by rw [e7, List.map_map, List.map_map] <;> rfl)) ?_
          rw [show (ys.map fun _ => true).all id = true by rw [List.all_eq_true]; intro b hb; obtain ⟨_, _, rfl⟩ := List.mem_map.mp hb; rfl]
          exact k _
end
theorem walk_tabs {l : PySem.W.OpenLaw} {n k : Nat} {q : Program} {loose : List Str} {XP : (Str → Option Value) → Heap → Prop} {YP : World → Heap → Prop} {d : DefRec} {K : Params → PySem.W.Frag} {CX : World → CXT} {x : Str} {ts : List Addr}
    (hn : l.most = some n) (hn2 : n ≤ sizeLine) (hdf : d.params.defaults = []) (hr : Room k callerA) (hY : ∀ (w : World) (h : Heap), YP w h → (K w.params).In h ∧ ∀ P ∈ ts, h.get? P = some (PySem.W.tabObj #[]))
    (F : ∀ (w : World) (mg : Str → Option Value) (fa : Addr) (h : Heap), (K w.params).In h → h.Ns mainGlobals mg → mg d.name = some (.ref fa) → (∀ P ∈ ts, h.get? P = some (PySem.W.tabObj #[])) → LamX.LawAtS l w (K w.params) (CX w) k n x mg fa h)
    (hCX : ∀ (w : World) (H : Hp) (s : Shared) (e : Value) (s' : Shared), CX w [] H s (fun _ _ _ => False) e s' → False) : PySem.W.WalkO q loose XP YP l.row.toRowW d [] (fun f vs => PySem.call f vs) := by
  refine Att.attach_callB hn hdf fun w s₀ s₁ mg mb fa o pm cd doc a vs ns G Y ho hd hcd hmg hobj hints hlen hbits hg => ?_
  obtain ⟨fd, cs, sp, hT, nT, C, hb, hsp, hF⟩ := F w mg fa _ (hY w _ Y).1 G.T.g hmg (hY w _ Y).2
  exact LamX.law_callTs (hY w _ Y).1 G.T.g G.T.b G.T.builtins G.T.nolimit hg hT nT C G.T.bmain hobj hints (Nat.le_trans hlen hn2) hr hF hb (fun H hH hS => hsp H a ns hlen hbits hH hS) fun H e s' => hCX w H s₁ e s'
theorem all_mk {l : PySem.W.OpenLaw} {w : World} {K : PySem.W.Frag} {h : Heap} {mg : Str → Option Value} {fa C_Pile E_NoBox f0 f1 f2 f3 f4 f5 f6 f7 f8 f9 f10 f11 f12 f13 f14 f15 f16 f17 f18 f19 f20 f21 f22 Cd_branch Pt_branch : Addr} (X : K.In h) (G : h.Ns mainGlobals mg) (hfa : mg "law" = some (.ref fa))
    {od0 an0 od1 an1 od2 an2 od3 an3 od4 an4 od5 an5 od6 an6 od7 an7 od8 an8 od9 an9 od10 an10 od11 an11 od12 an12 od13 an13 od14 an14 od15 an15 od16 an16 od17 an17 od18 an18 od19 an19 od20 an20 od21 an21 od22 an22 : Option Addr} {sl0 sl1 sl2 sl3 sl4 sl5 sl6 sl7 sl8 sl9 sl10 sl11 sl12 sl13 sl14 sl15 sl16 sl17 sl18 sl19 sl20 sl21 sl22 : Array (Option Value)} {oc0 kV0 dc0 pm0 ct0 cd0 oc1 kV1 dc1 pm1 ct1 cd1 oc2 kV2 dc2 pm2 ct2 cd2 oc3 kV3 dc3 pm3 ct3 oc4 kV4 dc4 pm4 ct4 cd4 oc5 kV5 dc5 pm5 ct5 cd5 oc6 kV6 dc6 pm6 ct6 cd6 oc7 kV7 dc7 pm7 ct7 cd7 oc8 kV8 dc8 pm8 ct8 cd8 oc9 kV9 dc9 pm9 ct9 cd9 oc10 kV10 dc10 pm10 ct10 cd10 oc11 kV11 dc11 pm11 ct11 cd11 oc12 kV12 dc12 pm12 ct12 cd12 oc13 kV13 dc13 pm13 ct13 cd13 oc14 kV14 dc14 pm14 ct14 cd14 oc15 kV15 dc15 pm15 ct15 cd15 oc16 kV16 dc16 pm16 ct16 cd16 oc17 kV17 dc17 pm17 ct17 cd17 oc18 kV18 dc18 pm18 ct18 cd18 oc19 kV19 dc19 pm19 ct19 cd19 oc20 kV20 dc20 pm20 ct20 cd20 oc21 kV21 dc21 pm21 ct21 cd21 oc22 kV22 dc22 pm22 ct22 cd22 : Value}
    (aC_Pile : PySem.W.nsIn K mainGlobals "Pile" = some (some (.ref C_Pile)))
    (a0 : PySem.W.nsIn K mainGlobals "is_whole" = some (some (.ref f0))) (l0 : K.lookup f0 = some ⟨oc0, od0, .func (PySem.W.fnOf "is_whole" "is_whole" (defArgs sisWhole) (defBody sisWhole) (defScope sisWhole) .none kV0 dc0 pm0 an0 cd0 ct0), sl0⟩) (c0 : PySem.W.codeIn K cd0 "is_whole" = true) (k0 : PySem.W.keepIn K (.ref f0) = true)
    (a1 : PySem.W.findIn K (.ref C_Pile) "__init__" = some (some (.ref f1))) (i1 : PySem.W.isFn K (.ref f1) = true) (l1 : K.lookup f1 = some ⟨oc1, od1, .func (PySem.W.fnOf "__init__" "Pile.__init__" (defArgs splInit) (defBody splInit) (defScope splInit) .none kV1 dc1 pm1 an1 cd1 ct1), sl1⟩) (c1 : PySem.W.codeIn K cd1 "Pile.__init__" = true) (k1 : PySem.W.keepIn K (.ref f1) = true)
    (a2 : PySem.W.findIn K (.ref C_Pile) "leaf" = some (some (.ref f2))) (i2 : PySem.W.isFn K (.ref f2) = true) (l2 : K.lookup f2 = some ⟨oc2, od2, .func (PySem.W.fnOf "leaf" "Pile.leaf" (defArgs splLeaf) (defBody splLeaf) (defScope splLeaf) .none kV2 dc2 pm2 an2 cd2 ct2), sl2⟩) (c2 : PySem.W.codeIn K cd2 "Pile.leaf" = true) (k2 : PySem.W.keepIn K (.ref f2) = true)
    (a3 : PySem.W.findIn K (.ref C_Pile) "branch" = some (some (.ref f3))) (i3 : PySem.W.isFn K (.ref f3) = true) (l3 : K.lookup f3 = some ⟨oc3, od3, .func (PySem.W.fnOf "branch" "Pile.branch" (defArgs splBranch) (defBody splBranch) (defScope splBranch) .none kV3 dc3 pm3 an3 (.ref Cd_branch) ct3), sl3⟩) (c3 : PySem.W.codeIn K (.ref Cd_branch) "Pile.branch" = true) (k3 : PySem.W.keepIn K (.ref f3) = true)
    (a4 : PySem.W.findIn K (.ref C_Pile) "content" = some (some (.ref f4))) (i4 : PySem.W.isFn K (.ref f4) = true) (l4 : K.lookup f4 = some ⟨oc4, od4, .func (PySem.W.fnOf "content" "Pile.content" (defArgs splContent) (defBody splContent) (defScope splContent) .none kV4 dc4 pm4 an4 cd4 ct4), sl4⟩) (c4 : PySem.W.codeIn K cd4 "Pile.content" = true) (k4 : PySem.W.keepIn K (.ref f4) = true)
    (a5 : PySem.W.findIn K (.ref C_Pile) "hold" = some (some (.ref f5))) (i5 : PySem.W.isFn K (.ref f5) = true) (l5 : K.lookup f5 = some ⟨oc5, od5, .func (PySem.W.fnOf "hold" "Pile.hold" (defArgs splHold) (defBody splHold) (defScope splHold) .none kV5 dc5 pm5 an5 cd5 ct5), sl5⟩) (c5 : PySem.W.codeIn K cd5 "Pile.hold" = true) (k5 : PySem.W.keepIn K (.ref f5) = true)
    (a6 : PySem.W.findIn K (.ref C_Pile) "holders" = some (some (.ref f6))) (i6 : PySem.W.isFn K (.ref f6) = true) (l6 : K.lookup f6 = some ⟨oc6, od6, .func (PySem.W.fnOf "holders" "Pile.holders" (defArgs splHolders) (defBody splHolders) (defScope splHolders) .none kV6 dc6 pm6 an6 cd6 ct6), sl6⟩) (c6 : PySem.W.codeIn K cd6 "Pile.holders" = true) (k6 : PySem.W.keepIn K (.ref f6) = true)
    (a7 : PySem.W.findIn K (.ref C_Pile) "let_go" = some (some (.ref f7))) (i7 : PySem.W.isFn K (.ref f7) = true) (l7 : K.lookup f7 = some ⟨oc7, od7, .func (PySem.W.fnOf "let_go" "Pile.let_go" (defArgs splLetGo) (defBody splLetGo) (defScope splLetGo) .none kV7 dc7 pm7 an7 cd7 ct7), sl7⟩) (c7 : PySem.W.codeIn K cd7 "Pile.let_go" = true) (k7 : PySem.W.keepIn K (.ref f7) = true)
    (a8 : PySem.W.findIn K (.ref C_Pile) "kept" = some (some (.ref f8))) (i8 : PySem.W.isFn K (.ref f8) = true) (l8 : K.lookup f8 = some ⟨oc8, od8, .func (PySem.W.fnOf "kept" "Pile.kept" (defArgs splKept) (defBody splKept) (defScope splKept) .none kV8 dc8 pm8 an8 cd8 ct8), sl8⟩) (c8 : PySem.W.codeIn K cd8 "Pile.kept" = true) (k8 : PySem.W.keepIn K (.ref f8) = true)
    (a9 : PySem.W.findIn K (.ref C_Pile) "_next_box" = some (some (.ref f9))) (i9 : PySem.W.isFn K (.ref f9) = true) (l9 : K.lookup f9 = some ⟨oc9, od9, .func (PySem.W.fnOf "_next_box" "Pile._next_box" (defArgs splNext) (defBody splNext) (defScope splNext) .none kV9 dc9 pm9 an9 cd9 ct9), sl9⟩) (c9 : PySem.W.codeIn K cd9 "Pile._next_box" = true) (k9 : PySem.W.keepIn K (.ref f9) = true)
    (a10 : PySem.W.findIn K (.ref C_Pile) "_refuse_unless_there" = some (some (.ref f10))) (i10 : PySem.W.isFn K (.ref f10) = true) (l10 : K.lookup f10 = some ⟨oc10, od10, .func (PySem.W.fnOf "_refuse_unless_there" "Pile._refuse_unless_there" (defArgs splRefuse) (defBody splRefuse) (defScope splRefuse) .none kV10 dc10 pm10 an10 cd10 ct10), sl10⟩) (c10 : PySem.W.codeIn K cd10 "Pile._refuse_unless_there" = true) (k10 : PySem.W.keepIn K (.ref f10) = true)
    (a11 : PySem.W.findIn K (.ref C_Pile) "_lowered" = some (some (.ref f11))) (i11 : PySem.W.isFn K (.ref f11) = true) (l11 : K.lookup f11 = some ⟨oc11, od11, .func (PySem.W.fnOf "_lowered" "Pile._lowered" (defArgs splLowered) (defBody splLowered) (defScope splLowered) .none kV11 dc11 pm11 an11 cd11 ct11), sl11⟩) (c11 : PySem.W.codeIn K cd11 "Pile._lowered" = true) (k11 : PySem.W.keepIn K (.ref f11) = true)
    (a12 : PySem.W.findIn K (.ref C_Pile) "_taken_away" = some (some (.ref f12))) (i12 : PySem.W.isFn K (.ref f12) = true) (l12 : K.lookup f12 = some ⟨oc12, od12, .func (PySem.W.fnOf "_taken_away" "Pile._taken_away" (defArgs splTaken) (defBody splTaken) (defScope splTaken) .none kV12 dc12 pm12 an12 cd12 ct12), sl12⟩) (c12 : PySem.W.codeIn K cd12 "Pile._taken_away" = true) (k12 : PySem.W.keepIn K (.ref f12) = true)
    (a13 : PySem.W.nsIn K mainGlobals "_law_whole" = some (some (.ref f13))) (l13 : K.lookup f13 = some ⟨oc13, od13, .func (PySem.W.fnOf "_law_whole" "_law_whole" (defArgs swhole) (defBody swhole) (defScope swhole) .none kV13 dc13 pm13 an13 cd13 ct13), sl13⟩) (c13 : PySem.W.codeIn K cd13 "_law_whole" = true) (k13 : PySem.W.keepIn K (.ref f13) = true)
    (a14 : PySem.W.nsIn K mainGlobals "_law_count" = some (some (.ref f14))) (l14 : K.lookup f14 = some ⟨oc14, od14, .func (PySem.W.fnOf "_law_count" "_law_count" (defArgs scount) (defBody scount) (defScope scount) .none kV14 dc14 pm14 an14 cd14 ct14), sl14⟩) (c14 : PySem.W.codeIn K cd14 "_law_count" = true) (k14 : PySem.W.keepIn K (.ref f14) = true)
    (a15 : PySem.W.nsIn K mainGlobals "_law_rows_by" = some (some (.ref f15))) (l15 : K.lookup f15 = some ⟨oc15, od15, .func (PySem.W.fnOf "_law_rows_by" "_law_rows_by" (defArgs srowsBy) (defBody srowsBy) (defScope srowsBy) .none kV15 dc15 pm15 an15 cd15 ct15), sl15⟩) (c15 : PySem.W.codeIn K cd15 "_law_rows_by" = true) (k15 : PySem.W.keepIn K (.ref f15) = true)
    (a16 : PySem.W.nsIn K mainGlobals "_law_alike" = some (some (.ref f16))) (l16 : K.lookup f16 = some ⟨oc16, od16, .func (PySem.W.fnOf "_law_alike" "_law_alike" (defArgs salike) (defBody salike) (defScope salike) .none kV16 dc16 pm16 an16 cd16 ct16), sl16⟩) (c16 : PySem.W.codeIn K cd16 "_law_alike" = true) (k16 : PySem.W.keepIn K (.ref f16) = true)
    (a17 : PySem.W.nsIn K mainGlobals "_law_gone" = some (some (.ref f17))) (l17 : K.lookup f17 = some ⟨oc17, od17, .func (PySem.W.fnOf "_law_gone" "_law_gone" (defArgs sgoneL) (defBody sgoneL) (defScope sgoneL) .none kV17 dc17 pm17 an17 cd17 ct17), sl17⟩) (c17 : PySem.W.codeIn K cd17 "_law_gone" = true) (k17 : PySem.W.keepIn K (.ref f17) = true)
    (a18 : PySem.W.nsIn K mainGlobals "_law_refused" = some (some (.ref f18))) (l18 : K.lookup f18 = some ⟨oc18, od18, .func (PySem.W.fnOf "_law_refused" "_law_refused" (defArgs srefusedL) (defBody srefusedL) (defScope srefusedL) .none kV18 dc18 pm18 an18 cd18 ct18), sl18⟩) (c18 : PySem.W.codeIn K cd18 "_law_refused" = true) (k18 : PySem.W.keepIn K (.ref f18) = true)
    (a19 : PySem.W.nsIn K mainGlobals "_law_as_due" = some (some (.ref f19))) (l19 : K.lookup f19 = some ⟨oc19, od19, .func (PySem.W.fnOf "_law_as_due" "_law_as_due" (defArgs sasDue) (defBody sasDue) (defScope sasDue) .none kV19 dc19 pm19 an19 cd19 ct19), sl19⟩) (c19 : PySem.W.codeIn K cd19 "_law_as_due" = true) (k19 : PySem.W.keepIn K (.ref f19) = true)
    (a20 : PySem.W.nsIn K mainGlobals "_law_step" = some (some (.ref f20))) (l20 : K.lookup f20 = some ⟨oc20, od20, .func (PySem.W.fnOf "_law_step" "_law_step" (defArgs sstepL) (defBody sstepL) (defScope sstepL) .none kV20 dc20 pm20 an20 cd20 ct20), sl20⟩) (c20 : PySem.W.codeIn K cd20 "_law_step" = true) (k20 : PySem.W.keepIn K (.ref f20) = true)
    (a21 : PySem.W.nsIn K mainGlobals "_law_chain" = some (some (.ref f21))) (l21 : K.lookup f21 = some ⟨oc21, od21, .func (PySem.W.fnOf "_law_chain" "_law_chain" (defArgs schain) (defBody schain) (defScope schain) .none kV21 dc21 pm21 an21 cd21 ct21), sl21⟩) (c21 : PySem.W.codeIn K cd21 "_law_chain" = true) (k21 : PySem.W.keepIn K (.ref f21) = true)
    (a22 : PySem.W.nsIn K mainGlobals "law" = some (some (.ref f22))) (l22 : K.lookup f22 = some ⟨oc22, od22, .func (PySem.W.fnOf "law" "law" (defArgs slaw) (defBody slaw) (defScope slaw) .none kV22 dc22 pm22 an22 cd22 ct22), sl22⟩) (c22 : PySem.W.codeIn K cd22 "law" = true) (k22 : PySem.W.keepIn K (.ref f22) = true)
    (pg_Pile : PySem.W.plainGet K C_Pile Str.empty = true) (hd_Pile : PySem.W.hasDictIn K C_Pile = true) (po_Pile : PySem.W.plainOver K C_Pile = true) (sa_Pile : PySem.W.findIn K (.ref C_Pile) "__setattr__" = some (some (.builtin "object.__setattr__"))) (mk_Pile : PySem.W.makesIn K C_Pile = true) (kc_Pile : PySem.W.keepIn K (.ref C_Pile) = true)
    (n_Pile_made : PySem.W.findIn K (.ref C_Pile) "made" = some none) (n_Pile__counts : PySem.W.findIn K (.ref C_Pile) "_counts" = some none) (n_Pile__numbers : PySem.W.findIn K (.ref C_Pile) "_numbers" = some none) (n_Pile__rows : PySem.W.findIn K (.ref C_Pile) "_rows" = some none)
    (z_len : PySem.W.nsIn K mainGlobals "len" = some none) (z_isinstance : PySem.W.nsIn K mainGlobals "isinstance" = some none) (z_range : PySem.W.nsIn K mainGlobals "range" = some none) (z_sorted : PySem.W.nsIn K mainGlobals "sorted" = some none) (z_all : PySem.W.nsIn K mainGlobals "all" = some none) (z_max : PySem.W.nsIn K mainGlobals "max" = some none) (z_int : PySem.W.nsIn K mainGlobals "int" = some none) (z_bool : PySem.W.nsIn K mainGlobals "bool" = some none) (z_str : PySem.W.nsIn K mainGlobals "str" = some none) (z_list : PySem.W.nsIn K mainGlobals "list" = some none) (z_tuple : PySem.W.nsIn K mainGlobals "tuple" = some none) (z_set : PySem.W.nsIn K mainGlobals "set" = some none)
    (aE_NoBox : PySem.W.nsIn K mainGlobals "NoBox" = some (some (.ref E_NoBox))) (x_NoBox : PySem.W.excIn K E_NoBox [.type "ValueError", .type "Exception", .type "BaseException", .type "object"] "ValueError.__new__" = true) (k_NoBox : PySem.W.keepIn K (.ref E_NoBox) = true) (b_NoBox : PySem.W.subIn K (.ref E_NoBox) (.type "BaseException") = some true) (t_NoBox : PySem.W.typeIn K (.ref E_NoBox) = some (.type "type")) (s_NoBox : PySem.W.subIn K (.ref E_NoBox) (.ref E_NoBox) = some true) (g1_NoBox : PySem.W.findIn K (.ref E_NoBox) "__getattribute__" = some (some (.builtin "BaseException.__getattribute__"))) (g2_NoBox : PySem.W.findIn K (.ref E_NoBox) "__getattr__" = some none) (g3_NoBox : PySem.W.hasDictIn K E_NoBox = true) (g4_NoBox : PySem.W.findIn K (.ref E_NoBox) "__class__" = some (some (.builtin "object.__class__"))) (g7_NoBox : PySem.W.mroIn K E_NoBox (.type "object") = some true)
    (g5 : PySem.W.specialIn K (.builtin "object.__class__") "__get__" = some (some (.builtin "getset_descriptor.__get__"))) (g6 : PySem.W.takesIn K (.builtin "object.__class__") = some true)
    {ocd_branch : Value} {odd_branch : Option Addr} {vcd_branch : Array Value} {slc_branch : Array (Option Value)} (lC_branch : K.lookup Cd_branch = some ⟨ocd_branch, odd_branch, .fields vcd_branch, slc_branch⟩) (vC_branch : vcd_branch[11]? = some (.ref Pt_branch)) (nP_branch : K.lookup Pt_branch = none) (cH_branch : PySem.W.codeHdIn K Cd_branch Pt_branch = true) (hT_branch : h.get? Pt_branch = some (PySem.W.tabObj #[])) :
    LamX.LawAtS l w K (L2.CX l.prog w) 6 63 "_law_script" mg fa h := by
  have e := hfa.symm.trans (PySem.W.mg_of X G a22)
  cases e
  have T : Txt K mg C_Pile E_NoBox :=
    { len := PySem.W.mg_none_of X G z_len, isinstance := PySem.W.mg_none_of X G z_isinstance, range := PySem.W.mg_none_of X G z_range, sorted := PySem.W.mg_none_of X G z_sorted, all := PySem.W.mg_none_of X G z_all, max := PySem.W.mg_none_of X G z_max, int := PySem.W.mg_none_of X G z_int, bool := PySem.W.mg_none_of X G z_bool, str := PySem.W.mg_none_of X G z_str, list := PySem.W.mg_none_of X G z_list, tuple := PySem.W.mg_none_of X G z_tuple, set := PySem.W.mg_none_of X G z_set, cl_Pile := ⟨pg_Pile, hd_Pile, po_Pile, sa_Pile⟩, mg_Pile := PySem.W.mg_of X G aC_Pile, n_Pile_made := n_Pile_made, n_Pile__counts := n_Pile__counts, n_Pile__numbers := n_Pile__numbers, n_Pile__rows := n_Pile__rows, mg_NoBox := PySem.W.mg_of X G aE_NoBox, x_NoBox := x_NoBox, k_NoBox := k_NoBox, b_NoBox := b_NoBox, t_NoBox := t_NoBox, e_NoBox := PySem.W.exm_ref b_NoBox g3_NoBox t_NoBox s_NoBox, c_NoBox := ⟨g1_NoBox, g2_NoBox, b_NoBox, g3_NoBox, g4_NoBox, g5, g6, g7_NoBox⟩ }
  refine ⟨PySem.W.fnOf "law" "law" (defArgs slaw) (defBody slaw) (defScope slaw) .none kV22 dc22 pm22 an22 cd22 ct22, [(Cd_branch, Pt_branch)], spLaw K Pt_branch, fun p hp => ?_, fun p hp => ?_, fun p hp => ?_, fun s u => .of_eq rfl, fun H a ns hl hbits hH hS => ⟨a, ns, rfl, hS, hl, ⟨#[], hH _ List.mem_cons_self, True.intro⟩, fun _ => rfl⟩, fun base KB GB TB => ?_⟩
  · rw [List.mem_singleton.mp hp]
    exact hT_branch
  · rw [List.mem_singleton.mp hp]
    exact nP_branch
  · rw [List.mem_singleton.mp hp]
    exact PySem.W.codeHd_of_K X cH_branch
  · skip
    have tb0_branch := TB (Cd_branch, Pt_branch) (by simp)
    have tbb_branch : GxR.TabB base mg Cd_branch Pt_branch := ⟨tb0_branch.code, tb0_branch.bm, tb0_branch.gP⟩
    have F0 := fun_mk (st := sisWhole) l0 c0 k0
    have b0 := F0.binds (ps := ["thing"]) fun _ _ _ _ _ _ us hl => match us, hl with | [_], _ => rfl
    have F1 := fun_mk (st := splInit) l1 c1 k1
    have b1 := F1.binds (ps := ["self"]) fun _ _ _ _ _ _ us hl => match us, hl with | [_], _ => rfl
    have F2 := fun_mk (st := splLeaf) l2 c2 k2
    have b2 := F2.binds (ps := ["self", "number"]) fun _ _ _ _ _ _ us hl => match us, hl with | [_, _], _ => rfl
    have F3 := fun_mk (st := splBranch) l3 c3 k3
    have b3 := F3.binds (ps := ["self", "rows"]) fun _ _ _ _ _ _ us hl => match us, hl with | [_, _], _ => rfl
    have F4 := fun_mk (st := splContent) l4 c4 k4
    have b4 := F4.binds (ps := ["self", "box"]) fun _ _ _ _ _ _ us hl => match us, hl with | [_, _], _ => rfl
    have F5 := fun_mk (st := splHold) l5 c5 k5
    have b5 := F5.binds (ps := ["self", "box"]) fun _ _ _ _ _ _ us hl => match us, hl with | [_, _], _ => rfl
    have F6 := fun_mk (st := splHolders) l6 c6 k6
    have b6 := F6.binds (ps := ["self", "box"]) fun _ _ _ _ _ _ us hl => match us, hl with | [_, _], _ => rfl
    have F7 := fun_mk (st := splLetGo) l7 c7 k7
    have b7 := F7.binds (ps := ["self", "box"]) fun _ _ _ _ _ _ us hl => match us, hl with | [_, _], _ => rfl
    have F8 := fun_mk (st := splKept) l8 c8 k8
    have b8 := F8.binds (ps := ["self"]) fun _ _ _ _ _ _ us hl => match us, hl with | [_], _ => rfl
    have F9 := fun_mk (st := splNext) l9 c9 k9
    have b9 := F9.binds (ps := ["self"]) fun _ _ _ _ _ _ us hl => match us, hl with | [_], _ => rfl
    have F10 := fun_mk (st := splRefuse) l10 c10 k10
    have b10 := F10.binds (ps := ["self", "box"]) fun _ _ _ _ _ _ us hl => match us, hl with | [_, _], _ => rfl
    have F11 := fun_mk (st := splLowered) l11 c11 k11
    have b11 := F11.binds (ps := ["self", "box"]) fun _ _ _ _ _ _ us hl => match us, hl with | [_, _], _ => rfl
    have F12 := fun_mk (st := splTaken) l12 c12 k12
    have b12 := F12.binds (ps := ["self", "box"]) fun _ _ _ _ _ _ us hl => match us, hl with | [_, _], _ => rfl
    have F13 := fun_mk (st := swhole) l13 c13 k13
    have b13 := F13.binds (ps := ["_law_seen"]) fun _ _ _ _ _ _ us hl => match us, hl with | [_], _ => rfl
    have F14 := fun_mk (st := scount) l14 c14 k14
    have b14 := F14.binds (ps := ["_law_seen", "_law_due"]) fun _ _ _ _ _ _ us hl => match us, hl with | [_, _], _ => rfl
    have F15 := fun_mk (st := srowsBy) l15 c15 k15
    have b15 := F15.binds (ps := ["_law_cell", "_law_there"]) fun _ _ _ _ _ _ us hl => match us, hl with | [_, _], _ => rfl
    have F16 := fun_mk (st := salike) l16 c16 k16
    have b16 := F16.binds (ps := ["_law_seen", "_law_due"]) fun _ _ _ _ _ _ us hl => match us, hl with | [_, _], _ => rfl
    have F17 := fun_mk (st := sgoneL) l17 c17 k17
    have b17 := F17.binds (ps := ["_law_inside", "_law_counts", "_law_box"]) fun _ _ _ _ _ _ us hl => match us, hl with | [_, _, _], _ => rfl
    have F18 := fun_mk (st := srefusedL) l18 c18 k18
    have b18 := F18.binds (ps := ["_law_pile", "_law_box", "_law_good", "_law_cell"]) fun _ _ _ _ _ _ us hl => match us, hl with | [_, _, _, _], _ => rfl
    have F19 := fun_mk (st := sasDue) l19 c19 k19
    have b19 := F19.binds (ps := ["_law_pile", "_law_inside", "_law_counts", "_law_made"]) fun _ _ _ _ _ _ us hl => match us, hl with | [_, _, _, _], _ => rfl
    have F20 := fun_mk (st := sstepL) l20 c20 k20
    have b20 := F20.binds (ps := ["_law_pile", "_law_inside", "_law_counts", "_law_made", "_law_cell"]) fun _ _ _ _ _ _ us hl => match us, hl with | [_, _, _, _, _], _ => rfl
    have F21 := fun_mk (st := schain) l21 c21 k21
    have b21 := F21.binds (ps := ["_law_many", "_law_named"]) fun _ _ _ _ _ _ us hl => match us, hl with | [_, _], _ => rfl
    have F22 := fun_mk (st := slaw) l22 c22 k22
    have cIsWhole : Df l.prog w K mg base 1 "is_whole" ["thing"] (spIsWhole K) := ⟨⟨_, _, ok_isWhole F0 T, PySem.W.mg_of X G a0, k0, b0⟩⟩
    have P1 := (⟨cIsWhole⟩ : CP1 l.prog w K mg base C_Pile E_NoBox)
    have cNext : Mf l.prog w K mg base 1 C_Pile "_next_box" ["self"] (spNext C_Pile) := ⟨⟨_, _, ok_plNext F9 T, ⟨a9, i9, k9⟩, b9⟩⟩
    have cRefuse : Mf l.prog w K mg base 2 C_Pile "_refuse_unless_there" ["self", "box"] (spRefuse K C_Pile E_NoBox) := ⟨⟨_, _, ok_plRefuse F10 T P1, ⟨a10, i10, k10⟩, b10⟩⟩
    have cLowered : Mf l.prog w K mg base 1 C_Pile "_lowered" ["self", "box"] (spLowered K C_Pile) := ⟨⟨_, _, ok_plLowered F11 T, ⟨a11, i11, k11⟩, b11⟩⟩
    have cTaken : Mf l.prog w K mg base 1 C_Pile "_taken_away" ["self", "box"] (spTaken K C_Pile) := ⟨⟨_, _, ok_plTaken F12 T, ⟨a12, i12, k12⟩, b12⟩⟩
    have P2 := (⟨cNext, cRefuse, cLowered, cTaken⟩ : CP2 l.prog w K mg base C_Pile E_NoBox)
    have cLeaf : Mf l.prog w K mg base 2 C_Pile "leaf" ["self", "number"] (spLeaf K C_Pile) := ⟨⟨_, _, ok_plLeaf F2 T P2, ⟨a2, i2, k2⟩, b2⟩⟩
    have cBranch : Mf l.prog w K mg base 3 C_Pile "branch" ["self", "rows"] (spBranch K C_Pile E_NoBox Pt_branch) := ⟨⟨_, _, ok_plBranch l3 c3 tbb_branch T P2, ⟨a3, i3, k3⟩, b3⟩⟩
    have cContent : Mf l.prog w K mg base 3 C_Pile "content" ["self", "box"] (spContent K C_Pile E_NoBox) := ⟨⟨_, _, ok_plContent F4 T P2, ⟨a4, i4, k4⟩, b4⟩⟩
    have cHold : Mf l.prog w K mg base 3 C_Pile "hold" ["self", "box"] (spHold K C_Pile E_NoBox) := ⟨⟨_, _, ok_plHold F5 T P2, ⟨a5, i5, k5⟩, b5⟩⟩
    have cHolders : Mf l.prog w K mg base 3 C_Pile "holders" ["self", "box"] (spHolders K C_Pile E_NoBox) := ⟨⟨_, _, ok_plHolders F6 T P2, ⟨a6, i6, k6⟩, b6⟩⟩
    have cLetGo : Mf l.prog w K mg base 3 C_Pile "let_go" ["self", "box"] (spLetGo K C_Pile E_NoBox) := ⟨⟨_, _, ok_plLetGo F7 T P2, ⟨a7, i7, k7⟩, b7⟩⟩
    have cKept : Mf l.prog w K mg base 1 C_Pile "kept" ["self"] (spKept K C_Pile) := ⟨⟨_, _, ok_plKept F8 T, ⟨a8, i8, k8⟩, b8⟩⟩
    have P3 := (⟨cLeaf, cBranch, cContent, cHold, cHolders, cLetGo, cKept⟩ : CP3 l.prog w K mg base C_Pile E_NoBox Pt_branch)
    have cInit : Mi l.prog w K mg base 1 C_Pile "Pile" ["self"] (spInit K C_Pile) := ⟨⟨_, _, ok_plInit F1 T, ⟨mk_Pile, a1, i1, kc_Pile⟩, PySem.W.mg_of X G aC_Pile, b1⟩⟩
    have cWhole : Df l.prog w K mg base 1 "_law_whole" ["_law_seen"] spWhole := ⟨⟨_, _, ok_whole F13 T, PySem.W.mg_of X G a13, k13, b13⟩⟩
    have W1 := (⟨cWhole⟩ : CW l.prog w K mg base)
    have cCount : Df l.prog w K mg base 2 "_law_count" ["_law_seen", "_law_due"] spCount := ⟨⟨_, _, ok_count F14 T W1, PySem.W.mg_of X G a14, k14, b14⟩⟩
    have W2 := (⟨W1, cCount⟩ : CC l.prog w K mg base)
    have E1 := (⟨P3, W2⟩ : CE l.prog w K mg base C_Pile E_NoBox Pt_branch)
    have cRowsBy : Df l.prog w K mg base 1 "_law_rows_by" ["_law_cell", "_law_there"] (spRowsBy K) := ⟨⟨_, _, ok_rowsBy F15 T, PySem.W.mg_of X G a15, k15, b15⟩⟩
    have cAlike : Df l.prog w K mg base 3 "_law_alike" ["_law_seen", "_law_due"] (spAlike K) := ⟨⟨_, _, ok_alike F16 T W2, PySem.W.mg_of X G a16, k16, b16⟩⟩
    have cGone : Df l.prog w K mg base 1 "_law_gone" ["_law_inside", "_law_counts", "_law_box"] (spGone K) := ⟨⟨_, _, ok_goneL F17 T, PySem.W.mg_of X G a17, k17, b17⟩⟩
    have cRefused : Df l.prog w K mg base 4 "_law_refused" ["_law_pile", "_law_box", "_law_good", "_law_cell"] (spRefusedL K C_Pile Pt_branch) := ⟨⟨_, _, ok_refusedL F18 T P3, PySem.W.mg_of X G a18, k18, b18⟩⟩
    have cAsDue : Df l.prog w K mg base 4 "_law_as_due" ["_law_pile", "_law_inside", "_law_counts", "_law_made"] (spAsDue K C_Pile) := ⟨⟨_, _, ok_asDue F19 T E1, PySem.W.mg_of X G a19, k19, b19⟩⟩
    have S1 := (⟨E1, cRowsBy, cAlike, cGone, cRefused⟩ : CS l.prog w K mg base C_Pile E_NoBox Pt_branch)
    have cStep : Df l.prog w K mg base 5 "_law_step" ["_law_pile", "_law_inside", "_law_counts", "_law_made", "_law_cell"] (spStepL K C_Pile Pt_branch) := ⟨⟨_, _, ok_stepL F20 T S1, PySem.W.mg_of X G a20, k20, b20⟩⟩
    have cChain : Df l.prog w K mg base 4 "_law_chain" ["_law_many", "_law_named"] (spChain K Pt_branch) := ⟨⟨_, _, ok_chain F21 T ⟨E1, cInit⟩, PySem.W.mg_of X G a21, k21, b21⟩⟩
    exact ok_law F22 T ⟨S1, cInit, cChain, cStep, cAsDue⟩
end My
local macro_rules | `(tactic| o_head (kHook $k $a $e)) => `(tactic| o_head (PySem.W.kmHook $k $a $e [76]))
open PySem PySem.W PyProof.Rows in
set_option maxRecDepth 100000 in
set_option maxHeartbeats 0 in
theorem PySem.Challenge.cw_snaptree_k08_whole_pile_holds : PySem.Challenge.rw_snaptree_k08_whole_pile.Holds := by
  w_on; o_law; k_head; (case hw => w_witness2)
  k_fill
  refine My.walk_tabs (n := 63) (k := 6) (x := "_law_script") (CX := fun w => L2.CX PySem.Challenge.rw_snaptree_k08_whole_pile.prog w) rfl (by decide) rfl ⟨rfl, by decide, by decide⟩ (fun w h Y => ⟨PySem.W.km_in_of Y, PySem.W.km_tabs_of Y⟩) ?F ?CX
  case CX =>
    intro w H s e s' h
    obtain ⟨_, _, _, _, _, _, _, _, _, _, _, _, z⟩ := h
    exact z.elim
  case F =>
    intro w mg fa h KX G hmg Tb
    refine' My.all_mk KX G hmg ?aC_Pile ?a0 ?l0 ?c0 ?k0 ?a1 ?i1 ?l1 ?c1 ?k1 ?a2 ?i2 ?l2 ?c2 ?k2 ?a3 ?i3 ?l3 ?c3 ?k3 ?a4 ?i4 ?l4 ?c4 ?k4 ?a5 ?i5 ?l5 ?c5 ?k5 ?a6 ?i6 ?l6 ?c6 ?k6 ?a7 ?i7 ?l7 ?c7 ?k7 ?a8 ?i8 ?l8 ?c8 ?k8 ?a9 ?i9 ?l9 ?c9 ?k9 ?a10 ?i10 ?l10 ?c10 ?k10 ?a11 ?i11 ?l11 ?c11 ?k11 ?a12 ?i12 ?l12 ?c12 ?k12 ?a13 ?l13 ?c13 ?k13 ?a14 ?l14 ?c14 ?k14 ?a15 ?l15 ?c15 ?k15 ?a16 ?l16 ?c16 ?k16 ?a17 ?l17 ?c17 ?k17 ?a18 ?l18 ?c18 ?k18 ?a19 ?l19 ?c19 ?k19 ?a20 ?l20 ?c20 ?k20 ?a21 ?l21 ?c21 ?k21 ?a22 ?l22 ?c22 ?k22 ?pg_Pile ?hd_Pile ?po_Pile ?sa_Pile ?mk_Pile ?kc_Pile ?n_Pile_made ?n_Pile__counts ?n_Pile__numbers ?n_Pile__rows ?z_len ?z_isinstance ?z_range ?z_sorted ?z_all ?z_max ?z_int ?z_bool ?z_str ?z_list ?z_tuple ?z_set ?aE_NoBox ?x_NoBox ?k_NoBox ?b_NoBox ?t_NoBox ?s_NoBox ?g1_NoBox ?g2_NoBox ?g3_NoBox ?g4_NoBox ?g7_NoBox ?g5 ?g6 ?lC_branch ?vC_branch ?nP_branch ?cH_branch ?hT_branch
    (case aC_Pile => k_is)
    (case a0 => k_is)
    (case l0 => k_is)
    (case c0 => k_is)
    (case k0 => k_is)
    (case a1 => k_is)
    (case i1 => k_is)
    (case l1 => k_is)
    (case c1 => k_is)
    (case k1 => k_is)
    (case a2 => k_is)
    (case i2 => k_is)
    (case l2 => k_is)
    (case c2 => k_is)
    (case k2 => k_is)
    (case a3 => k_is)
    (case i3 => k_is)
    (case l3 => k_is)
    (case c3 => k_is)
    (case k3 => k_is)
    (case a4 => k_is)
    (case i4 => k_is)
    (case l4 => k_is)
    (case c4 => k_is)
    (case k4 => k_is)
    (case a5 => k_is)
    (case i5 => k_is)
    (case l5 => k_is)
    (case c5 => k_is)
    (case k5 => k_is)
    (case a6 => k_is)
    (case i6 => k_is)
    (case l6 => k_is)
    (case c6 => k_is)
    (case k6 => k_is)
    (case a7 => k_is)
    (case i7 => k_is)
    (case l7 => k_is)
    (case c7 => k_is)
    (case k7 => k_is)
    (case a8 => k_is)
    (case i8 => k_is)
    (case l8 => k_is)
    (case c8 => k_is)
    (case k8 => k_is)
    (case a9 => k_is)
    (case i9 => k_is)
    (case l9 => k_is)
    (case c9 => k_is)
    (case k9 => k_is)
    (case a10 => k_is)
    (case i10 => k_is)
    (case l10 => k_is)
    (case c10 => k_is)
    (case k10 => k_is)
    (case a11 => k_is)
    (case i11 => k_is)
    (case l11 => k_is)
    (case c11 => k_is)
    (case k11 => k_is)
    (case a12 => k_is)
    (case i12 => k_is)
    (case l12 => k_is)
    (case c12 => k_is)
    (case k12 => k_is)
    (case a13 => k_is)
    (case l13 => k_is)
    (case c13 => k_is)
    (case k13 => k_is)
    (case a14 => k_is)
    (case l14 => k_is)
    (case c14 => k_is)
    (case k14 => k_is)
    (case a15 => k_is)
    (case l15 => k_is)
    (case c15 => k_is)
    (case k15 => k_is)
    (case a16 => k_is)
    (case l16 => k_is)
    (case c16 => k_is)
    (case k16 => k_is)
    (case a17 => k_is)
    (case l17 => k_is)
    (case c17 => k_is)
    (case k17 => k_is)
    (case a18 => k_is)
    (case l18 => k_is)
    (case c18 => k_is)
    (case k18 => k_is)
    (case a19 => k_is)
    (case l19 => k_is)
    (case c19 => k_is)
    (case k19 => k_is)
    (case a20 => k_is)
    (case l20 => k_is)
    (case c20 => k_is)
    (case k20 => k_is)
    (case a21 => k_is)
    (case l21 => k_is)
    (case c21 => k_is)
    (case k21 => k_is)
    (case a22 => k_is)
    (case l22 => k_is)
    (case c22 => k_is)
    (case k22 => k_is)
    (case pg_Pile => k_is)
    (case hd_Pile => k_is)
    (case po_Pile => k_is)
    (case sa_Pile => k_is)
    (case mk_Pile => k_is)
    (case kc_Pile => k_is)
    (case n_Pile_made => k_is)
    (case n_Pile__counts => k_is)
    (case n_Pile__numbers => k_is)
    (case n_Pile__rows => k_is)
    (case z_len => k_is)
    (case z_isinstance => k_is)
    (case z_range => k_is)
    (case z_sorted => k_is)
    (case z_all => k_is)
    (case z_max => k_is)
    (case z_int => k_is)
    (case z_bool => k_is)
    (case z_str => k_is)
    (case z_list => k_is)
    (case z_tuple => k_is)
    (case z_set => k_is)
    (case aE_NoBox => k_is)
    (case x_NoBox => k_exc)
    (case k_NoBox => k_is)
    (case b_NoBox => k_is)
    (case t_NoBox => k_is)
    (case s_NoBox => first | rfl | k_is)
    (case g1_NoBox => k_is)
    (case g2_NoBox => k_is)
    (case g3_NoBox => k_is)
    (case g4_NoBox => k_is)
    (case g7_NoBox => k_is)
    (case g5 => k_is)
    (case g6 => k_is)
    (case lC_branch => k_is)
    (case vC_branch => rfl)
    (case nP_branch => first | rfl | kernel_rfl | decide +kernel)
    (case cH_branch => kernel_rfl)
    (case hT_branch => exact Tb _ (by decide))
#print axioms PySem.Challenge.cw_snaptree_k08_whole_pile_holds
