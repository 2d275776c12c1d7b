import PyProof.Rows.All
import Wide.All
import OpenK.AllK
import Wide.FinOn
import HandS.ForMost
import HandS.Exc
import HandS.ExcOwn
import HandS.TryOnly
import HandS.WordsExc
import HandS.IsInst
import HandS.ExcIs
import HandS.AnyAll
import HandS.EndTab
import HandS.EndOwn
import HandS.More
import HandS.Walk
import HandS.ExcCtx
import HandS.HotCalls
import HandS.SuiteRaise
import PyProof.Rows.SortShell
import HandS.SortOrd
import HandS.SortRule
import HandS.SortInts
import HandS.Flow
import HandS.Strs
import HandS.Set
import PyProof.Rows.SetFrom
import PyProof.TupleOfGen
import PyProof.WalksPairs
import PyProof.ZipIter
import KE.KItemsList
import HandS.Iter
import HandS.ListItems
import HandS.NoneIn
import HandS.Rev
import KE.KSortTupG
import KE.KEqNest
import HandS.TupSets
import KE.KDictPairs
import HandS.TupAny
import HandS.Conv
import KE.KNestM
import PyProof.StrOps2
import PySem.Challenge.RW_snaptree_k12_whole_changes_told
set_option Elab.async false
set_option linter.all false
set_option maxRecDepth 100000
set_option maxHeartbeats 4000000
namespace My
open PySem PySem.Spec PyProof.Rows L2
theorem passLN {X : Cx} : Passes (L2N.CX X.prog X.w) X E0 := fun _ _ _ _ _ _ _ h => by
  obtain ⟨_, _, _, _, _, _, _, _, _, _, _, _, z⟩ := h
  exact z.elim
end My
namespace L2
open PySem PySem.Spec PyProof.Rows
theorem Fun.okN {P : Program} {w : World} {K : PySem.W.Frag} {mg : Str → Option Value} {base : Heap} {x qual : Str} {st : Stmt} {f : Addr} {fd : FuncData} {N ps : List Str} {k : Nat} {sp : Sp} (F : Fun K x qual st f fd) (S : FnScope N ps (defScope st)) (len : ∀ vs H Q E, sp vs H Q E → vs.length = ps.length)
    (hbody : ∀ (cdv : Value) (A : Around) (outer : List Env) (s : Shared) (H : Hp) (vs : List V) (Q : VK) (E : XK), Room k (A.deeper (envOfC qual (defScope st) s.heap.objs.size f cdv)) → sp vs H Q E →
      ∃ t, PSs (cxOf (L2N.CX P w) P w K mg base N qual (defScope st) f cdv A outer s H E) (defBody st) t ∧ t { nx := fun _ H' => Q .non H', rt := Q } (start N vs) H) : FnOk P w K mg base (L2N.CX P w) (k + 1) f fd ps sp := by
  obtain ⟨oc, od, kV, doc, pm, an, cdv, ct, osl, rfl, lk, hcd⟩ := F.ex
  exact fn_of lk hcd S len fun A outer s H vs Q E hr hsp => hbody cdv A outer s H vs Q E hr hsp
end L2
namespace My
open PySem PySem.Spec PyProof.Rows L2

/-! ### heaps: tables may grow, all else that is tracked stays -/
structure Gr (H H' : Hp) : Prop where
  keep : ∀ b o, H b = some o → (∀ ps, o ≠ HO.tbl ps) → H' b = some o
  tab : ∀ b, GxR.TabG H b → GxR.TabG H' b
  there : ∀ b o, H b = some o → ∃ o', H' b = some o'
theorem Gr.refl (H : Hp) : Gr H H := ⟨fun _ _ h _ => h, fun _ h => h, fun _ o h => ⟨o, h⟩⟩
theorem Gr.trans {H H1 H2 : Hp} (a : Gr H H1) (b : Gr H1 H2) : Gr H H2 :=
  ⟨fun c o h n => b.keep c o (a.keep c o h n) n, fun c h => b.tab c (a.tab c h), fun c o h => by
    obtain ⟨o1, h1⟩ := a.there c o h
    exact b.there c o1 h1⟩
theorem Gr.new {H : Hp} {p : Addr} {o : HO} (h : H p = none) : Gr H (upd H p o) :=
  ⟨fun b u e _ => by rw [upd_ne (ne_of_none e h)]; exact e,
   fun b ⟨ps, e, t⟩ => ⟨ps, by rw [upd_ne (ne_of_none e h)]; exact e, t⟩,
   fun b u e => ⟨u, by rw [upd_ne (ne_of_none e h)]; exact e⟩⟩
/-- a change of an object that the elder heap doesn't know -/
theorem Gr.mut {H H' : Hp} {p : Addr} {o : HO} (g : Gr H H') (h : H p = none) : Gr H (upd H' p o) :=
  ⟨fun b u e n => by rw [upd_ne (ne_of_none e h)]; exact g.keep b u e n,
   fun b t => by
    obtain ⟨ps, e, z⟩ := t
    obtain ⟨ps', e', z'⟩ := g.tab b ⟨ps, e, z⟩
    exact ⟨ps', by rw [upd_ne (ne_of_none e h)]; exact e', z'⟩,
   fun b u e => by
    rw [upd_ne (ne_of_none e h)]
    exact g.there b u e⟩
theorem Gr.tabbed {P : Addr} {H H' : Hp} (t : GxR.TabG H P) (h : GxR.Tabbed P H H') : Gr H H' := by
  obtain ⟨t', k⟩ := h
  obtain ⟨ps, e, z⟩ := t
  refine ⟨fun b o eb n => ?_, fun b tb => ?_, fun b o eb => ?_⟩
  · rw [k b fun q => ?_]
    · exact eb
    · rw [q, e] at eb
      exact n ps (Option.some.inj eb).symm
  · by_cases hb : b = P
    · rw [hb]
      exact t'
    · obtain ⟨qs, eq, zq⟩ := tb
      exact ⟨qs, by rw [k b hb]; exact eq, zq⟩
  · by_cases hb : b = P
    · rw [hb]
      obtain ⟨qs, eq, zq⟩ := t'
      exact ⟨_, eq⟩
    · exact ⟨o, by rw [k b hb]; exact eb⟩
theorem Gr.free {H H' : Hp} {p : Addr} (g : Gr H H') (h : H' p = none) : H p = none := by
  cases e : H p with
  | none => rfl
  | some o =>
    obtain ⟨o', e'⟩ := g.there p o e
    rw [e'] at h
    cases h
theorem Gr.l {K : PySem.W.Frag} {H H' : Hp} {a : Addr} {xs : List V} (g : Gr H H') (h : SqL K H a xs) : SqL K H' a xs := by
  rcases h with (h | ⟨o, h⟩) | h
  · exact .inl (.inl (g.keep _ _ h (fun _ z => by cases z)))
  · exact .inl (.inr ⟨o, g.keep _ _ h (fun _ z => by cases z)⟩)
  · exact .inr h
theorem Gr.t {K : PySem.W.Frag} {H H' : Hp} {a : Addr} {xs : List V} (g : Gr H H') (h : SqT K H a xs) : SqT K H' a xs := by
  rcases h with (h | ⟨o, h⟩) | h
  · exact .inl (.inl (g.keep _ _ h (fun _ z => by cases z)))
  · exact .inl (.inr ⟨o, g.keep _ _ h (fun _ z => by cases z)⟩)
  · exact .inr h
theorem Gr.lst {H H' : Hp} {a : Addr} {xs : List V} (g : Gr H H') (h : H a = some (.lst xs)) : H' a = some (.lst xs) := g.keep _ _ h (fun _ z => by cases z)
theorem Gr.tup {H H' : Hp} {a : Addr} {xs : List V} (g : Gr H H') (h : H a = some (.tup xs)) : H' a = some (.tup xs) := g.keep _ _ h (fun _ z => by cases z)
theorem Gr.dK {H H' : Hp} {a : Addr} {xs : List (Key × V)} (g : Gr H H') (h : H a = some (.dK xs)) : H' a = some (.dK xs) := g.keep _ _ h (fun _ z => by cases z)
/-- the things whose kind a law asks: built-in kinds -/
theorem Gr.ty {K : PySem.W.Frag} {H H' : Hp} {x : V} {m : Value} (g : Gr H H') (h : TyX K H x m) : TyX K H' x m := by
  have nt : ∀ (o : HO), (∀ ps, o ≠ .tbl ps) → ∀ a, H a = some o → H' a = some o := fun o n a e => g.keep a o e n
  cases h with
  | base b =>
    cases b with
    | non => exact .base .non
    | bl b => exact .base (.bl b)
    | int i => exact .base (.int i)
    | str z => exact .base (.str z)
    | flt z => exact .base (.flt z)
    | lst e => exact .base (.lst (nt _ (fun _ z => by cases z) _ e))
    | frz e => exact .base (.frz (nt _ (fun _ z => by cases z) _ e))
    | tup e => exact .base (.tup (nt _ (fun _ z => by cases z) _ e))
    | dK e => exact .base (.dK (nt _ (fun _ z => by cases z) _ e))
    | dT e => exact .base (.dT (nt _ (fun _ z => by cases z) _ e))
    | ins e cl ha hn htk hm => exact .base (.ins (nt _ (fun _ z => by cases z) _ e) cl ha hn htk hm)
  | byt b => exact .byt b
  | set e => exact .set (nt _ (fun _ z => by cases z) _ e)
  | kList e c => exact .kList e c
  | kTuple e c => exact .kTuple e c
  | kDict e c => exact .kDict e c
  | fTuple e => exact .fTuple (nt _ (fun _ z => by cases z) _ e)
  | fDict e => exact .fDict (nt _ (fun _ z => by cases z) _ e)
theorem tyL {K : PySem.W.Frag} {H : Hp} {a : Addr} {xs : List V} (h : SqL K H a xs) : TyX K H (.ref a) (.type "list") := by
  rcases h with (h | ⟨o, h⟩) | ⟨o, _, _, e, c, _⟩
  · exact .base (.lst h)
  · exact .base (.frz h)
  · exact .kList e c
theorem tyT {K : PySem.W.Frag} {H : Hp} {a : Addr} {xs : List V} (h : SqT K H a xs) : TyX K H (.ref a) (.type "tuple") := by
  rcases h with (h | ⟨o, h⟩) | ⟨o, _, _, e, c, _⟩
  · exact .base (.tup h)
  · exact .fTuple h
  · exact .kTuple e c
theorem gr_of {H H2 : Hp} {p : Addr} {o : HO} (hp : H p = none) (h : upd H p o = H2) : Gr H H2 := h ▸ Gr.new hp
theorem at_of {H H2 : Hp} {p : Addr} {o : HO} (h : upd H p o = H2) : H2 p = some o := h ▸ upd_same
theorem sz_of {n : Nat} (h : n ≤ 1000000) : n ≤ sizeLine := Nat.le_trans h (by decide)
theorem sz_lt {n : Nat} (h : n < 1000000) : n < sizeLine := Nat.lt_of_lt_of_le h (by decide)

/-! ### rules' readings by a name -/
def rLenQ (K : PySem.W.Frag) : List V → Hp → VK → Prop := fun xs H Q => ∃ p ys, xs = [.ref p] ∧ (SqL K H p ys ∨ SqT K H p ys) ∧ Q (.int ys.length) H
def rLenS : List V → Hp → VK → Prop := fun xs H Q => ∃ z, xs = [.str z] ∧ z.length ≤ sizeLine ∧ Q (.int z.length) H
def rListOf (K : PySem.W.Frag) : List V → Hp → VK → Prop := fun xs H Q => ∃ p ys, xs = [.ref p] ∧ (SqL K H p ys ∨ SqT K H p ys) ∧ ∀ l, H l = none → Q (.ref l) (upd H l (.lst ys))
def rTupOf (K : PySem.W.Frag) : List V → Hp → VK → Prop := fun xs H Q => ∃ p ys, xs = [.ref p] ∧ ((SqL K H p ys ∧ ∀ l, H l = none → Q (.ref l) (upd H l (.tup ys))) ∨ (SqT K H p ys ∧ Q (.ref p) H))
def rJoin (K : PySem.W.Frag) : V → List V → Hp → VK → Prop := fun x xs H Q => ∃ a p, ∃ ys : List Str, x = .str a ∧ xs = [.ref p] ∧ (SqL K H p (ys.map V.str) ∨ SqT K H p (ys.map V.str)) ∧ (ys.map (·.length)).sum + ys.length * a.length ≤ 16777216 ∧ Q (.str (Txt.join a ys)) H
def rSplit : V → List V → Hp → VK → Prop := fun x xs H Q => ∃ a b, x = .str a ∧ xs = [.str b] ∧ (b.length == 0) = false ∧ a.length + 2 ≤ sizeLine ∧ rNewStrs (Txt.split a b) H Q
def rStarts : V → List V → Hp → VK → Prop := fun x xs H Q => ∃ a b, x = .str a ∧ xs = [.str b] ∧ Q (.bl (Txt.startswith a b)) H
def rInSign : R2 := fun x y H Q => ∃ (c : Nat) (z : Str), x = .str ⟨#[c]⟩ ∧ y = .str z ∧ Q (.bl (decide (c ∈ z.cps.toList))) H
def rAddS : R2 := fun x y H Q => ∃ i j, x = .str i ∧ y = .str j ∧ i.length + j.length ≤ sizeLine ∧ Q (.str (i ++ j)) H
def rIsNo : R2 := fun x y H Q => y = .non ∧ Q (.bl (decide (x = .non))) H
section
variable {X : Cx}
theorem cLenQ {K : PySem.W.Frag} (h : X.K = K) : CallR X (.builtin "len") (rLenQ K) := h ▸ call_len_seq
theorem cIsi {K : PySem.W.Frag} (h : X.K = K) : CallR X (.builtin "isinstance") (rIsi K) := h ▸ call_isi
theorem cIsiT {K : PySem.W.Frag} (h : X.K = K) : CallR X (.builtin "isinstance") (rIsiT K) := h ▸ call_isiT
theorem cAll {K : PySem.W.Frag} (h : X.K = K) (hc : X.calm = true) : CallR X (.builtin "all") (rAll K) := h ▸ cr_all hc
theorem oEqD {K : PySem.W.Frag} (h : X.K = K) (hu : X.A.units + 64 < cLine) : OpR X (compareOp .Eq) (rEqD K) := h ▸ op_eqD hu
theorem oNeD {K : PySem.W.Frag} (h : X.K = K) (hu : X.A.units + 64 < cLine) : OpR X (compareOp .NotEq) (rNeD K) := h ▸ op_neD hu
theorem ixL {K : PySem.W.Frag} (h : X.K = K) : IxR X (rIxL K) := h ▸ ix_list
theorem ixT {K : PySem.W.Frag} (h : X.K = K) : IxR X (rIxT K) := h ▸ ix_tup
theorem cLenS : CallR X (.builtin "len") rLenS := call_len_str
theorem cListOf {K : PySem.W.Frag} (h : X.K = K) : CallR X (.type "list") (rListOf K) := h ▸ call_list_of
theorem cTupOf {K : PySem.W.Frag} (h : X.K = K) : CallR X (.type "tuple") (rTupOf K) := h ▸ call_tuple_of
theorem oInSign : OpR X (compareOp .In) rInSign := op_in_sign
theorem oAddS : OpR X (binaryOp .Add) rAddS := op_add_str
theorem oIsNo : OpR X (compareOp .Is) rIsNo := op_isN
variable {o e : Expr} {to te : TE}
theorem peJoin {apos pos : Pos} (ho : PE X o to) (he : PE X e te) (hs : starEach [e] X.env = [(false, eval e X.env)] := by rfl) (hbase : attributeBase o "join" X.env (eval o X.env) = eval o X.env := by rfl) (hline : (apos.endLine == pos.line) = true := by rfl) :
    PE X (.Call (.Attribute o "join" apos) [e] [] pos) (tM1 (rJoin X.K) to te) := pe_m1 F.slot_str_join F.type_str_join mt_join ho he hs hbase hline
theorem peSplit {apos pos : Pos} (ho : PE X o to) (he : PE X e te) (hs : starEach [e] X.env = [(false, eval e X.env)] := by rfl) (hbase : attributeBase o "split" X.env (eval o X.env) = eval o X.env := by rfl) (hline : (apos.endLine == pos.line) = true := by rfl) :
    PE X (.Call (.Attribute o "split" apos) [e] [] pos) (tM1 rSplit to te) := pe_m1 F.slot_str_split F.type_str_split mt_split ho he hs hbase hline
theorem peStarts {apos pos : Pos} (ho : PE X o to) (he : PE X e te) (hs : starEach [e] X.env = [(false, eval e X.env)] := by rfl) (hbase : attributeBase o "startswith" X.env (eval o X.env) = eval o X.env := by rfl) (hline : (apos.endLine == pos.line) = true := by rfl) :
    PE X (.Call (.Attribute o "startswith" apos) [e] [] pos) (tM1 rStarts to te) := pe_m1 F.slot_str_startswith F.type_str_startswith mt_startswith ho he hs hbase hline
end

/-! ### one step of a reading -/
section
variable {K : PySem.W.Frag} {σ : L2.St} {H : Hp} {Q : VK} {ta tb tc te : TE} {v x y : V} {r r' : R2} {t u : TT}
theorem st_var {i : Nat} (h : σ[i]? = some (some v)) (q : Q v H) : tVar i σ H Q := ⟨v, h, q⟩
theorem st_c (q : Q v H) : tC v σ H Q := q
theorem st_op (h : ta σ H fun x H1 => tb σ H1 fun y H2 => r x y H2 Q) : tOp r ta tb σ H Q := h
theorem st_un {r : V → Hp → VK → Prop} (h : ta σ H fun x H1 => r x H1 Q) : tUn r ta σ H Q := h
theorem st_I0 {g : Int → Int → V} {i j : Int} (q : Q (g i j) H) : rI0 g (.int i) (.int j) H Q := ⟨i, j, rfl, rfl, q⟩
theorem st_I {C : Int → Int → Prop} {g : Int → Int → V} {i j : Int} (c : C i j) (q : Q (g i j) H) : rI C g (.int i) (.int j) H Q := ⟨i, j, rfl, rfl, c, q⟩
theorem st_eq (h : scal x y = true) (q : Q (.bl (decide (x = y))) H) : rEq x y H Q := ⟨h, q⟩
theorem st_ne (h : scal x y = true) (q : Q (.bl (!decide (x = y))) H) : rNe x y H Q := ⟨h, q⟩
theorem st_test {Q : Bool → Hp → Prop} (h : te σ H fun x H' => ∃ k, x = .bl k ∧ Q k H') : tTest te σ H Q := h
theorem st_tB {Q : Bool → Hp → Prop} (h : te σ H fun x H' => ∃ k, x = .bl k ∧ Q k H') : tB te σ H Q := h
theorem st_bl {P : Bool → Prop} {k : Bool} (q : P k) : ∃ k', V.bl k = V.bl k' ∧ P k' := ⟨k, rfl, q⟩
theorem st_and {Q : Bool → Hp → Prop} (h : t σ H fun c H1 => if c = true then u σ H1 Q else Q false H1) : tAnd t u σ H Q := h
theorem st_or {Q : Bool → Hp → Prop} (h : t σ H fun c H1 => if c = true then Q true H1 else u σ H1 Q) : tOr t u σ H Q := h
theorem st_not {Q : Bool → Hp → Prop} (h : t σ H fun c H1 => Q (!c) H1) : tNot t σ H Q := h
theorem st_yes {Q : Bool → Hp → Prop} (h : Q true H) : tYes σ H Q := h
theorem st_andV (h : ta σ H fun x H1 => ∃ c, x = .bl c ∧ if c = true then tb σ H1 Q else Q (.bl false) H1) : tAndV ta tb σ H Q := h
theorem st_orV (h : ta σ H fun x H1 => ∃ c, x = .bl c ∧ if c = true then Q (.bl true) H1 else tb σ H1 Q) : tOrV ta tb σ H Q := h
theorem st_notV (h : ta σ H fun x H1 => ∃ c, x = .bl c ∧ Q (.bl (!c)) H1) : tNotV ta σ H Q := h
theorem st_ifE (h : t σ H fun c H1 => if c = true then ta σ H1 Q else tb σ H1 Q) : tIf t ta tb σ H Q := h
theorem st_chain (h : ta σ H fun x H1 => tb σ H1 fun y H2 => r x y H2 fun z H3 => ∃ k, z = .bl k ∧ (if k = true then tc σ H3 fun w' H4 => r' y w' H4 Q else Q (.bl false) H3)) : tChain r r' ta tb tc σ H Q := h
/-- a way of an if -/
theorem ite3 {c : Bool} {A B : Prop} (h1 : c = true → A) (h2 : c = false → B) : if c = true then A else B := by
  cases c with
  | true => exact iteT (h1 rfl)
  | false => exact iteF (h2 rfl)
theorem st_nil {Q : List V → Hp → Prop} (q : Q [] H) : tNil σ H Q := q
theorem st_cons {tr : TA} {Q : List V → Hp → Prop} (h : te σ H fun x H1 => tr σ H1 fun xs H2 => Q (x :: xs) H2) : tCons te tr σ H Q := h
theorem st_CB {rc : List V → Hp → VK → Prop} {ta : TA} (h : ta σ H fun vs H1 => rc vs H1 Q) : tCB rc ta σ H Q := h
theorem st_call {sp : Sp} {E : XK} {ta : TA} (h : ta σ H fun vs H1 => sp vs H1 Q E) : tCall sp [] E ta σ H Q := by
  have e : (fun (vs : List V) (H1 : Hp) => sp (vs ++ []) H1 Q E) = fun vs H1 => sp vs H1 Q E := by
    funext vs H1
    rw [List.append_nil]
  show ta σ H fun vs H1 => sp (vs ++ []) H1 Q E
  rw [e]
  exact h
theorem st_m1 {rm : V → List V → Hp → VK → Prop} (h : ta σ H fun x H1 => (∃ a, x = .str a) ∧ tb σ H1 fun y H2 => rm x [y] H2 Q) : tM1 rm ta tb σ H Q := h
theorem st_bm {T : String} {rm : V → List V → Hp → VK → Prop} {t : TA} (h : ta σ H fun x H1 => tyV K T x H1 ∧ t σ H1 fun xs H2 => rm x xs H2 Q) : tBM K T rm ta t σ H Q := h
theorem st_lst {t : TA} (h : t σ H fun xs H1 => xs.length ≤ sizeLine ∧ ∀ p, H1 p = none → Q (.ref p) (upd H1 p (.lst xs))) : tLst t σ H Q := h
theorem st_tup {t : TA} (h : t σ H fun xs H1 => xs.length ≤ sizeLine ∧ ∀ p, H1 p = none → Q (.ref p) (upd H1 p (.tup xs))) : tTup t σ H Q := h
/-- a new object: its heap is a letter -/
theorem st_new {o : HO} (q : ∀ p H2, H p = none → Gr H H2 → H2 p = some o → Q (.ref p) H2) : ∀ p, H p = none → Q (.ref p) (upd H p o) := fun p hp => q p _ hp (Gr.new hp) upd_same
theorem st_sl {rs : V → Option Int → Option Int → Hp → VK → Prop} {tl th : TO} (h : te σ H fun x H1 => tl σ H1 fun l H2 => th σ H2 fun u H3 => rs x l u H3 Q) : tSl rs te tl th σ H Q := h
theorem st_noPart {Q : Option Int → Hp → Prop} (q : Q none H) : tNoPart σ H Q := q
theorem st_part {Q : Option Int → Hp → Prop} (h : te σ H fun x H1 => ∃ i, x = .int i ∧ Q (some i) H1) : tPart te σ H Q := h
theorem st_exi {P : Int → Prop} {i : Int} (q : P i) : ∃ j, V.int i = V.int j ∧ P j := ⟨i, rfl, q⟩
theorem st_ixL {p : Addr} {xs : List V} {i : Int} (h : SqL K H p xs) (ha : atI xs i = some v) (q : Q v H) : rIxL K (.ref p) (.int i) H Q := ⟨p, xs, i, v, rfl, rfl, h, ha, q⟩
theorem st_ixS {z : Str} {i : Int} {c : Nat} (h : z.length ≤ sizeLine) (ha : atI z.cps.toList i = some c) (q : Q (.str ⟨#[c]⟩) H) : rIxS (.str z) (.int i) H Q := ⟨z, i, c, rfl, rfl, h, ha, q⟩
theorem st_slS {z : Str} {lo hi : Option Int} (h : z.length ≤ sizeLine) (q : Q (.str (cutS z lo hi)) H) : rSlS (.str z) lo hi H Q := ⟨z, rfl, h, q⟩
/-- isinstance(x, a built-in kind) -/
theorem st_isi {m n : String} {b : Bool} (ty : TyX K H x (.type m)) (e : kitB m n = some b) (q : Q (.bl b) H) : rIsi K [x, .ty n] H Q := ⟨x, .ty n, .type m, .type n, b, rfl, .ty n, ty, kit_ty e, q⟩
theorem st_all {p : Addr} {bs : List Bool} (h : SqL K H p (bs.map V.bl)) (q : Q (.bl (bs.all id)) H) : rAll K [.ref p] H Q := ⟨p, bs, rfl, h, q⟩

theorem st_lenL {p : Addr} {ys : List V} (h : SqL K H p ys) (q : Q (.int ys.length) H) : rLenQ K [.ref p] H Q := ⟨p, ys, rfl, .inl h, q⟩
theorem st_lenT {p : Addr} {ys : List V} (h : SqT K H p ys) (q : Q (.int ys.length) H) : rLenQ K [.ref p] H Q := ⟨p, ys, rfl, .inr h, q⟩
theorem st_lenS {z : Str} (h : z.length ≤ sizeLine) (q : Q (.int z.length) H) : rLenS [.str z] H Q := ⟨z, rfl, h, q⟩
theorem st_listL {p : Addr} {ys : List V} (h : SqL K H p ys) (q : ∀ l, H l = none → Q (.ref l) (upd H l (.lst ys))) : rListOf K [.ref p] H Q := ⟨p, ys, rfl, .inl h, q⟩
theorem st_listT {p : Addr} {ys : List V} (h : SqT K H p ys) (q : ∀ l, H l = none → Q (.ref l) (upd H l (.lst ys))) : rListOf K [.ref p] H Q := ⟨p, ys, rfl, .inr h, q⟩
theorem st_tupL {p : Addr} {ys : List V} (h : SqL K H p ys) (q : ∀ l, H l = none → Q (.ref l) (upd H l (.tup ys))) : rTupOf K [.ref p] H Q := ⟨p, ys, rfl, .inl ⟨h, q⟩⟩
theorem st_joinL {a : Str} {p : Addr} {ys : List Str} (h : SqL K H p (ys.map V.str)) (hz : (ys.map (·.length)).sum + ys.length * a.length ≤ 16777216) (q : Q (.str (Txt.join a ys)) H) : (∃ b, V.str a = .str b) ∧ rJoin K (.str a) [.ref p] H Q := ⟨⟨a, rfl⟩, a, p, ys, rfl, rfl, .inl h, hz, q⟩
theorem st_join {a : Str} {p : Addr} {ys : List Str} (h : SqL K H p (ys.map V.str) ∨ SqT K H p (ys.map V.str)) (hz : (ys.map (·.length)).sum + ys.length * a.length ≤ 16777216) (q : Q (.str (Txt.join a ys)) H) : rJoin K (.str a) [.ref p] H Q := ⟨a, p, ys, rfl, rfl, h, hz, q⟩
theorem st_split {a b : Str} (hb : (b.length == 0) = false) (ha : a.length + 2 ≤ sizeLine) (q : ∀ p, H p = none → Q (.ref p) (upd H p (.lst ((Txt.split a b).map V.str)))) : rSplit (.str a) [.str b] H Q := ⟨a, b, rfl, rfl, hb, ha, q⟩
theorem st_starts {a b : Str} (q : Q (.bl (Txt.startswith a b)) H) : rStarts (.str a) [.str b] H Q := ⟨a, b, rfl, rfl, q⟩
theorem st_inSign {c : Nat} {z : Str} (q : Q (.bl (decide (c ∈ z.cps.toList))) H) : rInSign (.str ⟨#[c]⟩) (.str z) H Q := ⟨c, z, rfl, rfl, q⟩
theorem st_addS {i j : Str} (h : i.length + j.length ≤ sizeLine) (q : Q (.str (i ++ j)) H) : rAddS (.str i) (.str j) H Q := ⟨i, j, rfl, rfl, h, q⟩
theorem st_isNo (q : Q (.bl (decide (x = .non))) H) : rIsNo x .non H Q := ⟨rfl, q⟩
theorem st_strx {A : Prop} {a : Str} (h : A) : (∃ b, V.str a = .str b) ∧ A := ⟨⟨a, rfl⟩, h⟩
theorem st_cat {p q : Addr} {xs ys : List V} (h1 : H p = some (.lst xs)) (h2 : H q = some (.lst ys)) (hz : xs.length + ys.length ≤ sizeLine) (k : ∀ r, H r = none → Q (.ref r) (upd H r (.lst (xs ++ ys)))) : rCat (.ref p) (.ref q) H Q := ⟨p, q, xs, ys, rfl, rfl, h1, h2, hz, k⟩
theorem st_setL {p : Addr} {xs : List V} {i : Int} {j : Nat} {Q : Hp → Prop} (h : H p = some (.lst xs)) (hi : ixN xs.length i = some j) (q : Q (upd H p (.lst (xs.set j v)))) : rSetL (.ref p) (.int i) v H Q := ⟨p, xs, i, j, rfl, rfl, h, hi, q⟩
theorem st_append {l : Addr} {xs : List V} (h : H l = some (.lst xs)) (hz : xs.length < sizeLine) (q : Q .non (upd H l (.lst (xs ++ [y])))) : rAppend (.ref l) [y] H Q := ⟨l, xs, y, rfl, rfl, h, hz, q⟩
theorem st_tyL {p : Addr} {xs : List V} {A : Prop} (h : SqL K H p xs) (a : A) : tyV K "list" (.ref p) H ∧ A := ⟨.inl ⟨rfl, xs, h⟩, a⟩

/-- a and b as a value: the ways meet again -/
theorem st_meet {R : VK} {te : L2.St → Hp → VK → Prop} {d b : Bool} (hte : d = true → ∀ R' : VK, (∀ H2, Gr H H2 → R' (.bl b) H2) → te σ H R') (hf : d = false → b = false) (k : ∀ H2, Gr H H2 → R (.bl b) H2) : if d = true then te σ H R else R (.bl false) H := by
  cases d with
  | true => exact iteT (hte rfl R k)
  | false =>
    have k0 := k H (Gr.refl H)
    rw [hf rfl] at k0
    exact iteF k0
theorem iteNT {A B : Prop} (h : A) : if (!false) = true then A else B := iteT h
theorem iteNF {A B : Prop} (h : B) : if (!true) = true then A else B := iteF h
theorem st_tAllS {Pt : Addr} {pb : Nat → Bool} (h : te σ H fun v H1 => ∃ a : Str, v = .str a ∧ GxR.TabG H1 Pt ∧ ∀ H2, GxR.Tabbed Pt H1 H2 → Q (.bl (a.cps.toList.all pb)) H2) : GxR.tAllS Pt pb te σ H Q := h
theorem st_allS {z : Str} {Pt : Addr} {pb : Nat → Bool} (t : GxR.TabG H Pt) (q : ∀ H2, Gr H H2 → Q (.bl (z.cps.toList.all pb)) H2) : GxR.TabG H Pt ∧ ∀ H2, GxR.Tabbed Pt H H2 → Q (.bl (z.cps.toList.all pb)) H2 := ⟨t, fun H2 tb => q H2 (Gr.tabbed t tb)⟩

/-! ### statements -/
variable {n : L2.St → Hp → Prop} {rt : VK} {b c : L2.St → Hp → Prop} {ts us : TS} {D : Ends}
theorem st_seq (h : ts ⟨us ⟨n, rt, b, c⟩, rt, b, c⟩ σ H) : tSeq ts us ⟨n, rt, b, c⟩ σ H := h
theorem st_asg {i : Nat} (h : te σ H fun x H1 => n (σ.set i (some x)) H1) : tAsg te (gName i) ⟨n, rt, b, c⟩ σ H := h
theorem st_asgSub {to ti : TE} {tset : TSet} (h : te σ H fun x H1 => to σ H1 fun o H2 => ti σ H2 fun i H3 => tset o i x H3 fun H4 => n σ H4) : tAsg te (gSub to ti tset) ⟨n, rt, b, c⟩ σ H := h
theorem st_ifS (h : t σ H fun k H1 => if k = true then ts D σ H1 else us D σ H1) : tIfS t ts us D σ H := h
theorem st_next (q : n σ H) : tNext ⟨n, rt, b, c⟩ σ H := q
theorem st_ret (h : te σ H rt) : tRet te ⟨n, rt, b, c⟩ σ H := h
theorem st_retN (q : rt .non H) : tRetN ⟨n, rt, b, c⟩ σ H := q
theorem st_drop (h : te σ H fun _ H1 => n σ H1) : tDrop te ⟨n, rt, b, c⟩ σ H := h
/-- a loop's end, a comprehension's end, by a name -/
def LF (g : TG) (tb : TS) (D : Ends) (σ : L2.St) (J : It) (H : Hp) : Prop := ∃ W : Nat → Nat → L2.St → Hp → Prop, (∃ m, W 0 m σ H) ∧ ∀ i m σ H, W i m σ H →
  (J.stop i H ∧ D.nx σ H) ∨ (J.go i H ∧ ∃ N : L2.St → Hp → Prop, (∀ σ' H', N σ' H' → ∃ m', m' < m ∧ W (i + 1) m' σ' H') ∧ ∀ x H', J.yld i H x H' → g x σ H' fun σ2 H2 => tb { D with nx := N, ct := N, bk := D.nx } σ2 H2)
def LC (g : TG) (tt : TT) (te : TE) (vs : List Nat) (σ : L2.St) (Q : VK) (J : It) (H1 : Hp) : Prop := ∀ D, H1 D = none → ∃ W : Nat → Nat → Hp → Prop, (∃ m, W 0 m (upd H1 D (.lst []))) ∧ ∀ i m H, W i m H →
  (J.stop i H ∧ Q (.ref D) H) ∨ (J.go i H ∧ ∃ Nx : Hp → Prop, (∀ H', Nx H' → ∃ m', m' < m ∧ W (i + 1) m' H') ∧ ∀ x H', J.yld i H x H' → g x (wipe σ vs) H' fun σ2 H2 => wipe σ2 vs = wipe σ vs ∧ tt σ2 H2 fun b H3 =>
    if b = true then te σ2 H3 fun y H4 => ∃ acc, H4 D = some (.lst acc) ∧ acc.length < sizeLine ∧ Nx (upd H4 D (.lst (acc ++ [y]))) else Nx H3)
theorem st_lc {wi : TI} {g : TG} {tt : TT} {vs : List Nat} (h : wi σ H (LC g tt te vs σ Q)) : tLc wi g tt te vs σ H Q := h
theorem st_for {wi : TI} {g : TG} {tb : TS} (h : wi σ H (LF g tb D σ)) : tFor wi g tb D σ H := h
variable {R : It → Hp → Prop}
theorem st_iL {tl : TE} (h : tl σ H fun x H1 => ∃ a, x = .ref a ∧ (∃ xs, SqL K H1 a xs) ∧ R (Itl K a) H1) : iList K tl σ H R := h
theorem st_exL {a : Addr} {xs : List V} (hs : SqL K H a xs) (h : R (Itl K a) H) : ∃ a', V.ref a = .ref a' ∧ (∃ xs, SqL K H a' xs) ∧ R (Itl K a') H := ⟨a, rfl, ⟨xs, hs⟩, h⟩
theorem st_iT {tl : TE} (h : tl σ H fun x H1 => ∃ a, x = .ref a ∧ (∃ xs, SqT K H1 a xs) ∧ R (Itt K a) H1) : iTup K tl σ H R := h
theorem st_exT {a : Addr} {xs : List V} (hs : SqT K H a xs) (h : R (Itt K a) H) : ∃ a', V.ref a = .ref a' ∧ (∃ xs, SqT K H a' xs) ∧ R (Itt K a') H := ⟨a, rfl, ⟨xs, hs⟩, h⟩
theorem st_iR {ta : TA} (h : ta σ H fun vs H1 => ∃ j : Int, vs = [.int j] ∧ -(2 ^ 62) ≤ j ∧ j < 2 ^ 62 ∧ R (Itr 0 j.toNat) H1) : iRng1 ta σ H R := h
theorem st_exR {j : Int} (h1 : 0 ≤ j) (h2 : j ≤ 1000000) (h : R (Itr 0 j.toNat) H) : ∃ i : Int, [V.int j] = [V.int i] ∧ -(2 ^ 62) ≤ i ∧ i < 2 ^ 62 ∧ R (Itr 0 i.toNat) H := ⟨j, rfl, by omega, by omega, h⟩
theorem st_iS {te : TE} (h : te σ H fun v H1 => ∃ x, v = .str x ∧ R (Its x) H1) : iStr te σ H R := h
theorem st_exS {P : Str → Prop} {z : Str} (h : P z) : ∃ x, V.str z = .str x ∧ P x := ⟨z, rfl, h⟩
end

/-! ### comprehensions: what each turn gives (f), nothing else changed but by growth -/
theorem filterMap_snoc {n : Nat} {f : Nat → Option V} : (List.range (n + 1)).filterMap f = (List.range n).filterMap f ++ (match f n with | some v => [v] | none => []) := by
  rw [List.range_succ, List.filterMap_append]
  congr 1
  cases e : f n <;> simp [e]
theorem filterMap_len (n : Nat) (f : Nat → Option V) : ((List.range n).filterMap f).length ≤ n := by
  have h := List.length_filterMap_le f (List.range n)
  rw [List.length_range] at h
  exact h
theorem lc_gr {J : It} {n : Nat} {G : Hp → Prop} {Y : Nat → V → Prop} {j : Nat} {tt : TT} {te : TE} {vs : List Nat} {σ : L2.St} {H1 : Hp} {Q : VK} (w : Walk J n G (fun i H x H' => H' = H ∧ Y i x)) (hG : ∀ H', Gr H1 H' → G H') (f : Nat → Option V)
    (hs : ∀ i x H2, i < n → Y i x → Gr H1 H2 → ∀ (Qy : VK) (Qn : Hp → Prop), (∀ v H3, f i = some v → Gr H2 H3 → Qy v H3) → (f i = none → ∀ H3, Gr H2 H3 → Qn H3) → tt ((wipe σ vs).set j (some x)) H2 fun b H3 => if b = true then te ((wipe σ vs).set j (some x)) H3 Qy else Qn H3)
    (hq : ∀ D H2, H1 D = none → Gr H1 H2 → H2 D = some (.lst ((List.range n).filterMap f)) → Q (.ref D) H2)
    (hn : n ≤ 1000000) (hw : ∀ x, wipe ((wipe σ vs).set j (some x)) vs = wipe σ vs) : LC (gName j) tt te vs σ Q J H1 := by
  intro D hD
  refine lc_it w (fun i H' => Gr H1 H' ∧ H' D = some (.lst ((List.range i).filterMap f))) ⟨Gr.new hD, upd_same⟩ (fun i H' _ p => hG H' p.1) ?_ (fun H' p => hq D H' hD p.1 p.2)
  rintro i x H' H'' hi ⟨g, e⟩ ⟨rfl, y⟩
  refine ⟨hw x, hs i x H'' hi y g _ _ (fun v H3 ef g3 => ?_) (fun ef H3 g3 => ?_)⟩
  · refine ⟨(List.range i).filterMap f, g3.lst e, ?_, (g.trans g3).mut hD, ?_⟩
    · have := filterMap_len i f
      exact sz_lt (by omega)
    · rw [filterMap_snoc, ef]
      exact upd_same
  · refine ⟨g.trans g3, ?_⟩
    rw [filterMap_snoc, ef]
    show H3 D = some (HO.lst (_ ++ []))
    rw [List.append_nil]
    exact g3.lst e
/-- a for over it -/
theorem st_loop {J : It} {m : Nat} {G : Hp → Prop} {Y : Nat → V → Prop} {j : Nat} {tb : TS} {n : L2.St → Hp → Prop} {rt : VK} {b c : L2.St → Hp → Prop} {σ : L2.St} {H : Hp} (w : Walk J m G (fun i H x H' => H' = H ∧ Y i x)) (Pv : Nat → L2.St → Hp → Prop) (h0 : Pv 0 σ H)
    (hG : ∀ i σ H, i ≤ m → Pv i σ H → G H) (hs : ∀ i x σ H, i < m → Pv i σ H → Y i x → tb ⟨Pv (i + 1), rt, n, Pv (i + 1)⟩ (σ.set j (some x)) H) (hd : ∀ σ H, Pv m σ H → n σ H) : LF (gName j) tb ⟨n, rt, b, c⟩ σ J H :=
  for_it w Pv h0 hG (fun i x σ H H' hi p y => by
    obtain ⟨rfl, y⟩ := y
    exact hs i x σ H' hi p y) hd
theorem filterMap_some {n : Nat} (f : Nat → V) : (List.range n).filterMap (fun i => some (f i)) = (List.range n).map f := by
  induction n with
  | zero => rfl
  | succ n ih => rw [List.range_succ, List.filterMap_append, List.map_append, ih] <;> rfl
theorem range_map_get (xs : List V) (f : V → V) (d : V) : (List.range xs.length).map (fun i => f (xs.getD i d)) = xs.map f := by
  induction xs with
  | nil => rfl
  | cons x r ih =>
    rw [List.length_cons, List.range_succ_eq_map, List.map_cons, List.map_map, List.map_cons, ← ih]
    rfl
/-- over a list, each item gives f of it -/
theorem lc_l {K : PySem.W.Frag} {a : Addr} {xs : List V} {j : Nat} {te : TE} {vs : List Nat} {σ : L2.St} {H1 : Hp} {Q : VK} (f : V → V) (h : SqL K H1 a xs)
    (hs : ∀ (i : Nat) (x : V) (H2 : Hp), xs[i]? = some x → Gr H1 H2 → ∀ Qy : VK, (∀ H3, Gr H2 H3 → Qy (f x) H3) → te ((wipe σ vs).set j (some x)) H2 Qy)
    (hq : ∀ D H2, H1 D = none → Gr H1 H2 → H2 D = some (.lst (xs.map f)) → Q (.ref D) H2)
    (hn : xs.length ≤ 1000000) (hw : ∀ x, wipe ((wipe σ vs).set j (some x)) vs = wipe σ vs := by intro _; rfl) : LC (gName j) tYes te vs σ Q (Itl K a) H1 := by
  refine lc_gr (n := xs.length) (Y := fun i x => xs[i]? = some x) walk_list (fun H' g => g.l h) (fun i => some (f (xs.getD i .non))) (fun i x H2 hi y g Qy Qn q1 q2 => ?_) (fun D H2 hD g e => hq D H2 hD g ?_) hn hw
  · refine iteT (B := Qn H2) (hs i x H2 y g Qy fun H3 g3 => q1 _ H3 ?_ g3)
    rw [List.getD_eq_getElem?_getD, y] <;> rfl
  · rw [e, filterMap_some, range_map_get xs f .non]
/-- over a list, with a test: f of an item, where it is some *-/
theorem lc_lf {K : PySem.W.Frag} {a : Addr} {xs : List V} {j : Nat} {tt : TT} {te : TE} {vs : List Nat} {σ : L2.St} {H1 : Hp} {Q : VK} (f : V → Option V) (h : SqL K H1 a xs)
    (hs : ∀ (i : Nat) (x : V) (H2 : Hp), xs[i]? = some x → Gr H1 H2 → ∀ (Qy : VK) (Qn : Hp → Prop), (∀ v H3, f x = some v → Gr H2 H3 → Qy v H3) → (f x = none → ∀ H3, Gr H2 H3 → Qn H3) → tt ((wipe σ vs).set j (some x)) H2 fun b H3 => if b = true then te ((wipe σ vs).set j (some x)) H3 Qy else Qn H3)
    (hq : ∀ D H2, H1 D = none → Gr H1 H2 → H2 D = some (.lst (xs.filterMap f)) → Q (.ref D) H2)
    (hn : xs.length ≤ 1000000) (hw : ∀ x, wipe ((wipe σ vs).set j (some x)) vs = wipe σ vs := by intro _; rfl) : LC (gName j) tt te vs σ Q (Itl K a) H1 := by
  have e0 : ∀ (i : Nat) (x : V), xs[i]? = some x → f (xs.getD i .non) = f x := fun i x y => by rw [List.getD_eq_getElem?_getD, y] <;> rfl
  refine lc_gr (n := xs.length) (Y := fun i x => xs[i]? = some x) walk_list (fun H' g => g.l h) (fun i => f (xs.getD i .non)) (fun i x H2 hi y g Qy Qn q1 q2 => ?_) (fun D H2 hD g e => hq D H2 hD g ?_) hn hw
  · refine hs i x H2 y g Qy Qn (fun v H3 q => q1 v H3 ?_) (fun q => q2 ?_)
    · rw [e0 i x y]
      exact q
    · rw [e0 i x y]
      exact q
  · rw [e]
    have k : ∀ l : List V, (List.range l.length).filterMap (fun i => f (l.getD i .non)) = l.filterMap f := by
      intro l
      induction l with
      | nil => rfl
      | cons x r ih =>
        rw [List.length_cons, List.range_succ_eq_map, List.filterMap_cons, List.filterMap_cons, List.filterMap_map, ← ih]
        rfl
    rw [k]
theorem lc_r {n : Nat} {j : Nat} {te : TE} {vs : List Nat} {σ : L2.St} {H1 : Hp} {Q : VK} (f : Nat → V)
    (hs : ∀ (i : Nat) H2, i < n → Gr H1 H2 → ∀ Qy : VK, (∀ H3, Gr H2 H3 → Qy (f i) H3) → te ((wipe σ vs).set j (some (.int (i : Int)))) H2 Qy)
    (hq : ∀ D H2, H1 D = none → Gr H1 H2 → H2 D = some (.lst ((List.range n).map f)) → Q (.ref D) H2)
    (hn : n ≤ 1000000) (hw : ∀ x, wipe ((wipe σ vs).set j (some x)) vs = wipe σ vs := by intro _; rfl) : LC (gName j) tYes te vs σ Q (Itr 0 n) H1 := by
  refine lc_gr (n := n) (Y := fun i x => x = .int (0 + (i : Int))) walk_range (fun _ _ => True.intro) (fun i => some (f i)) (fun i x H2 hi y g Qy Qn q1 q2 => ?_) (fun D H2 hD g e => hq D H2 hD g ?_) hn hw
  · subst y
    rw [Int.zero_add]
    exact iteT (B := Qn H2) (hs i H2 hi g Qy fun H3 g3 => q1 _ H3 rfl g3)
  · rw [e, filterMap_some]
theorem lc_s {z : Str} {j : Nat} {te : TE} {vs : List Nat} {σ : L2.St} {H1 : Hp} {Q : VK} (f : Nat → V)
    (hs : ∀ (c : Nat) H2, c ∈ z.cps.toList → Gr H1 H2 → ∀ Qy : VK, (∀ H3, Gr H2 H3 → Qy (f c) H3) → te ((wipe σ vs).set j (some (.str ⟨#[c]⟩))) H2 Qy)
    (hq : ∀ D H2, H1 D = none → Gr H1 H2 → H2 D = some (.lst (z.cps.toList.map f)) → Q (.ref D) H2)
    (hn : z.length ≤ 1000000) (hw : ∀ x, wipe ((wipe σ vs).set j (some x)) vs = wipe σ vs := by intro _; rfl) : LC (gName j) tYes te vs σ Q (Its z) H1 := by
  refine lc_gr (n := z.cps.size) (Y := fun i v => ∃ c, z.cps[i]? = some c ∧ v = .str ⟨#[c]⟩) walk_str (fun _ _ => True.intro) (fun i => some (f (z.cps.toList.getD i 0))) (fun i x H2 hi y g Qy Qn q1 q2 => ?_) (fun D H2 hD g e => hq D H2 hD g ?_) hn hw
  · obtain ⟨c, e, rfl⟩ := y
    have e2 : z.cps.toList[i]? = some c := by rw [Array.getElem?_toList]; exact e
    refine iteT (B := Qn H2) (hs c H2 (List.mem_of_getElem? e2) g Qy fun H3 g3 => q1 _ H3 ?_ g3)
    rw [List.getD_eq_getElem?_getD, e2] <;> rfl
  · rw [e, filterMap_some]
    have k : ∀ l : List Nat, (List.range l.length).map (fun i => f (l.getD i 0)) = l.map f := by
      intro l
      induction l with
      | nil => rfl
      | cons x r ih =>
        rw [List.length_cons, List.range_succ_eq_map, List.map_cons, List.map_map, List.map_cons, ← ih]
        rfl
    rw [← Array.length_toList, k]

/-! ### a def of the module, called by its name -/
structure Df (P : Program) (w : World) (K : PySem.W.Frag) (mg : Str → Option Value) (base : Heap) (k : Nat) (x : Str) (ps : List Str) (sp : Sp) : Prop where
  ex : ∃ (f : Addr) (fd : FuncData), FnOk P w K mg base (L2N.CX P w) k f fd ps sp ∧ mg x = some (.ref f) ∧ PySem.W.keepIn K (.ref f) = true ∧ Binds K fd ps []
section
variable {X : Cx} {k j : Nat} {ps : List Str} {x : Str} {sp : Sp} {p pos : Pos} {e : Expr} {es : List Expr} {t : TA}
theorem pe_d0 (c : Df X.prog X.w X.K X.mg X.base k x ps sp) (hr : Room k X.A) (hg : Gl X x) (ha : PA X (e :: es) t)
    (hdb : (x == ("__debug__" : Str)) = false := by decide) (he : starEach (e :: es) X.env = (false, eval e X.env) :: starEach es X.env := by rfl) (hpl : (backTo pos (starEach es X.env)).any (·.1) = false := by rfl) :
    PE X (.Call (.Name x p) (e :: es) [] pos) (tCall sp [] E0 t) := by
  obtain ⟨f, fd, F, hm, kp, b⟩ := c.ex
  exact pe_call F hr hg hm kp b .nil passLN ha hdb he hpl
theorem pe_dE {E : XK} (c : Df X.prog X.w X.K X.mg X.base k x ps sp) (hr : Room k X.A) (hg : Gl X x) (tk : L2N.Takes X (fun cls d _ H => E cls d H)) (ha : PA X (e :: es) t)
    (hdb : (x == ("__debug__" : Str)) = false := by decide) (he : starEach (e :: es) X.env = (false, eval e X.env) :: starEach es X.env := by rfl) (hpl : (backTo pos (starEach es X.env)).any (·.1) = false := by rfl) :
    PE X (.Call (.Name x p) (e :: es) [] pos) (tCall sp [] E t) := by
  obtain ⟨f, fd, F, hm, kp, b⟩ := c.ex
  exact pe_call F hr hg hm kp b .nil (L2N.passes_call tk fun _ _ _ _ h => h) ha hdb he hpl
end
/-! ### a call of a local that holds a def which may raise; what is raised is wished for at the slots -/
def tCallLS (i : Nat) (S : Addr → Sp → Prop) (E : L2.St → XK) (t : TA) : TE := fun σ H Q => ∃ f sp, σ[i]? = some (some (.ref f)) ∧ S f sp ∧ t σ H fun vs H1 => sp vs H1 Q (E σ)
structure HeldX (P : Program) (w : World) (K : PySem.W.Frag) (mg : Str → Option Value) (base : Heap) (k : Nat) (f : Addr) (sp : Sp) : Prop where
  ex : ∃ (fd : FuncData) (ps : List Str), FnOk P w K mg base (L2N.CX P w) k f fd ps sp ∧ PySem.W.keepIn K (.ref f) = true ∧ Binds K fd ps []
section
variable {X : Cx} {k i : Nat} {x : Str} {p pos : Pos} {e : Expr} {es : List Expr} {t : TA}
theorem pe_callLS {S : Addr → Sp → Prop} {E : L2.St → XK} (A : ∀ f sp, S f sp → HeldX X.prog X.w X.K X.mg X.base k f sp) (hr : Room k X.A) (hx : ∀ σ, PassesAt (L2N.CX X.prog X.w) X σ (E σ)) (hN : X.N[i]? = some x) (hv : Vis X.env.scope x) (ha : PA X (e :: es) t)
    (hdb : (x == ("__debug__" : Str)) = false := by decide) (hcd : (x == ("__classdict__" : Str)) = false := by decide)
    (he : starEach (e :: es) X.env = (false, eval e X.env) :: starEach es X.env := by rfl) (hpl : (backTo pos (starEach es X.env)).any (·.1) = false := by rfl) : PE X (.Call (.Name x p) (e :: es) [] pos) (tCallLS i S E t) := by
  refine ⟨fun pins s σ H Q I h => ?_⟩
  obtain ⟨f, sp, hs, hS, ht⟩ := h
  obtain ⟨fd, ps, F, hk, hb⟩ := (A f sp hS).ex
  refine wpAny_Call_Name_kw (thn ((pe_var (pos := p) hN hv hdb hcd).run pins s σ H (fun v H1 => v = .ref f ∧ H1 = H) I ⟨.ref f, hs, rfl, rfl⟩) fun u s1 ⟨v, H1, I1, r1, q1⟩ => ?_)
  obtain ⟨rfl, rfl⟩ := q1
  cases r1
  refine PySem.W.callWith_K (h₀ := X.base) I.ok.mod.kin hk (thn (ha.run pos pins s1 σ _ _ I1 ht) fun us s2 ⟨vs, H2, I2, r, q⟩ => ⟨I2.kIn, ?_⟩) he hpl
  exact run_fnS F hr hb (hx σ) I2 r q
/-- a block whose rules stand on a fact: the fact is asked ahead of it -/
theorem pss_guard {sts : List Stmt} {ts : TS} {p : Prop} (h : p → PSs X sts ts) : PSs X sts (fun D σ H => p ∧ ts D σ H) :=
  ⟨fun pins s σ H D I q => (h q.1).run pins s σ H D I q.2⟩
end
theorem atI_getD {l : List Nat} {i : Int} (h0 : 0 ≤ i) (h1 : i < (l.length : Int)) : atI l i = some (l.getD i.toNat 0) := by
  have e : i = ((i.toNat : Nat) : Int) := (Int.toNat_of_nonneg h0).symm
  have hl : i.toNat < l.length := by omega
  rw [e]
  refine atI_nat ?_
  rw [List.getD_eq_getElem?_getD, Int.toNat_natCast, List.getElem?_eq_getElem hl] <;> rfl
theorem atI_getV {l : List V} {i : Int} (h0 : 0 ≤ i) (h1 : i < (l.length : Int)) : ∃ v, v ∈ l ∧ atI l i = some v := by
  obtain ⟨j, rfl⟩ : ∃ j : Nat, i = (j : Int) := ⟨i.toNat, (Int.toNat_of_nonneg h0).symm⟩
  have hl : j < l.length := by omega
  exact ⟨l[j], List.getElem_mem hl, atI_nat (List.getElem?_eq_getElem hl)⟩
end My
namespace My
open PySem PySem.Spec PyProof.Rows L2
/-! ### texts by their order -/
def ltS (a b : Str) : Bool := decide (a.cps.toList < b.cps.toList)
theorem ltS_irr (a : Str) : ltS a a = false := decide_eq_false (List.lt_irrefl _)
theorem ltS_tr {a b c : Str} (h : ltS a b = true) (h2 : ltS b c = true) : ltS a c = true := decide_eq_true (List.lt_trans (of_decide_eq_true h) (of_decide_eq_true h2))
theorem ltS_as {a b : Str} (h : ltS a b = true) : ltS b a = false := decide_eq_false (List.lt_asymm (of_decide_eq_true h))
theorem str_ext {a b : Str} (h : a.cps.toList = b.cps.toList) : a = b := by
  cases a with
  | mk x =>
    cases b with
    | mk y =>
      have e : x = y := by
        cases x with
        | mk u =>
          cases y with
          | mk v => exact congrArg _ h
      rw [e]
theorem ltS_tri {a b : Str} (h : ltS a b = false) (h2 : ltS b a = false) : a = b := str_ext (List.le_antisymm (List.not_lt.mp (of_decide_eq_false h2)) (List.not_lt.mp (of_decide_eq_false h)))
theorem ltS_ne {a b : Str} (h : ltS a b = true) : a ≠ b := fun e => by
  rw [e, ltS_irr] at h
  cases h
theorem ltS_cot {a b c : Str} (h1 : ltS b a = false) (h2 : ltS c b = false) : ltS c a = false := by
  cases e : ltS c a with
  | false => rfl
  | true =>
    cases e2 : ltS a b with
    | true =>
      rw [ltS_tr e e2] at h2
      cases h2
    | false =>
      rw [ltS_tri e2 h1] at e
      rw [e] at h2
      cases h2
/-! ### sorting texts and keys of a dict, any number of them -/
namespace St
open SrtO Srt
section
variable {prog : Program} {w : World} {A : Around} {E : Value → Shared → Prop} {s : Shared}
def sv : Value → Str
  | .str x _ => x
  | _ => ⟨#[]⟩
def ltSv (v u : Value) : Bool := ltS (sv v) (sv u)
theorem swo_str : Swo ltSv := ⟨fun x y h => ltS_as h, fun x y z h1 h2 => ltS_cot h1 h2⟩
theorem strs_mem : ∀ {vs : List Value} {ns : List Str}, StrsAre vs ns → ∀ v ∈ vs, ∃ i t, v = Value.str i t
  | _, _, .nil, v, h => absurd h (by simp)
  | _, _, .cons n t r, v, h => by
    rcases List.mem_cons.mp h with e | h
    · exact ⟨n, t, e⟩
    · exact strs_mem r v h
theorem strs_sv : ∀ {vs : List Value}, (∀ v ∈ vs, ∃ i t, v = Value.str i t) → StrsAre vs (vs.map sv)
  | [], _ => .nil
  | v :: vs, h => by
    obtain ⟨i, t, e⟩ := h v List.mem_cons_self
    subst e
    exact .cons i t (strs_sv fun u hu => h u (List.mem_cons_of_mem _ hu))
theorem sv_strs : ∀ {vs : List Value} {ns : List Str}, StrsAre vs ns → vs.map sv = ns
  | _, _, .nil => rfl
  | _, _, .cons n t r => congrArg (n :: ·) (sv_strs r)
theorem str_cmp {vs : List Value} {ns : List Str} (hI : StrsAre vs ns) : Cmp prog w A s oneType' (fun p => p.1 ∈ vs) (lt2 ltSv) := by
  intro p q hm hm'
  obtain ⟨a, t, e⟩ := strs_mem hI _ hm
  obtain ⟨b, u, e'⟩ := strs_mem hI _ hm'
  show wpAny (model prog w) A (keyLt' oneType' p.1 q.1) (fun r s' => s' = s ∧ r = ltSv p.1 q.1) (fun _ _ => False) s
  rw [e, e', keyLt'_oneType]
  exact oneLt_str ⟨rfl, rfl⟩
theorem strs_sortable {a : Addr} {vs : List Value} {ns : List Str} (hI : StrsAre vs ns) (h2 : 2 ≤ vs.length) : SortableO prog w A s a vs ltSv := by
  intro h' _
  refine ⟨oneType', fun Q E hq => ?_, str_cmp hI⟩
  match vs, hI, h2 with
  | v1 :: v2 :: rest, hI, _ =>
    rw [keyKind_strs hI]
    exact wpAny_pure hq
  | [], _, h => exact absurd h (by decide)
  | [v], _, h => exact absurd h (by simp)
theorem strs_out {vs out : List Value} {ns : List Str} (hI : StrsAre vs ns) (hs : Srtd ltSv out) (hb : Stb ltSv out vs) : StrsAre out (out.map sv) ∧ (out.map sv).Perm ns ∧ (out.map sv).Pairwise (fun a b => ltS b a = false) := by
  refine ⟨strs_sv fun v hv => strs_mem hI v (hb.perm.mem_iff.mp hv), ?_, ?_⟩
  · have q := hb.perm.map sv
    rw [sv_strs hI] at q
    exact q
  · exact List.pairwise_map.mpr (hs.imp fun {x y} h => h)
end
end St
def SrtS (ys : List Str) : Prop := ys.Pairwise fun a b => ltS b a = false
def rSortedSA (K : PySem.W.Frag) : List V → Hp → VK → Prop := fun vs H Q => ∃ (a : Addr) (ns : List Str), vs = [V.ref a] ∧ SqL K H a (ns.map V.str) ∧
  ∀ (ns' : List Str) (p : Addr), ns'.Perm ns → SrtS ns' → H p = none → Q (.ref p) (upd H p (.lst (ns'.map V.str)))
def rSortedDSA : List V → Hp → VK → Prop := fun xs H Q => ∃ (a : Addr) (kvs : List (Key × V)) (ks : List Str), xs = [.ref a] ∧ Rd H a (.dK kvs) ∧ kvs.map (·.1) = ks.map Sum.inr ∧ ks.length ≤ 1000000 ∧
    ∀ ys p, ys.Perm ks → SrtS ys → H p = none → Q (.ref p) (upd H p (.lst (ys.map V.str)))
def rSortedDIA : List V → Hp → VK → Prop := fun xs H Q => ∃ (a : Addr) (kvs : List (Key × V)) (ks : List Int), xs = [.ref a] ∧ Rd H a (.dK kvs) ∧ kvs.map (·.1) = ks.map Sum.inl ∧ ks.length ≤ 1000000 ∧
    ∀ (ys : List Int) p, ys.Perm ks → ys.Pairwise (· ≤ ·) → H p = none → Q (.ref p) (upd H p (.lst (ys.map V.int)))
section
variable {X : Cx}
theorem cr_sortedSA : CallR X (.builtin "sorted") (rSortedSA X.K) := by
  intro pins s σ H vs us Q I r h
  obtain ⟨a, ns, rfl, hs, q⟩ := h
  obtain ⟨its, rv, hl, hz⟩ := I.list hs
  rw [Vals.ref1 r]
  have hi := rv.strs
  refine SrtO.sorted_ord St.swo_str hl.isList (by rw [← rv.length]; exact hz) (fun h2 h₁ a' _ _ => St.strs_sortable hi h2) fun out h1 h2 => ?_
  obtain ⟨k1, k2, k3⟩ := St.strs_out hi h1 h2
  obtain ⟨ep, he'⟩ := PyProof.Rows.sortedAll_at s.heap its out.toArray
  have hlen : ((out.map St.sv).map V.str).length ≤ sizeLine := by
    rw [List.length_map, k2.length_eq]
    rw [List.length_map] at hz
    exact hz
  exact ⟨.ref _, upd H (s.heap.objs.size + 1) (.lst ((out.map St.sv).map V.str)), I.laid (t' := s.toks) (fun _ _ => PyProof.Rows.sortedAll_old) (Nat.le_succ _) ⟨hlen, out, ep, vals_of_strs k1, he'⟩, rfl, q _ _ k2 k3 (I.hok.fresh (Nat.le_succ _))⟩
theorem cr_sortedDSA (hcalm : X.calm = true) : CallR X (.builtin "sorted") rSortedDSA := by
  intro pins s σ H xs us Q I r q
  obtain ⟨a, kvs, ks, ex, hd, hks, h64, q⟩ := q
  subst ex
  obtain ⟨u, eu, rx⟩ := vals1 r
  subst eu
  cases rx
  obtain ⟨z, lo, vs, rel, dd⟩ := dk_rd I.hok hd
  obtain ⟨ep, hat⟩ := dd.dictAt
  have hkeys : vs.map (·.1) = ks.map Sum.inr := rel.keys.symm.trans hks
  have hl : vs.length = ks.length := by
    have e := congrArg List.length hkeys
    rw [List.length_map, List.length_map] at e
    exact e
  have h16 : vs.length ≤ sizeLine := by rw [hl, sizeLine_eq]; omega
  refine Calls.call_function_entry PyProof.Rows.kind_sorted PyProof.Rows.plain_sorted PyProof.Rows.entry_sorted (PyProof.Rows.args_sorted1 _) ?_
  unfold Builtin.«sorted»
  refine wpAny_bind (m := checkCount "sorted" 1 1 _) (wpAny_pure ?_)
  refine wpAny_bind (PySem.W.kdu_collect (A := X.A.in1) (PySem.W.kdl_dict (knd := mixKind X.prog X.w) (kvs := vs) (ep := ep) lo) (I.ok.hd hcalm) hat h16 fun h' tk acc hk hacc => ?_)
  have hal : acc.toList.length = ks.length := by rw [Array.length_toList, hacc.1, hl]
  have hS : StrsAre acc.toList ks := strs_at hal fun j v e => by
    obtain ⟨k, x, e1, e2⟩ := hacc.2 j v (by rw [← Array.getElem?_toList]; exact e)
    have e3 : (vs.map (·.1))[j]? = some k := by rw [List.getElem?_map, e1]; all_goals rfl
    rw [hkeys, List.getElem?_map] at e3
    cases e4 : ks[j]? with
    | none => rw [e4] at e3; cases e3
    | some y =>
      rw [e4] at e3
      have e5 : Sum.inr y = k := Option.some.inj e3
      subst e5
      obtain ⟨t, ev⟩ := Value.isStrOf_shape (x := y) (v := v) e2
      exact ⟨y, t, rfl, ev⟩
  have I1 : Inv X pins σ H { s with heap := h', toks := tk } := I.kept hk
  refine wpAny_bind (wpAny_newList ?_ (by rw [hal, sizeLine_eq]; omega))
  have hoL : (h'.push (seqObj "list" acc.toList.toArray 0)).get? h'.objs.size = some (seqObj "list" acc.toList.toArray 0) := Heap.get?_push_size _ rfl
  show wpAny _ _ _ _ _ { s with heap := h'.push (seqObj "list" acc.toList.toArray 0), toks := tk }
  refine wpAny_bind (wpAny_holding (wpAny_call_entry PyProof.Rows.slot_list_sort ⟨_, hoL, rfl⟩ PyProof.Rows.entry_list_sort
    (SrtO.list_sort_ord (s := { s with heap := h'.push (seqObj "list" acc.toList.toArray 0), toks := tk }) St.swo_str hoL (by rw [hal, sizeLine_eq]; omega) (fun h2 => St.strs_sortable hS h2) fun out h1 h2 => ⟨_, rfl, ?_⟩)
    (PyProof.Rows.args_list_sort _)))
  obtain ⟨k1, k2, k3⟩ := St.strs_out hS h1 h2
  obtain ⟨e', he'⟩ := PyProof.Rows.sortedHeap_at (vs := acc.toList) (out := out.toArray) hoL
  have hlen : ((out.map St.sv).map V.str).length ≤ sizeLine := by
    rw [List.length_map, k2.length_eq, sizeLine_eq]
    omega
  refine wpAny_pure ⟨_, rfl, .ref h'.objs.size, upd H h'.objs.size (.lst ((out.map St.sv).map V.str)), I1.laid (t' := tk) (fun b u e => ?_) (Nat.le_refl _)
    (show ObjOk X.prog X.w _ _ _ (.lst ((out.map St.sv).map V.str)) from ⟨hlen, out, e', vals_of_strs k1, he'⟩), rfl, q _ _ k2 k3 (I1.hok.fresh (Nat.le_refl _))⟩
  have hb : b < h'.objs.size := Heap.lt_size e
  rw [PyProof.Rows.sortedHeap_old (Nat.ne_of_lt hb) (by rw [size_push']; exact Nat.lt_succ_of_lt hb)]
  exact Heap.get?_push_of_some _ e
theorem cr_sortedDIA (hcalm : X.calm = true) : CallR X (.builtin "sorted") rSortedDIA := by
  intro pins s σ H xs us Q I r q
  obtain ⟨a, kvs, ks, ex, hd, hks, h64, q⟩ := q
  subst ex
  obtain ⟨u, eu, rx⟩ := vals1 r
  subst eu
  cases rx
  obtain ⟨z, lo, vs, rel, dd⟩ := dk_rd I.hok hd
  obtain ⟨ep, hat⟩ := dd.dictAt
  have hkeys : vs.map (·.1) = ks.map Sum.inl := rel.keys.symm.trans hks
  have hl : vs.length = ks.length := by
    have e := congrArg List.length hkeys
    rw [List.length_map, List.length_map] at e
    exact e
  have h16 : vs.length ≤ sizeLine := by rw [hl, sizeLine_eq]; omega
  refine Calls.call_function_entry PyProof.Rows.kind_sorted PyProof.Rows.plain_sorted PyProof.Rows.entry_sorted (PyProof.Rows.args_sorted1 _) ?_
  unfold Builtin.«sorted»
  refine wpAny_bind (m := checkCount "sorted" 1 1 _) (wpAny_pure ?_)
  refine wpAny_bind (PySem.W.kdu_collect (A := X.A.in1) (PySem.W.kdl_dict (knd := mixKind X.prog X.w) (kvs := vs) (ep := ep) lo) (I.ok.hd hcalm) hat h16 fun h' tk acc hk hacc => ?_)
  have hal : acc.toList.length = ks.length := by rw [Array.length_toList, hacc.1, hl]
  have hS : IntsAre acc.toList ks := ints_each hal fun j v e => by
    obtain ⟨k, x, e1, e2⟩ := hacc.2 j v (by rw [← Array.getElem?_toList]; exact e)
    have e3 : (vs.map (·.1))[j]? = some k := by rw [List.getElem?_map, e1]; all_goals rfl
    rw [hkeys, List.getElem?_map] at e3
    cases e4 : ks[j]? with
    | none => rw [e4] at e3; cases e3
    | some y =>
      rw [e4] at e3
      have e5 : Sum.inl y = k := Option.some.inj e3
      subst e5
      rcases keyIs_shape (show keyIs (Sum.inl y) v = true from e2) with ⟨i, t, ek, ev⟩ | ⟨z, t, ek, ev⟩
      · cases ek
        exact ⟨y, t, rfl, ev⟩
      · cases ek
  have I1 : Inv X pins σ H { s with heap := h', toks := tk } := I.kept hk
  refine wpAny_bind (wpAny_newList ?_ (by rw [hal, sizeLine_eq]; omega))
  have hoL : (h'.push (seqObj "list" acc.toList.toArray 0)).get? h'.objs.size = some (seqObj "list" acc.toList.toArray 0) := Heap.get?_push_size _ rfl
  show wpAny _ _ _ _ _ { s with heap := h'.push (seqObj "list" acc.toList.toArray 0), toks := tk }
  refine wpAny_bind (wpAny_holding (wpAny_call_entry PyProof.Rows.slot_list_sort ⟨_, hoL, rfl⟩ PyProof.Rows.entry_list_sort
    (SrtO.list_sort_ord (s := { s with heap := h'.push (seqObj "list" acc.toList.toArray 0), toks := tk }) SrtO.swo_int hoL (by rw [hal, sizeLine_eq]; omega) (fun h2 => SrtO.ints_sortable hS h2) fun out h1 h2 => ⟨_, rfl, ?_⟩)
    (PyProof.Rows.args_list_sort _)))
  obtain ⟨k1, k2, k3⟩ := SrtO.ints_out hS h1 h2
  obtain ⟨e', he'⟩ := PyProof.Rows.sortedHeap_at (vs := acc.toList) (out := out.toArray) hoL
  have hlen : ((out.map SrtO.iv).map V.int).length ≤ sizeLine := by
    rw [List.length_map, k2.length_eq, sizeLine_eq]
    omega
  refine wpAny_pure ⟨_, rfl, .ref h'.objs.size, upd H h'.objs.size (.lst ((out.map SrtO.iv).map V.int)), I1.laid (t' := tk) (fun b u e => ?_) (Nat.le_refl _)
    (show ObjOk X.prog X.w _ _ _ (.lst ((out.map SrtO.iv).map V.int)) from ⟨hlen, out, e', vals_of_ints k1, he'⟩), rfl, q _ _ k2 k3 (I1.hok.fresh (Nat.le_refl _))⟩
  have hb : b < h'.objs.size := Heap.lt_size e
  rw [PyProof.Rows.sortedHeap_old (Nat.ne_of_lt hb) (by rw [size_push']; exact Nat.lt_succ_of_lt hb)]
  exact Heap.get?_push_of_some _ e
end
end My
namespace My
open PySem PySem.Spec PyProof.Rows L2
/-- a list or a tuple -/
def SqQ (K : PySem.W.Frag) (H : Hp) (p : Addr) (xs : List V) : Prop := SqL K H p xs ∨ SqT K H p xs
theorem Gr.q {K : PySem.W.Frag} {H H' : Hp} {a : Addr} {xs : List V} (g : Gr H H') (h : SqQ K H a xs) : SqQ K H' a xs := h.imp (fun z => g.l z) fun z => g.t z
def rIxQ (K : PySem.W.Frag) : R2 := fun x y H Q => ∃ p xs i v, x = .ref p ∧ y = .int i ∧ SqQ K H p xs ∧ atI xs i = some v ∧ Q v H
def rLtS : R2 := fun x y H Q => ∃ i j, x = .str i ∧ y = .str j ∧ Q (.bl (decide (i.cps.toList < j.cps.toList))) H
section
variable {X : Cx}
theorem ixQ {K : PySem.W.Frag} (h : X.K = K) : IxR X (rIxQ K) := by
  subst h
  intro value slice pins s σ H x y v u Q I rx ry q hs
  obtain ⟨p, xs, i, z, e1, e2, hq, he, k⟩ := q
  refine ix_seq value slice pins s σ H x y v u Q I rx ry ?_ hs
  rcases hq with hq | hq
  · exact .inl ⟨p, xs, i, z, e1, e2, hq, he, k⟩
  · exact .inr (.inl ⟨p, xs, i, z, e1, e2, hq, he, k⟩)
theorem cSortedSA {K : PySem.W.Frag} (h : X.K = K) : CallR X (.builtin "sorted") (rSortedSA K) := h ▸ cr_sortedSA
theorem oLtS : OpR X (compareOp .Lt) rLtS := op_lt_str
end
section
variable {K : PySem.W.Frag} {σ : L2.St} {H : Hp} {Q : VK} {v x y z : V} {te td ty tv tx to ti : TE} {rt : VK} {n b c : L2.St → Hp → Prop}
theorem st_ixQ {p : Addr} {xs : List V} {i : Int} (h : SqQ K H p xs) (ha : atI xs i = some v) (q : Q v H) : rIxQ K (.ref p) (.int i) H Q := ⟨p, xs, i, v, rfl, rfl, h, ha, q⟩
theorem st_ixT {p : Addr} {xs : List V} {i : Int} (h : SqT K H p xs) (ha : atI xs i = some v) (q : Q v H) : rIxT K (.ref p) (.int i) H Q := ⟨p, xs, i, v, rfl, rfl, h, ha, q⟩
theorem st_ltS {i j : Str} (q : Q (.bl (ltS i j)) H) : rLtS (.str i) (.str j) H Q := ⟨i, j, rfl, rfl, q⟩
theorem st_lenQ {p : Addr} {ys : List V} (h : SqQ K H p ys) (q : Q (.int ys.length) H) : rLenQ K [.ref p] H Q := ⟨p, ys, rfl, h, q⟩
theorem st_listQ {p : Addr} {ys : List V} (h : SqQ K H p ys) (q : ∀ l, H l = none → Q (.ref l) (upd H l (.lst ys))) : rListOf K [.ref p] H Q := ⟨p, ys, rfl, h, q⟩
theorem st_dnewK (q : ∀ p, H p = none → Q (.ref p) (upd H p (.dK []))) : tDNewK σ H Q := q
theorem st_dget (h : td σ H fun x H1 => ty σ H1 fun y H2 => ∃ a v, x = .ref a ∧ DGet H2 a y (some v) ∧ Q v H2) : tDGet td ty σ H Q := h
theorem st_din (h : ty σ H fun y H1 => td σ H1 fun x H2 => ∃ a o, x = .ref a ∧ DGet H2 a y o ∧ Q (.bl o.isSome) H2) : tDIn ty td σ H Q := h
theorem st_dnotin (h : ty σ H fun y H1 => td σ H1 fun x H2 => ∃ a o, x = .ref a ∧ DGet H2 a y o ∧ Q (.bl (!o.isSome)) H2) : tDNotIn ty td σ H Q := h
theorem st_dput (h : tv σ H fun v H1 => td σ H1 fun x H2 => ty σ H2 fun y H3 => ∃ a H4, x = .ref a ∧ DPut H3 a y v H4 ∧ n σ H4) : sDPut td ty tv ⟨n, rt, b, c⟩ σ H := h
theorem st_daug {rd : V → V → Hp → VK → Prop} (h : td σ H fun x H1 => ty σ H1 fun y H2 => ∃ a v, x = .ref a ∧ DGet H2 a y (some v) ∧
  tv σ H2 fun y2 H3 => rd v y2 H3 fun z H4 => ∃ H5, DPut H4 a y z H5 ∧ n σ H5) : sDAug td ty tv rd ⟨n, rt, b, c⟩ σ H := h
theorem st_ddel (h : td σ H fun x H1 => ty σ H1 fun y H2 => ∃ a kvs k, x = .ref a ∧ H2 a = some (.dK kvs) ∧ y = kV k ∧ (valV kvs k).isSome = true ∧ n σ (upd H2 a (.dK (dropK kvs k)))) : sDDel td ty ⟨n, rt, b, c⟩ σ H := h
theorem st_dget2 (h : td σ H fun x H1 => ∃ a, x = .ref a ∧ IsD H1 a ∧ ty σ H1 fun y H2 => tx σ H2 fun z H3 => ∃ o, DGet H3 a y o ∧ Q (o.getD z) H3) : tDGet2 td ty tx σ H Q := h
theorem st_dpop2 (h : td σ H fun x H1 => ∃ a, x = .ref a ∧ IsD H1 a ∧ ty σ H1 fun y H2 => tx σ H2 fun z H3 => ∃ kvs k, H3 a = some (.dK kvs) ∧ y = kV k ∧
  (∀ v, valV kvs k = some v → Q v (upd H3 a (.dK (dropK kvs k)))) ∧ (valV kvs k = none → Q z H3)) : tDPop2 td ty tx σ H Q := h
/-- the leaves: a dict with number and text keys -/
theorem lf_dget {a : Addr} {kvs : List (Key × V)} {k : Key} {P : V → Prop} (h : H a = some (.dK kvs)) (e : valV kvs k = some v) (q : P v) : ∃ a' v', V.ref a = .ref a' ∧ DGet H a' (kV k) (some v') ∧ P v' := ⟨a, v, rfl, e ▸ DGet.k h, q⟩
theorem lf_din {a : Addr} {kvs : List (Key × V)} {k : Key} {P : Bool → Prop} (h : H a = some (.dK kvs)) (q : P (valV kvs k).isSome) : ∃ a' o, V.ref a = .ref a' ∧ DGet H a' (kV k) o ∧ P o.isSome := ⟨a, _, rfl, DGet.k h, q⟩
theorem lf_dput {a : Addr} {kvs : List (Key × V)} {k : Key} {P : Hp → Prop} (h : H a = some (.dK kvs)) (hz : kvs.length < 1000000) (q : P (upd H a (.dK (putK kvs k v)))) : ∃ a' H4, V.ref a = .ref a' ∧ DPut H a' (kV k) v H4 ∧ P H4 := ⟨a, _, rfl, DPut.k h (sz_lt hz), q⟩
theorem st_delL (h : to σ H fun x H1 => ti σ H1 fun y H2 => ∃ (l : Addr) (xs : List V) (i : Int) (k : Nat), x = .ref l ∧ y = .int i ∧ H2 l = some (.lst xs) ∧ -(2 ^ 63) ≤ i ∧ i < 2 ^ 63 ∧ seqIndex? i xs.length = some k ∧ n σ (upd H2 l (.lst (xs.eraseIdx k)))) : tDelL to ti ⟨n, rt, b, c⟩ σ H := h
theorem seqIx_nat {j m : Nat} (h : j < m) : seqIndex? (j : Int) m = some j := by
  have e : ixN m (j : Int) = some j := by
    unfold ixN
    rw [if_pos (Int.natCast_nonneg j), if_pos (by omega), Int.toNat_natCast]
  exact (ixN_seq e).1
theorem lf_delL {l : Addr} {xs : List V} {j : Nat} {P : Hp → Prop} (h : H l = some (.lst xs)) (hj : j < xs.length) (hz : xs.length ≤ 1000000) (q : P (upd H l (.lst (xs.eraseIdx j)))) :
    ∃ (l' : Addr) (xs : List V) (i : Int) (k : Nat), V.ref l = .ref l' ∧ V.int (j : Int) = .int i ∧ H l' = some (.lst xs) ∧ -(2 ^ 63) ≤ i ∧ i < 2 ^ 63 ∧ seqIndex? i xs.length = some k ∧ P (upd H l' (.lst (xs.eraseIdx k))) :=
  ⟨l, xs, (j : Int), j, rfl, rfl, h, by omega, by omega, seqIx_nat hj, q⟩
theorem ixN_nat {j m : Nat} (h : j < m) : ixN m (j : Int) = some j := by
  unfold ixN
  rw [if_pos (Int.natCast_nonneg j), if_pos (by omega), Int.toNat_natCast]
theorem st_neg {b : Bool} {A B : Prop} (h1 : b = true → A) (h2 : b = false → B) : if b = true then A else B := ite3 h1 h2
end
/-! ### a comprehension whose turns make things: what has been made, told of the heap -/
theorem lc_acc {J : It} {n : Nat} {G : Hp → Prop} {Y : Nat → V → Prop} {j : Nat} {tt : TT} {te : TE} {vs : List Nat} {σ : L2.St} {H1 : Hp} {Q : VK} (w : Walk J n G (fun i H x H' => H' = H ∧ Y i x)) (hG : ∀ H', Gr H1 H' → G H') (A : Nat → List V → Hp → Prop)
    (a0 : ∀ H2, Gr H1 H2 → A 0 [] H2) (am : ∀ i acc H H', Gr H H' → A i acc H → A i acc H') (au : ∀ i acc H D xs ys, H D = some (.lst xs) → H1 D = none → A i acc H → A i acc (upd H D (.lst ys)))
    (hs : ∀ i x acc H2, i < n → Y i x → Gr H1 H2 → A i acc H2 → ∀ (Qy : VK) (Qn : Hp → Prop), (∀ v H3, Gr H2 H3 → A (i + 1) (acc ++ [v]) H3 → Qy v H3) → (∀ H3, Gr H2 H3 → A (i + 1) acc H3 → Qn H3) → tt ((wipe σ vs).set j (some x)) H2 fun b H3 => if b = true then te ((wipe σ vs).set j (some x)) H3 Qy else Qn H3)
    (hq : ∀ D acc H2, H1 D = none → Gr H1 H2 → H2 D = some (.lst acc) → acc.length ≤ n → A n acc H2 → Q (.ref D) H2)
    (hn : n ≤ 1000000) (hw : ∀ x, wipe ((wipe σ vs).set j (some x)) vs = wipe σ vs) : LC (gName j) tt te vs σ Q J H1 := by
  intro D hD
  refine lc_it w (fun i H' => Gr H1 H' ∧ ∃ acc, H' D = some (.lst acc) ∧ acc.length ≤ i ∧ A i acc H') ⟨Gr.new hD, [], upd_same, Nat.le_refl _, a0 _ (Gr.new hD)⟩ (fun i H' _ p => hG H' p.1) ?_ (fun H' p => ?_)
  · rintro i x H' H'' hi ⟨g, acc, e, hl, ha⟩ ⟨rfl, y⟩
    refine ⟨hw x, hs i x acc H'' hi y g ha _ _ (fun v H3 g3 a3 => ?_) (fun H3 g3 a3 => ?_)⟩
    · refine ⟨acc, g3.lst e, sz_lt (by omega), (g.trans g3).mut hD, acc ++ [v], upd_same, ?_, au _ _ _ _ _ _ (g3.lst e) hD a3⟩
      rw [List.length_append, List.length_singleton]
      omega
    · exact ⟨g.trans g3, acc, g3.lst e, by omega, a3⟩
  · obtain ⟨g, acc, e, hl, ha⟩ := p
    exact hq D acc H' hD g e hl ha
end My
/-! ### a set of texts made of a list, and told in order -/
namespace TxS
open PySem PySem.Spec PyProof.Rows L2
def txOf (e : Int × Value) : Str := match e.2 with
  | .str x _ => x
  | _ => ⟨#[]⟩
def TxE (w : World) (e : Int × Value) : Prop := ∃ x t, e.2 = Value.str x t ∧ e.1 = hashStr w x
structure TxT (w : World) (M : Str → Prop) (es : Array (Int × Value)) (t : SetTable) : Prop where
  each : ∀ e ∈ es.toList, TxE w e
  nd : (es.toList.map txOf).Nodup
  mem : ∀ x, x ∈ es.toList.map txOf ↔ M x
  room : es.size < scanBound
  fits : t.fits es.size = true
  ris : Ris t.place.toList
  led : w.params.followText "set-order" = true ∨ t.led = true
def TxSet (w : World) (h : Heap) (a : Addr) (M : Str → Prop) (n : Nat) : Prop := ∃ o es ep t, h.get? a = some o ∧ o.ExactSet ∧ o.data = .set es ep t ∧ TxT w M es t ∧ es.size ≤ n
section
variable {P : Program} {w : World} {h h' : Heap} {a : Addr} {M : Str → Prop} {n : Nat} {es : Array (Int × Value)} {t : SetTable}
theorem TxSet.at (R : TxSet w h a M n) (k : ∀ o, h.get? a = some o → h'.get? a = some o) : TxSet w h' a M n := by
  obtain ⟨o, es, ep, t, ho, r⟩ := R
  exact ⟨o, es, ep, t, k o ho, r⟩
theorem TxSet.le (R : TxSet w h a M n) {m : Nat} (q : n ≤ m) : TxSet w h a M m := by
  obtain ⟨o, es, ep, t, ho, hx, hd, T, hn⟩ := R
  exact ⟨o, es, ep, t, ho, hx, hd, T, Nat.le_trans hn q⟩
theorem TxT.elems (T : TxT w M es t) : ElemsOf (strKind P w) es.toList := fun e he => by
  obtain ⟨x, u, h1, h2⟩ := T.each e he
  refine ⟨⟨x, ?_, h2⟩, ?_⟩
  · rw [h1]; exact strKind_is P w x u
  · rw [h1]; rfl
theorem TxT.is (T : TxT w M es t) {e : Int × Value} (he : e ∈ es.toList) (x : Str) : (strKind P w).is x e.2 = true ↔ txOf e = x := by
  obtain ⟨y, u, h1, _⟩ := T.each e he
  unfold txOf
  rw [h1]
  constructor
  · intro z; exact (strKind P w).inj _ _ _ (strKind_is P w y u) z
  · intro z; rw [show y = x from z]; exact strKind_is P w x u
end
section
variable {P : Program} {w : World} {A : Around} {E : Value → Shared → Prop} {s : Shared} {a : Addr} {M : Str → Prop} {n : Nat}
theorem tx_tail {g : Bool → Sem Unit} (hg : ∀ (b : Bool) (s₁ : Shared) (Q' : Unit → Shared → Prop), Q' () s₁ → wpAny (model P w) A (g b) Q' E s₁)
    {o : Obj} {es es1 : Array (Int × Value)} {ep : Nat} {t t2 : SetTable} {wasDummy : Bool} {R : Option Bool → Shared → Prop} (ho : s.heap.get? a = some o) (hex : o.ExactSet) (hd : o.data = .set es ep t) (T : TxT w M es1 t2) (hn : es1.size ≤ n)
    (hR : ∀ h', Heap.SameBut a s.heap h' → TxSet w h' a M n → R (some true) { s with heap := h' }) :
    wpAny (model P w) A (do
        storeSet a es1 t2
        if (!wasDummy && t2.tooFull) = true then do
            g (relayAll t2 es1 (SetTable.grown es1.size)).2.2
            storeSet a (relayAll t2 es1 (SetTable.grown es1.size)).1 (relayAll t2 es1 (SetTable.grown es1.size)).2.1
            pure (some true)
          else pure (some true)) R E s := by
  refine wpAny_bind (wpAny_storeSet_of ho hd ?_ (fits_of_scanBound T.room))
  have at1 := store_at (es' := es1) (t' := t2) ho hd
  have same1 := Heap.SameBut.update s.heap a (Obj.putSet es1 t2)
  split
  · have f1 := relayAll_perm t2 es1 (SetTable.grown es1.size)
    have f2 := relayAll_fits t2 es1 (SetTable.grown es1.size)
    have f3 := relayAll_ris t2 es1 (SetTable.grown es1.size)
    have f4 := relayAll_led t2 es1 (SetTable.grown es1.size)
    generalize relayAll t2 es1 (SetTable.grown es1.size) = Z at f1 f2 f3 f4 ⊢
    obtain ⟨es2, t3, gave⟩ := Z
    dsimp only at f1 f2 f3 f4 ⊢
    have size2 : es2.size = es1.size := by rw [← Array.length_toList, f1.length_eq, Array.length_toList]
    have T2 : TxT w M es2 t3 := ⟨fun e he => T.each e (f1.mem_iff.mp he), (f1.map txOf).nodup_iff.mpr T.nd, fun x => (f1.map txOf).mem_iff.trans (T.mem x), by rw [size2]; exact T.room, f2, f3, T.led.imp id fun z => by rw [f4]; exact z⟩
    refine wpAny_bind (hg _ _ _ (wpAny_bind (wpAny_storeSet_of at1 rfl ?_ (fits_of_scanBound T2.room))))
    exact wpAny_pure (hR _ (same1.trans (Heap.SameBut.update _ a _)) ⟨_, es2, _, t3, store_at (es' := es2) (t' := t3) at1 rfl, hex, rfl, T2, by rw [size2]; exact hn⟩)
  · exact wpAny_pure (hR _ same1 ⟨_, es1, _, t2, at1, hex, rfl, T, hn⟩)
/-- a text is added -/
theorem tx_add {x : Str} {u : Tok} {Q : Bool → Shared → Prop} (R : TxSet w s.heap a M n) (room : n + 1 < scanBound)
    (hQ : ∀ (b : Bool) h', Heap.SameBut a s.heap h' → TxSet w h' a (fun y => M y ∨ y = x) (n + 1) → Q b { s with heap := h' }) :
    wpAny (model P w) A (setAddHashed a (.str x u) ((strKind P w).hash x)) Q E s := by
  obtain ⟨o, es, ep, t, ho, hex, hd, T, hn⟩ := R
  have hkey : (strKind P w).is x (.str x u) = true := strKind_is P w x u
  have hel : ElemsOf (strKind P w) es.toList := T.elems
  unfold setAddHashed setAddHashedIn
  refine wpAny_holding (wpAny_bind (wpAny_setState_of ho hd T.fits ?_))
  dsimp only
  rw [byScan_of rfl T.room hel]
  simp only [↓reduceIte]
  unfold setAddByScan
  refine wpAny_bind (wpAny_bind (wpAny_rule (wpAny_bind (wpAny_setScan_of hkey ho hd T.fits hel ?_))))
  cases hfi : List.findIdx? (fun e => (strKind P w).is x e.2) es.toList with
  | some j =>
    dsimp only
    obtain ⟨hj, pj, _⟩ := List.findIdx?_eq_some_iff_getElem.mp hfi
    have hM : M x := (T.mem x).mp (List.mem_map.mpr ⟨es.toList[j], List.getElem_mem hj, (T.is (P := P) (List.getElem_mem hj) x).mp pj⟩)
    refine wpAny_pure (wpAny_pure (hQ _ s.heap (Heap.SameBut.refl a s.heap) ⟨o, es, ep, t, ho, hex, hd, ⟨T.each, T.nd, fun y => (T.mem y).trans ⟨.inl, fun z => z.elim id fun q => q ▸ hM⟩, T.room, T.fits, T.ris, T.led⟩, Nat.le_succ_of_le hn⟩))
  | none =>
    dsimp only
    have hno : x ∉ es.toList.map txOf := fun z => by
      obtain ⟨e, he, q⟩ := List.mem_map.mp z
      have c := List.findIdx?_eq_none_iff.mp hfi e he
      rw [(T.is (P := P) he x).mpr q] at c
      cases c
    have quiet : ∀ (b : Bool) {s₁ : Shared} {Q' : Unit → Shared → Prop}, Q' () s₁ → wpAny (model P w) A (match b with | true => rule "set.scan.the-table-gave-way" | false => pure ()) Q' E s₁ :=
      fun b s₁ Q' q => match b with
        | true => wpAny_rule q
        | false => wpAny_pure q
    have f1 := layNew_perm t es ((strKind P w).hash x) (.str x u)
    have f2 := layNew_fits t es ((strKind P w).hash x) (.str x u)
    have f3 := layNew_ris t es ((strKind P w).hash x) (.str x u) T.ris
    have f4 := layNew_led t es ((strKind P w).hash x) (.str x u)
    generalize layNew t es ((strKind P w).hash x) (.str x u) = Z at f1 f2 f3 f4 ⊢
    obtain ⟨es1, t1, wasDummy, gave⟩ := Z
    dsimp only at f1 f2 f3 f4 ⊢
    rw [Array.toList_push] at f1
    have pc : es1.toList.Perm (((strKind P w).hash x, Value.str x u) :: es.toList) := f1.trans (List.perm_append_singleton _ _)
    have pk : (es1.toList.map txOf).Perm (x :: es.toList.map txOf) := pc.map txOf
    have size1 : es1.size = es.size + 1 := by rw [← Array.length_toList, pc.length_eq, List.length_cons, Array.length_toList]
    have mk : ∀ t' : SetTable, t'.fits es1.size = true → Ris t'.place.toList → t'.led = t1.led → TxT w (fun y => M y ∨ y = x) es1 t' := fun t' k1 k2 k3 => by
      refine ⟨fun e he => ?_, pk.nodup_iff.mpr (List.nodup_cons.mpr ⟨hno, T.nd⟩), fun y => ?_, by omega, k1, k2, T.led.imp id fun z => by rw [k3, f4]; exact z⟩
      · rcases List.mem_cons.mp (pc.mem_iff.mp he) with z | z
        · rw [z]; exact ⟨x, u, rfl, rfl⟩
        · exact T.each e z
      · rw [pk.mem_iff, List.mem_cons, T.mem y]
        exact Or.comm
    refine wpAny_bind (quiet _ ?_)
    split
    · refine wpAny_bind ?_
      rw [hashByValue_scannable 8 (show (Value.str x u).scannable = true from rfl)]
      refine wpAny_pure ?_
      refine tx_tail (n := n + 1) ?_ ho hex hd (mk _ ?_ ?_ ?_) (by omega) ?_
      · intro b s₁ Q' q; cases b <;> first | exact wpAny_pure q | exact wpAny_rule q
      · first | (split <;> first | exact f2 | exact SetTable.fits_plain_off f2) | exact f2
      · first | (split <;> exact f3) | exact f3
      · first | (split <;> rfl) | rfl
      · intro h' sb r; dsimp only; exact wpAny_pure (hQ _ h' sb r)
    · refine wpAny_bind (wpAny_pure ?_)
      simp only [↓reduceIte]
      refine tx_tail (n := n + 1) ?_ ho hex hd (mk t1 f2 f3 rfl) (by omega) ?_
      · intro b s₁ Q' q; cases b <;> first | exact wpAny_pure q | exact wpAny_rule q
      · intro h' sb r; dsimp only; exact wpAny_pure (hQ _ h' sb r)
end
section
variable {P : Program} {w : World} {A : Around} {R : Result → Shared → Prop} {I : Addr} {fp wr : List Addr} {G : Array GenState → Array GenState → Prop} {n : Nat} {Pv : Nat → Value → Prop} {St : Nat → Shared → Prop}
theorem tx_loop (W : WalksS P w A.in1 I fp wr G n Pv St) (S : Addr) (hSf : S ∉ fp) (xs : List Str) (hsz : xs.length = n) (hn : n + 1 < scanBound) (hval : ∀ i v, Pv i v → ∃ t, v = .str (xs.getD i Str.empty) t) :
    ∀ (k i : Nat) (s : Shared), n - i = k → i ≤ n → St i s → TxSet w s.heap S (fun y => y ∈ xs.take i) i →
      (∀ s', Moved (S :: wr) G s s' → TxSet w s'.heap S (fun y => y ∈ xs) n → R (.ok (.ret .none)) s') → codeAny (model P w) A (.builtin "set.update.loop" ⟨[.ref S, .ref I], []⟩) R s := by
  have notw : S ∉ wr := fun h => hSf (W.sub _ h)
  intro k
  induction k with
  | zero =>
    intro i s hk hi hst hS hR
    have ein : i = n := by omega
    subst ein
    refine codeAny_builtin F.entry_set_update_loop ?_
    rw [Around.under_plainId F.plain_set_update_loop _]
    show wpAny _ A.in1 (pyNext (.ref I) >>= _) _ _ s
    refine wpAny_bind (W.done s _ _ hst fun s' hm => ?_)
    show wpAny _ A.in1 (ret Value.none) _ _ s'
    rw [← hsz, List.take_length] at hS
    exact wpAny_pure (hR s' (hm.mono fun b hb => List.mem_cons_of_mem _ hb) (by rw [← hsz]; exact hS.at fun o ho => hm.heap S _ notw ho))
  | succ k ih =>
    intro i s hk hi hst hS hR
    refine codeAny_builtin F.entry_set_update_loop ?_
    rw [Around.under_plainId F.plain_set_update_loop _]
    show wpAny _ A.in1 (pyNext (.ref I) >>= _) _ _ s
    refine wpAny_bind (W.item i s _ _ (by omega) hst fun v s' hP hst' hm => ?_)
    obtain ⟨u, rfl⟩ := hval i v hP
    have hS' := hS.at (h' := s'.heap) fun o ho => hm.heap S _ notw ho
    show wpAny _ A.in1 (holding [Value.str (xs.getD i Str.empty) u] (setAdd S (.str (xs.getD i Str.empty) u)) >>= _) _ _ s'
    refine wpAny_bind (wpAny_holding ?_)
    unfold setAdd
    refine wpAny_holding (wpAny_bind ((strKind P w).pyHash (k := xs.getD i Str.empty) (strKind_is _ _ _ _) ?_))
    refine tx_add (s := { s' with toks := s'.toks + 1 }) hS' (by omega) fun b h' same hS2 => ?_
    have hS3 : TxSet w h' S (fun y => y ∈ xs.take (i + 1)) (i + 1) := by
      obtain ⟨o, es, ep, t, ho, hex, hd, T, hl⟩ := hS2
      refine ⟨o, es, ep, t, ho, hex, hd, ⟨T.each, T.nd, fun y => (T.mem y).trans ?_, T.room, T.fits, T.ris, T.led⟩, hl⟩
      have hi2 : i < xs.length := by omega
      have e : xs.getD i Str.empty = xs[i] := by rw [List.getD_eq_getElem?_getD, List.getElem?_eq_getElem hi2]; rfl
      rw [e, List.take_succ_eq_append_getElem hi2, List.mem_append, List.mem_singleton]
    refine wpAny_pure ⟨plainId_quiet F.plain_set_update_loop _, ih (i + 1) _ (by omega) (by omega) (W.frame _ s' _ _ hst' (Nat.le_succ _) fun c hc o e => ?_) hS3 fun s2 hm2 hS4 => ?_⟩
    · rw [same.2 c (fun h : c = S => hSf (by rw [← h]; exact hc))]; exact e
    · refine hR s2 (Moved.trans W.gtrans ((hm.mono fun c hc => List.mem_cons_of_mem _ hc).then_heap (Nat.le_succ _) fun c o hc e => ?_) hm2) hS4
      rw [same.2 c (fun h : c = S => hc (by rw [h]; exact List.mem_cons_self))]; exact e
end
section
variable {prog : Program} {w : World} {A : Around} {E : Value → Shared → Prop} {s : Shared}
theorem code_set_new_led (a : Value) {Q₁ : Value → Shared → Prop}
    (h : Q₁ (.ref s.heap.objs.size) { s with heap := s.heap.push { cls := .type "set", dict := none, data := .set #[] 0 (.fresh 0 0 (!w.params.followText "set-order")) } }) :
    codeAny (model prog w) A (.call (.builtin "set.__new__") ⟨[.type "set", a], []⟩) (wants Q₁ E) s := by
  refine codeAny_of_tree ?_
  show wpAny _ A.in1 (do checkBuiltinCall "set.__new__" ⟨[.type "set", a], []⟩; again (.builtin "set.__new__" ⟨[.type "set", a], []⟩)) _ _ s
  refine wpAny_bind (wpAny_of_eq (PySem.F.newCall_set_1 a) (wpAny_pure ⟨plainId_quiet PySem.F.plain_set_new _, codeAny_builtin PySem.F.entry_set_new ?_⟩))
  rw [Around.under_plainId PySem.F.plain_set_new _]
  unfold Builtin.«set.__new__» Builtin.Frozenset.newClass
  have hsub := sub_set_self
  obtain ⟨hp, g, d, tk, os⟩ := s
  dsimp only
  wp_walk
  refine wpAny_askSetting (wpAny_pure ?_)
  dsimp only
  simp only [newObj]
  refine wpAny_bind (wpAny_alloc (wpAny_pure ?_))
  exact wpAny_pure h
theorem tx_fresh {h : Heap} {b : Addr} (ho : h.get? b = some { cls := .type "set", dict := none, data := .set #[] 0 (.fresh 0 0 (!w.params.followText "set-order")) }) (xs : List Str) : TxSet w h b (fun y => y ∈ xs.take 0) 0 := by
  refine ⟨_, #[], 0, _, ho, ⟨rfl, rfl, rfl⟩, rfl, ⟨fun e he => by simp at he, by simp, fun x => by simp, by decide, by rfl, List.Pairwise.nil, ?_⟩, Nat.le_refl _⟩
  show _ ∨ (!w.params.followText "set-order") = true
  cases w.params.followText "set-order"
  · exact .inr rfl
  · exact .inl rfl
set_option maxHeartbeats 3200000 in
theorem tx_call {l : Addr} {items : Array Value} {xs : List Str} {Q : Value → Shared → Prop}
    (hh : A.handled = none) (hl : s.heap.IsList l items) (hi : StrsAre items.toList xs) (hb : xs.length + 1 < scanBound)
    (h : ∀ (h' : Heap) (tk : Nat), TxSet w h' s.heap.objs.size (fun y => y ∈ xs) xs.length → (∀ b o, b < s.heap.objs.size → s.heap.get? b = some o → h'.get? b = some o) → Q (.ref s.heap.objs.size) { s with heap := h', toks := tk }) :
    wpAny (model prog w) A (call (.type "set") [.ref l]) Q E s := by
  obtain ⟨c, tl, hmro⟩ := PySem.F.called_set.mro
  have hmade := PySem.F.called_set.made
  have hsub := PySem.F.called_set.sub
  have hsz : xs.length = items.size := by rw [← StrsAre.len_eq hi, Array.length_toList]
  refine wpAny_call (codeAny_of_tree ?_)
  show wpAny _ _ (callAny (.type "set") _) _ _ _
  refine wpAny_pure ⟨Code.quiet_builtin _ (by decide +kernel), codeAny_builtin PySem.F.entry_type_call ?_⟩
  rw [Around.under_plain (weight_type_call_type "set" [.ref l] []) rfl]
  have h1 := PySem.F.called_set.notType
  have h2 := PySem.F.called_set.canCreate
  have hct := PySem.F.typeCall_set_1 (.ref l)
  repeat (any_goals (first | assumption | wp_step))
  refine codeAny_mono (code_set_new_led (.ref l) (E := E) (Q₁ := fun obj s₁ => obj = .ref s.heap.objs.size ∧ s₁ = { s with heap := s.heap.push { cls := .type "set", dict := none, data := .set #[] 0 (.fresh 0 0 (!w.params.followText "set-order")) } }) ⟨rfl, rfl⟩) fun r s₁ hr => ?_
  cases r with
  | error e => exact hr
  | ok fl =>
    cases fl with
    | ret obj =>
      obtain ⟨rfl, rfl⟩ := hr
      generalize hled : (!w.params.followText "set-order") = led at *
      have hS : (s.heap.push { cls := .type "set", dict := none, data := .set #[] 0 (.fresh 0 0 led) }).get? s.heap.objs.size = some { cls := .type "set", dict := none, data := .set #[] 0 (.fresh 0 0 led) } := Heap.get?_push_size _ rfl
      have hT : Shared.TypeIs { s with heap := s.heap.push { cls := .type "set", dict := none, data := .set #[] 0 (.fresh 0 0 led) } } (.ref s.heap.objs.size) "set" := ⟨_, hS, rfl⟩
      have hli := PySem.F.called_set.init.lookup
      have hbi := PySem.F.called_set.init.bind (.ref s.heap.objs.size)
      repeat (any_goals (first | assumption | wp_step))
      refine codeAny_mono (codeAny_call_builtin (R := wants (fun r s₂ => r = .none ∧ ∃ h' tk, s₂ = { s with heap := h', toks := tk } ∧ TxSet w h' s.heap.objs.size (fun y => y ∈ xs) xs.length ∧
          (∀ b o, b < s.heap.objs.size → s.heap.get? b = some o → h'.get? b = some o)) E) PySem.F.called_set.init.plain PySem.F.entry_set_init (check_set_init_1 hT ?_)) fun r₂ s₂ hr₂ => ?_
      · obtain ⟨ol, hol, hcl, nl, hdl⟩ := hl
        obtain ⟨ocls, odict, odata, oslots⟩ := ol
        simp only at hcl hdl
        subst hcl; subst hdl
        have hol' : (s.heap.push { cls := .type "set", dict := none, data := .set #[] 0 (.fresh 0 0 led) }).get? l = some { cls := .type "list", dict := odict, data := .seq items nl, slots := oslots } := Heap.get?_push_of_some _ hol
        have hsls := PySem.F.sub_list_set
        have hslf := PySem.F.sub_list_frozenset
        have hne : (Value.type "list" == Value.type "dict") = false := by decide
        have hl1 : (s.heap.push { cls := .type "set", dict := none, data := .set #[] 0 (.fresh 0 0 led) }).IsList l items := ⟨_, hol', rfl, nl, rfl⟩
        unfold Builtin.«set.__init__» noKeywords Builtin.Frozenset.updateFrom
        generalize hPI : pyIter = PI
        wp_walk
        subst hPI
        refine wpAny_pyIter_list hl1 ?_
        refine wpAny_bind (wpAny_runValue ?_)
        have hlS : l < s.heap.objs.size := Heap.lt_size hol
        have hh3 : A.in1.in1.in1.handled = none := by simp [hh]
        have hneI : l ≠ (s.heap.push { cls := .type "set", dict := none, data := .set #[] 0 (.fresh 0 0 led) }).objs.size := by
          rw [Heap.size_push]; exact Nat.ne_of_lt (Nat.lt_succ_of_lt hlS)
        have hSf : s.heap.objs.size ∉ [(s.heap.push { cls := .type "set", dict := none, data := .set #[] 0 (.fresh 0 0 led) }).objs.size, l] := by
          rw [Heap.size_push]; simp only [List.mem_cons, List.mem_singleton, List.not_mem_nil, or_false, not_or]
          exact ⟨Nat.ne_of_lt (Nat.lt_succ_self _), Nat.ne_of_gt hlS⟩
        have hval : ∀ (i : Nat) (v : Value), items[i]? = some v → ∃ t, v = .str (xs.getD i Str.empty) t := fun i v hv => SS.strs_at hi i v (by rw [Array.getElem?_toList]; exact hv)
        refine tx_loop ((Walks.list hh3 _ l hneI items).toS) s.heap.objs.size hSf xs hsz (by rw [← hsz]; exact hb) hval (items.size - 0) 0 _ (by omega) (Nat.zero_le _)
          ⟨⟨_, Heap.get?_push_size _ rfl, rfl, rfl⟩, (hl1.push _)⟩ ?hS0 ?hR
        case hS0 => exact tx_fresh (by rw [hled]; exact Heap.get?_push_of_some _ hS) xs
        case hR =>
          intro s' hm hS'
          obtain ⟨h', g', d', tk', os'⟩ := s'
          have eg : g' = s.gens := hm.gens
          have ed : d' = s.drawn := hm.drawn
          have eo : os' = s.os := hm.os
          subst eg; subst ed; subst eo
          show wpAny _ _ _ _ _ _
          refine wpAny_pure ?_
          show wpAny _ _ (ret Value.none) _ _ _
          refine wpAny_pure ⟨rfl, h', tk', rfl, by rw [hsz]; exact hS', fun b o hb e => ?_⟩
          have hb1 : b ≠ s.heap.objs.size := Nat.ne_of_lt hb
          have hb2 : b ≠ (s.heap.push { cls := .type "set", dict := none, data := .set #[] 0 (.fresh 0 0 led) }).objs.size := by
            rw [Heap.size_push]; exact Nat.ne_of_lt (Nat.lt_succ_of_lt hb)
          exact hm.heap b o (by simp only [List.mem_cons, List.mem_singleton, List.not_mem_nil, or_false, not_or]; exact ⟨hb1, hb2⟩) (Heap.get?_push_of_some _ (Heap.get?_push_of_some _ e))
      · cases r₂ with
        | error e => exact hr₂
        | ok fl₂ =>
          cases fl₂ with
          | ret r =>
            obtain ⟨rfl, h', tk, rfl, hS', hk'⟩ := hr₂
            repeat (any_goals (first | assumption | wp_step))
            exact h _ _ hS' hk'
          | _ => exact hr₂.elim
    | _ => exact hr.elim
/-- sorted(a set of texts) -/
theorem tx_sorted {P : Program} {a : Addr} {M : Str → Prop} {n : Nat} {Q : Value → Shared → Prop} (R : TxSet w s.heap a M n) (hh : A.handled = none)
    (hQ : ∀ s' p (out : Array Value) (c : Nat) (ns : List Str), (∀ b o, s.heap.get? b = some o → s'.heap.get? b = some o) → s'.gens = s.gens → s'.os = s.os → s.heap.objs.size ≤ p →
      s'.heap.get? p = some (seqObj "list" out c) → StrsAre out.toList ns → My.SrtS ns → ns.Nodup → (∀ x, x ∈ ns ↔ M x) → ns.length ≤ n → Q (.ref p) s') :
    wpAny (model P w) A (call (.builtin "sorted") [.ref a]) Q E s := by
  obtain ⟨o, es, ep, t, ho, hex, hd, T, hn⟩ := R
  refine Calls.call_function_entry kind_sorted plain_sorted entry_sorted (args_sorted1 _) ?_
  unfold Builtin.«sorted»
  refine wpAny_bind (m := checkCount "sorted" 1 1 _) (wpAny_pure ?_)
  refine wpAny_bind (collect_set (A := A.in1) hh ⟨o, ho, hex.1, hd⟩ T.fits T.room T.ris T.led fun s1 vs k1 hz g1 o1 pm => ?_)
  have hvl : vs.length = es.size := by rw [pm.length_eq, List.length_map, Array.length_toList]
  have ev : ∀ v ∈ vs, ∃ x u, v = Value.str x u := fun v hv => by
    obtain ⟨e, he, q⟩ := List.mem_map.mp (pm.mem_iff.mp hv)
    obtain ⟨x, u, h1, _⟩ := T.each e he
    exact ⟨x, u, by rw [← q]; exact h1⟩
  have hI : StrsAre vs (vs.map My.St.sv) := My.St.strs_sv ev
  have pk : (vs.map My.St.sv).Perm (es.toList.map txOf) := by
    have q := pm.map My.St.sv
    rw [List.map_map] at q
    refine q.trans (List.Perm.of_eq (List.map_congr_left fun e he => ?_))
    show My.St.sv e.2 = txOf e
    unfold txOf My.St.sv
    obtain ⟨x, u, h1, _⟩ := T.each e he
    rw [h1]
  have small : vs.length ≤ sizeLine := by rw [hvl, sizeLine_eq]; have := T.room; unfold scanBound at this; omega
  refine wpAny_bind (wpAny_newList ?_ small)
  have hoL : (s1.heap.push (seqObj "list" vs.toArray 0)).get? s1.heap.objs.size = some (seqObj "list" vs.toArray 0) := Heap.get?_push_size _ rfl
  refine wpAny_bind (wpAny_holding (wpAny_call_entry slot_list_sort ⟨_, hoL, rfl⟩ entry_list_sort
    (SrtO.list_sort_ord (s := { s1 with heap := s1.heap.push (seqObj "list" vs.toArray 0) }) My.St.swo_str hoL small (fun h2 => My.St.strs_sortable hI h2) fun out h1 h2 => ⟨_, rfl, ?_⟩) (args_list_sort _)))
  obtain ⟨k2, k3, k4⟩ := My.St.strs_out hI h1 h2
  obtain ⟨c, hc⟩ := sortedHeap_at (vs := vs) (out := out.toArray) hoL
  have pn : (out.map My.St.sv).Perm (es.toList.map txOf) := k3.trans pk
  refine wpAny_pure ⟨_, rfl, hQ _ s1.heap.objs.size out.toArray c (out.map My.St.sv) (fun b u e => ?_) g1 o1 hz hc (by simpa using k2) k4 (pn.nodup_iff.mpr T.nd) (fun x => pn.mem_iff.trans (T.mem x)) ?_⟩
  · have q := k1 b u e
    have hlt := Heap.lt_size q
    show (sortedHeap (s1.heap.push (seqObj "list" vs.toArray 0)) s1.heap.objs.size vs out.toArray).get? b = some u
    rw [sortedHeap_old (Nat.ne_of_lt hlt) (by rw [size_push']; exact Nat.lt_succ_of_lt hlt)]
    exact Heap.get?_push_of_some _ q
  · rw [pn.length_eq, List.length_map, Array.length_toList]; exact hn
end
end TxS
namespace My
open PySem PySem.Spec PyProof.Rows L2
/-- a set of texts: its members, at most n -/
def SetX (w : World) (a : Addr) (M : Str → Prop) (n : Nat) : HO := .ext fun h => TxS.TxSet w h a M n
def rSetX (K : PySem.W.Frag) (w : World) : List V → Hp → VK → Prop := fun xs H Q => ∃ (l : Addr) (ys : List Str), xs = [V.ref l] ∧ SqL K H l (ys.map V.str) ∧ ys.length ≤ 4000 ∧ ∀ a, H a = none → Q (.ref a) (upd H a (SetX w a (fun y => y ∈ ys) ys.length))
def rSortedX (w : World) : List V → Hp → VK → Prop := fun xs H Q => ∃ (a : Addr) (M : Str → Prop) (n : Nat), xs = [V.ref a] ∧ H a = some (SetX w a M n) ∧ n ≤ 4000 ∧
  ∀ (ns : List Str) (p : Addr), SrtS ns → ns.Nodup → (∀ x, x ∈ ns ↔ M x) → ns.length ≤ n → H p = none → Q (.ref p) (upd H p (.lst (ns.map V.str)))
section
variable {X : Cx}
theorem setX_new {w : World} {P : Program} {H : Hp} {h : Heap} {a : Addr} {M : Str → Prop} {n : Nat} (R : TxS.TxSet w h a M n) : ObjOk P w H h a (SetX w a M n) := by
  have ⟨o, _, _, _, ho, _⟩ := R
  exact ⟨R, ⟨o, ho⟩, fun h1 h2 p k => TxS.TxSet.at p k⟩
theorem cr_setX (hc : X.calm = true) : CallR X (.type "set") (rSetX X.K X.w) := by
  intro pins s σ H xs us Q I r h
  obtain ⟨l, ys, rfl, hl, hn, q⟩ := h
  rw [Vals.ref1 r]
  obtain ⟨its, rv, pl, hz⟩ := I.list hl
  refine TxS.tx_call (xs := ys) (I.ok.hd hc) pl.isList (by simpa using rv.strs) (by unfold scanBound; omega) fun h' tk R k => ?_
  exact ⟨.ref s.heap.objs.size, upd H s.heap.objs.size (SetX X.w s.heap.objs.size (fun y => y ∈ ys) ys.length), I.laid (t' := tk) (fun b u e => k b u (Heap.lt_size e) e) (Nat.le_refl _) (setX_new R), rfl, q _ (I.hok.fresh (Nat.le_refl _))⟩
theorem cr_sortedX (hc : X.calm = true) : CallR X (.builtin "sorted") (rSortedX X.w) := by
  intro pins s σ H vs us Q I r h
  obtain ⟨a, M, n, rfl, ha, hn, q⟩ := h
  have R : TxS.TxSet X.w s.heap a M n := (I.hok a _ ha).1
  rw [Vals.ref1 r]
  refine TxS.tx_sorted R (I.ok.hd hc) fun s' p out c ns k g o hp hg hi hs hd hm hl => ?_
  have hlen : (ns.map V.str).length ≤ sizeLine := by rw [List.length_map, sizeLine_eq]; omega
  have hnone : H p = none := I.hok.fresh hp
  have J : Inv X pins σ (upd H p (.lst (ns.map V.str))) { s with heap := s'.heap, gens := s'.gens, drawn := s'.drawn, toks := s'.toks } :=
    I.call (ch := []) (Un.laid k hp hnone) (I.hok.laid k hp ⟨hlen, out.toList, c, vals_of_strs hi, hg⟩) (by rw [g]; exact I.bare) (fun _ z => nomatch z)
  have e : s' = { s with heap := s'.heap, gens := s'.gens, drawn := s'.drawn, toks := s'.toks } := by
    cases s'
    cases s
    cases o
    rfl
  rw [e]
  exact ⟨.ref p, _, J, rfl, q ns p hs hd hm hl hnone⟩
end
end My
namespace My
open PySem PySem.Spec PyProof.Rows L2
/-! ### rows: pairs of a name and a number, the names rising -/
abbrev Rw := List (Str × Int)
inductive Prs (K : PySem.W.Frag) (H : Hp) : List V → Rw → Prop
  | nil : Prs K H [] []
  | cons {p : Addr} {n : Str} {b : Int} {vs : List V} {rs : Rw} : SqT K H p [.str n, .int b] → Prs K H vs rs → Prs K H (.ref p :: vs) ((n, b) :: rs)
section
variable {K : PySem.W.Frag} {H H' : Hp}
theorem Prs.len : ∀ {vs : List V} {rs : Rw}, Prs K H vs rs → vs.length = rs.length
  | _, _, .nil => rfl
  | _, _, .cons _ r => congrArg (· + 1) r.len
theorem Prs.imp (g : ∀ p xs, SqT K H p xs → SqT K H' p xs) : ∀ {vs : List V} {rs : Rw}, Prs K H vs rs → Prs K H' vs rs
  | _, _, .nil => .nil
  | _, _, .cons a r => .cons (g _ _ a) (r.imp g)
theorem Prs.gr (g : Gr H H') {vs : List V} {rs : Rw} (h : Prs K H vs rs) : Prs K H' vs rs := h.imp fun _ _ => g.t
/-- a list changed -/
theorem sqT_mut {D p : Addr} {xs ys zs : List V} (e : H D = some (.lst xs)) (h : SqT K H p zs) : SqT K (upd H D (.lst ys)) p zs := by
  rcases h with (h | ⟨o, h⟩) | h
  · exact .inl (.inl (by rw [upd_ne (ne_of h e (by intro z; cases z))]; exact h))
  · exact .inl (.inr ⟨o, by rw [upd_ne (ne_of h e (by intro z; cases z))]; exact h⟩)
  · exact .inr h
theorem sqT_mutD {D p : Addr} {xs ys : List (Key × V)} {zs : List V} (e : H D = some (.dK xs)) (h : SqT K H p zs) : SqT K (upd H D (.dK ys)) p zs := by
  rcases h with (h | ⟨o, h⟩) | h
  · exact .inl (.inl (by rw [upd_ne (ne_of h e (by intro z; cases z))]; exact h))
  · exact .inl (.inr ⟨o, by rw [upd_ne (ne_of h e (by intro z; cases z))]; exact h⟩)
  · exact .inr h
theorem Prs.mut {D : Addr} {xs ys : List V} (e : H D = some (.lst xs)) {vs : List V} {rs : Rw} (h : Prs K H vs rs) : Prs K (upd H D (.lst ys)) vs rs := h.imp fun _ _ => sqT_mut e
theorem Prs.mutD {D : Addr} {xs ys : List (Key × V)} (e : H D = some (.dK xs)) {vs : List V} {rs : Rw} (h : Prs K H vs rs) : Prs K (upd H D (.dK ys)) vs rs := h.imp fun _ _ => sqT_mutD e
theorem Prs.at : ∀ {vs : List V} {rs : Rw} {i : Nat} {r : Str × Int}, Prs K H vs rs → rs[i]? = some r → ∃ p, vs[i]? = some (.ref p) ∧ SqT K H p [.str r.1, .int r.2]
  | _, _, i, r, .nil, h => by simp at h
  | _, _, 0, r, .cons (n := n) (b := b) a _, h => by
    have e : (n, b) = r := by simpa using h
    subst e
    exact ⟨_, rfl, a⟩
  | _, _, i + 1, r, .cons _ q, h => q.at (by simpa using h)
theorem Prs.back : ∀ {vs : List V} {rs : Rw} {i : Nat} {v : V}, Prs K H vs rs → vs[i]? = some v → ∃ p r, v = .ref p ∧ rs[i]? = some r ∧ SqT K H p [.str r.1, .int r.2]
  | _, _, i, r, .nil, h => by simp at h
  | _, _, 0, v, .cons (n := n) (b := b) a _, h => by
    have e := (Option.some.inj (show some _ = some v from h)).symm
    exact ⟨_, (n, b), e, rfl, a⟩
  | _, _, i + 1, v, .cons _ q, h => q.back (by simpa using h)
theorem Prs.app : ∀ {vs : List V} {rs : Rw} {ws : List V} {qs : Rw}, Prs K H vs rs → Prs K H ws qs → Prs K H (vs ++ ws) (rs ++ qs)
  | _, _, _, _, .nil, h => h
  | _, _, _, _, .cons a r, h => .cons a (r.app h)
theorem Prs.take : ∀ {vs : List V} {rs : Rw} (i : Nat), Prs K H vs rs → Prs K H (vs.take i) (rs.take i)
  | _, _, 0, _ => by rw [List.take_zero, List.take_zero]; exact .nil
  | _, _, i + 1, .nil => by rw [List.take_nil, List.take_nil]; exact .nil
  | _, _, i + 1, .cons a r => .cons a (r.take i)
theorem Prs.drop : ∀ {vs : List V} {rs : Rw} (i : Nat), Prs K H vs rs → Prs K H (vs.drop i) (rs.drop i)
  | _, _, 0, h => h
  | _, _, i + 1, .nil => by rw [List.drop_nil, List.drop_nil]; exact .nil
  | _, _, i + 1, .cons a r => r.drop i
theorem Prs.one {p : Addr} {n : Str} {b : Int} (h : SqT K H p [.str n, .int b]) : Prs K H [.ref p] [(n, b)] := .cons h .nil
end
def SrR (rs : Rw) : Prop := rs.Pairwise fun a b => ltS a.1 b.1 = true
def lo (rs : Rw) (n : Str) : Rw := rs.filter fun r => ltS r.1 n
def hi (rs : Rw) (n : Str) : Rw := rs.filter fun r => ltS n r.1
def mid (rs : Rw) (n : Str) : Rw := rs.filter fun r => decide (r.1 = n)
def place (rs : Rw) (n : Str) : Nat := (lo rs n).length
def putR (rs : Rw) (n : Str) (b : Int) : Rw := lo rs n ++ (n, b) :: hi rs n
def delR (rs : Rw) (n : Str) : Rw := lo rs n ++ hi rs n
def findR (rs : Rw) (n : Str) : Option Int := (rs.find? fun r => decide (r.1 = n)).map (·.2)
theorem place_le (rs : Rw) (n : Str) : place rs n ≤ rs.length := List.length_filter_le _ _
theorem ltS_or (a n : Str) : ltS a n = true ∨ a = n ∨ ltS n a = true := by
  cases h : ltS a n with
  | true => exact .inl rfl
  | false =>
    cases h2 : ltS n a with
    | true => exact .inr (.inr rfl)
    | false => exact .inr (.inl (ltS_tri h h2))
theorem all_above {rs : Rw} {n : Str} (h : ∀ r ∈ rs, ltS n r.1 = true) : lo rs n = [] ∧ mid rs n = [] ∧ hi rs n = rs := by
  refine ⟨List.filter_eq_nil_iff.mpr fun r m q => ?_, List.filter_eq_nil_iff.mpr fun r m q => ?_, List.filter_eq_self.mpr h⟩
  · rw [ltS_as (h r m)] at q
    cases q
  · have e := h r m
    rw [of_decide_eq_true q, ltS_irr] at e
    cases e
theorem split_rows : ∀ {rs : Rw} (n : Str), SrR rs → rs = lo rs n ++ (mid rs n ++ hi rs n)
  | [], _, _ => rfl
  | r :: rs, n, h => by
    obtain ⟨h1, h2⟩ := List.pairwise_cons.mp h
    rcases ltS_or r.1 n with e | e | e
    · have e1 : lo (r :: rs) n = r :: lo rs n := List.filter_cons_of_pos e
      have e2 : mid (r :: rs) n = mid rs n := List.filter_cons_of_neg (by simp [ltS_ne e])
      have e3 : hi (r :: rs) n = hi rs n := List.filter_cons_of_neg (by simp [ltS_as e])
      rw [e1, e2, e3]
      exact congrArg (r :: ·) (split_rows n h2)
    · obtain ⟨a1, a2, a3⟩ := all_above (rs := rs) (n := n) fun x m => e ▸ h1 x m
      have e1 : lo (r :: rs) n = lo rs n := List.filter_cons_of_neg (by simp [e, ltS_irr])
      have e2 : mid (r :: rs) n = r :: mid rs n := List.filter_cons_of_pos (by simp [e])
      have e3 : hi (r :: rs) n = hi rs n := List.filter_cons_of_neg (by simp [e, ltS_irr])
      rw [e1, e2, e3, a1, a2, a3] <;> rfl
    · obtain ⟨a1, a2, a3⟩ := all_above (rs := r :: rs) (n := n) fun x m => by
        rcases List.mem_cons.mp m with q | q
        · rw [q]; exact e
        · exact ltS_tr e (h1 x q)
      rw [a1, a2, a3] <;> rfl
theorem mid_le : ∀ {rs : Rw} (n : Str), SrR rs → mid rs n = [] ∨ ∃ b, mid rs n = [(n, b)]
  | [], _, _ => .inl rfl
  | r :: rs, n, h => by
    obtain ⟨h1, h2⟩ := List.pairwise_cons.mp h
    by_cases e : r.1 = n
    · right
      obtain ⟨_, a2, _⟩ := all_above (rs := rs) (n := n) fun x m => e ▸ h1 x m
      refine ⟨r.2, ?_⟩
      have e2 : mid (r :: rs) n = r :: mid rs n := List.filter_cons_of_pos (by simp [e])
      rw [e2, a2, ← e]
    · have e2 : mid (r :: rs) n = mid rs n := List.filter_cons_of_neg (by simp [e])
      rw [e2]
      exact mid_le n h2
theorem find_mid (rs : Rw) (n : Str) : findR rs n = (mid rs n).head?.map (·.2) := by
  unfold findR mid
  rw [List.head?_filter]
theorem take_place {rs : Rw} (n : Str) (h : SrR rs) : rs.take (place rs n) = lo rs n := by
  have e := split_rows n h
  have e2 : rs.take (place rs n) = (lo rs n ++ (mid rs n ++ hi rs n)).take (place rs n) := by rw [← e]
  rw [e2]
  exact List.take_left
theorem drop_place {rs : Rw} (n : Str) (h : SrR rs) : rs.drop (place rs n) = mid rs n ++ hi rs n := by
  have e := split_rows n h
  have e2 : rs.drop (place rs n) = (lo rs n ++ (mid rs n ++ hi rs n)).drop (place rs n) := by rw [← e]
  rw [e2]
  exact List.drop_left
/-- a row stands ahead just where its name is below -/
theorem below_iff {rs : Rw} {n : Str} (h : SrR rs) {i : Nat} {r : Str × Int} (hr : rs[i]? = some r) : ltS r.1 n = true ↔ i < place rs n := by
  by_cases hi : i < place rs n
  · refine ⟨fun _ => hi, fun _ => ?_⟩
    have e : (rs.take (place rs n))[i]? = some r := by rw [List.getElem?_take_of_lt hi]; exact hr
    rw [take_place n h] at e
    have hm := List.mem_of_getElem? e
    exact (List.mem_filter.mp hm).2
  · refine ⟨fun q => ?_, fun q => absurd q hi⟩
    have e : (rs.drop (place rs n))[i - place rs n]? = some r := by
      rw [List.getElem?_drop, Nat.add_sub_cancel' (Nat.not_lt.mp hi)]
      exact hr
    rw [drop_place n h] at e
    have hm := List.mem_of_getElem? e
    rcases List.mem_append.mp hm with hm | hm
    · have z := of_decide_eq_true (List.mem_filter.mp hm).2
      rw [z, ltS_irr] at q
      cases q
    · have z := (List.mem_filter.mp hm).2
      rw [ltS_as z] at q
      cases q
def isAt (rs : Rw) (n : Str) (k : Nat) : Bool := match rs[k]? with
  | some r => decide (r.1 = n)
  | none => false
theorem isAt_yes {rs : Rw} {n : Str} (h : SrR rs) (e : isAt rs n (place rs n) = true) : ∃ b, rs[place rs n]? = some (n, b) ∧ findR rs n = some b ∧ rs.drop (place rs n + 1) = hi rs n ∧ mid rs n = [(n, b)] := by
  unfold isAt at e
  rcases mid_le n h with m | ⟨b, m⟩
  · exfalso
    have e2 : rs[place rs n]? = (hi rs n)[0]? := by
      have := drop_place n h
      rw [m, List.nil_append] at this
      rw [← this, List.getElem?_drop] <;> rfl
    rw [e2] at e
    cases q : (hi rs n)[0]? with
    | none => rw [q] at e; cases e
    | some r =>
      rw [q] at e
      have z := (List.mem_filter.mp (List.mem_of_getElem? q)).2
      rw [of_decide_eq_true e, ltS_irr] at z
      cases z
  · have dp := drop_place n h
    rw [m] at dp
    refine ⟨b, ?_, ?_, ?_, m⟩
    · have : (rs.drop (place rs n))[0]? = some (n, b) := by rw [dp] <;> rfl
      rw [List.getElem?_drop] at this
      exact this
    · rw [find_mid, m] <;> rfl
    · have : (rs.drop (place rs n)).drop 1 = hi rs n := by rw [dp] <;> rfl
      rw [List.drop_drop] at this
      exact this
theorem isAt_no {rs : Rw} {n : Str} (h : SrR rs) (e : isAt rs n (place rs n) = false) : findR rs n = none ∧ rs.drop (place rs n) = hi rs n ∧ mid rs n = [] := by
  rcases mid_le n h with m | ⟨b, m⟩
  · refine ⟨?_, ?_, m⟩
    · rw [find_mid, m] <;> rfl
    · rw [drop_place n h, m] <;> rfl
  · exfalso
    have dp := drop_place n h
    rw [m] at dp
    have : (rs.drop (place rs n))[0]? = some (n, b) := by rw [dp] <;> rfl
    rw [List.getElem?_drop] at this
    have q : rs[place rs n]? = some (n, b) := this
    unfold isAt at e
    rw [q] at e
    simp at e
theorem delR_of_no {rs : Rw} {n : Str} (h : SrR rs) (m : mid rs n = []) : delR rs n = rs := by
  have e := split_rows n h
  rw [m, List.nil_append] at e
  exact e.symm
theorem SrR.lo_lt {rs : Rw} (n : Str) : ∀ r ∈ lo rs n, ltS r.1 n = true := fun r m => (List.mem_filter.mp m).2
theorem SrR.hi_gt {rs : Rw} (n : Str) : ∀ r ∈ hi rs n, ltS n r.1 = true := fun r m => (List.mem_filter.mp m).2
theorem SrR.put {rs : Rw} (h : SrR rs) (n : Str) (b : Int) : SrR (putR rs n b) := by
  refine List.pairwise_append.mpr ⟨h.sublist List.filter_sublist, List.pairwise_cons.mpr ⟨fun r m => SrR.hi_gt n r m, h.sublist List.filter_sublist⟩, fun x hx y hy => ?_⟩
  have h1 := SrR.lo_lt n x hx
  rcases List.mem_cons.mp hy with e | hy
  · rw [e]; exact h1
  · exact ltS_tr h1 (SrR.hi_gt n y hy)
theorem SrR.del {rs : Rw} (h : SrR rs) (n : Str) : SrR (delR rs n) :=
  List.pairwise_append.mpr ⟨h.sublist List.filter_sublist, h.sublist List.filter_sublist, fun x hx y hy => ltS_tr (SrR.lo_lt n x hx) (SrR.hi_gt n y hy)⟩
theorem putR_len (rs : Rw) (n : Str) (b : Int) : (putR rs n b).length ≤ rs.length + 1 := by
  have h : (lo rs n).length + (hi rs n).length ≤ rs.length := by
    unfold lo hi
    clear b
    induction rs with
    | nil => exact Nat.le_refl _
    | cons r rs ih =>
      rw [List.filter_cons, List.filter_cons]
      cases e1 : ltS r.1 n with
      | true =>
        rw [ltS_as e1]
        simp only [if_true, List.length_cons, Bool.false_eq_true, if_false]
        omega
      | false =>
        cases e2 : ltS n r.1 with
        | true =>
          simp only [if_true, List.length_cons, Bool.false_eq_true, if_false]
          omega
        | false =>
          simp only [List.length_cons, Bool.false_eq_true, if_false]
          omega
  unfold putR
  rw [List.length_append, List.length_cons]
  omega
end My
namespace My
open PySem PySem.Spec PyProof.Rows L2
/-! ### a dict with text keys and numbers as rows without an order -/
def kvR (m : Rw) : List (Key × V) := m.map fun r => ((Sum.inr r.1 : Key), V.int r.2)
def putM (m : Rw) (n : Str) (b : Int) : Rw := if (m.any fun r => decide (r.1 = n)) = true then m.map (fun r => if r.1 = n then (r.1, b) else r) else m ++ [(n, b)]
theorem findR_nil (n : Str) : findR [] n = none := rfl
theorem findR_cons (r : Str × Int) (m : Rw) (n : Str) : findR (r :: m) n = if r.1 = n then some r.2 else findR m n := by
  unfold findR
  by_cases e : r.1 = n
  · rw [if_pos e, List.find?_cons_of_pos (by simp [e])] <;> rfl
  · rw [if_neg e, List.find?_cons_of_neg (by simp [e])]
theorem findR_app (m m' : Rw) (n : Str) : findR (m ++ m') n = (findR m n).or (findR m' n) := by
  unfold findR
  rw [List.find?_append]
  cases List.find? (fun r => decide (r.1 = n)) m <;> rfl
theorem findR_none {m : Rw} {n : Str} : findR m n = none ↔ n ∉ m.map (·.1) := by
  induction m with
  | nil => simp [findR_nil]
  | cons r m ih =>
    rw [findR_cons]
    by_cases e : r.1 = n
    · rw [if_pos e]
      constructor
      · intro h; cases h
      · intro h; exact absurd (by rw [List.map_cons, e]; exact List.mem_cons_self) h
    · rw [if_neg e, ih, List.map_cons, List.mem_cons]
      constructor
      · intro h q
        rcases q with q | q
        · exact e q.symm
        · exact h q
      · intro h q; exact h (.inr q)
theorem key_inr {a b : Str} : ((Sum.inr a : Key) = Sum.inr b) ↔ a = b := ⟨fun h => Sum.inr.inj h, fun h => by rw [h]⟩
theorem kvR_val (m : Rw) (n : Str) : valV (kvR m) (Sum.inr n) = (findR m n).map V.int := by
  induction m with
  | nil => rfl
  | cons r m ih =>
    rw [findR_cons]
    by_cases e : r.1 = n
    · rw [if_pos e]
      exact valV_pos (p := ((Sum.inr r.1 : Key), V.int r.2)) (r := kvR m) (key_inr.mpr e)
    · rw [if_neg e, ← ih]
      exact valV_neg (p := ((Sum.inr r.1 : Key), V.int r.2)) (r := kvR m) fun q => e (key_inr.mp q)
theorem kvR_any (m : Rw) (n : Str) : ((kvR m).any fun kv => decide (kv.1 = (Sum.inr n : Key))) = m.any fun r => decide (r.1 = n) := by
  induction m with
  | nil => rfl
  | cons r m ih =>
    show (decide ((Sum.inr r.1 : Key) = Sum.inr n) || _) = (decide (r.1 = n) || _)
    rw [← ih, decide_eq_decide.mpr (key_inr (a := r.1) (b := n))] <;> rfl
theorem kvR_put (m : Rw) (n : Str) (b : Int) : putK (kvR m) (Sum.inr n) (V.int b) = kvR (putM m n b) := by
  unfold putK putM
  rw [kvR_any]
  by_cases e : (m.any fun r => decide (r.1 = n)) = true
  · rw [if_pos e, if_pos e]
    unfold kvR
    rw [List.map_map, List.map_map]
    refine List.map_congr_left fun r _ => ?_
    show (if (Sum.inr r.1 : Key) = Sum.inr n then ((Sum.inr r.1 : Key), V.int b) else ((Sum.inr r.1 : Key), V.int r.2)) = _
    by_cases q : r.1 = n
    · rw [if_pos (key_inr.mpr q)]
      show _ = ((Sum.inr (if r.1 = n then (r.1, b) else r).1 : Key), V.int (if r.1 = n then (r.1, b) else r).2)
      rw [if_pos q]
    · rw [if_neg fun z => q (key_inr.mp z)]
      show _ = ((Sum.inr (if r.1 = n then (r.1, b) else r).1 : Key), V.int (if r.1 = n then (r.1, b) else r).2)
      rw [if_neg q]
  · rw [if_neg e, if_neg e]
    unfold kvR
    rw [List.map_append] <;> rfl
theorem any_find (m : Rw) (n : Str) : (m.any fun r => decide (r.1 = n)) = (findR m n).isSome := by
  induction m with
  | nil => rfl
  | cons r m ih =>
    rw [findR_cons, List.any_cons, ih]
    by_cases e : r.1 = n
    · rw [if_pos e, decide_eq_true e] <;> rfl
    · rw [if_neg e, decide_eq_false e] <;> rfl
theorem putM_keys (m : Rw) (n : Str) (b : Int) : (putM m n b).map (·.1) = if (findR m n).isSome = true then m.map (·.1) else m.map (·.1) ++ [n] := by
  unfold putM
  rw [any_find]
  by_cases e : (findR m n).isSome = true
  · rw [if_pos e, if_pos e, List.map_map]
    refine List.map_congr_left fun r _ => ?_
    show (if r.1 = n then (r.1, b) else r).1 = r.1
    by_cases q : r.1 = n
    · rw [if_pos q]
    · rw [if_neg q]
  · rw [if_neg e, if_neg e, List.map_append] <;> rfl
theorem putM_nodup {m : Rw} (h : (m.map (·.1)).Nodup) (n : Str) (b : Int) : ((putM m n b).map (·.1)).Nodup := by
  rw [putM_keys]
  by_cases e : (findR m n).isSome = true
  · rw [if_pos e]; exact h
  · rw [if_neg e]
    have e2 : findR m n = none := by
      cases q : findR m n with
      | none => rfl
      | some v => rw [q] at e; exact absurd rfl e
    have hn := findR_none.mp e2
    refine List.nodup_append.mpr ⟨h, List.nodup_cons.mpr ⟨by simp, List.nodup_nil⟩, fun a ha c hc q => ?_⟩
    rw [List.mem_singleton.mp hc] at q
    rw [q] at ha
    exact hn ha
theorem putM_len (m : Rw) (n : Str) (b : Int) : (putM m n b).length ≤ m.length + 1 := by
  unfold putM
  split
  · rw [List.length_map]; omega
  · rw [List.length_append, List.length_singleton]; exact Nat.le_refl _
theorem findR_map (m : Rw) (n : Str) (b : Int) (k : Str) : findR (m.map fun r => if r.1 = n then (r.1, b) else r) k = if k = n then (findR m k).map (fun _ => b) else findR m k := by
  induction m with
  | nil => rw [List.map_nil, findR_nil]; split <;> rfl
  | cons r m ih =>
    rw [List.map_cons, findR_cons, findR_cons, ih]
    by_cases q : r.1 = n
    · rw [if_pos q]
      show (if r.1 = k then some b else _) = _
      by_cases e : r.1 = k
      · rw [if_pos e, if_pos e, if_pos (e.symm.trans q)] <;> rfl
      · have : ¬ k = n := fun z => e (q.trans z.symm)
        rw [if_neg e, if_neg e, if_neg this]
    · rw [if_neg q]
      by_cases e : r.1 = k
      · have : ¬ k = n := fun z => q (e.trans z)
        rw [if_pos e, if_neg this, if_pos e]
      · rw [if_neg e, if_neg e]
theorem findR_putM (m : Rw) (n : Str) (b : Int) (k : Str) : findR (putM m n b) k = if k = n then some b else findR m k := by
  unfold putM
  rw [any_find]
  by_cases e : (findR m n).isSome = true
  · rw [if_pos e, findR_map]
    by_cases q : k = n
    · rw [if_pos q, if_pos q, q]
      cases z : findR m n with
      | none => rw [z] at e; cases e
      | some v => rfl
    · rw [if_neg q, if_neg q]
  · rw [if_neg e, findR_app, findR_cons, findR_nil]
    have e2 : findR m n = none := by
      cases q : findR m n with
      | none => rfl
      | some v => rw [q] at e; exact absurd rfl e
    by_cases q : k = n
    · rw [if_pos q, if_pos q.symm, q, e2] <;> rfl
    · rw [if_neg q, if_neg fun z => q z.symm]
      cases findR m k <;> rfl
/-! ### rows told by what they find -/
theorem SrR.head_none {r : Str × Int} {rs : Rw} (h : SrR (r :: rs)) {k : Str} (hk : ltS k r.1 = true ∨ k = r.1) : findR rs k = none := by
  refine findR_none.mpr fun m => ?_
  obtain ⟨x, hx, e⟩ := List.mem_map.mp m
  have h1 := (List.pairwise_cons.mp h).1 x hx
  rw [e] at h1
  rcases hk with q | q
  · rw [ltS_as q] at h1; cases h1
  · rw [q, ltS_irr] at h1; cases h1
theorem SrR.ext : ∀ {a b : Rw}, SrR a → SrR b → (∀ n, findR a n = findR b n) → a = b
  | [], [], _, _, _ => rfl
  | [], r :: b, _, _, h => by
    have := h r.1
    rw [findR_nil, findR_cons, if_pos rfl] at this
    cases this
  | r :: a, [], _, _, h => by
    have := h r.1
    rw [findR_nil, findR_cons, if_pos rfl] at this
    cases this
  | r :: a, q :: b, ha, hb, h => by
    have e : r.1 = q.1 := by
      rcases ltS_or r.1 q.1 with e | e | e
      · have z := h r.1
        rw [findR_cons, if_pos rfl, findR_cons, if_neg fun u => ltS_ne e u.symm, hb.head_none (.inl e)] at z
        cases z
      · exact e
      · have z := h q.1
        rw [findR_cons, if_neg fun u => ltS_ne e u.symm, ha.head_none (.inl e), findR_cons, if_pos rfl] at z
        cases z
    have e2 : r.2 = q.2 := by
      have z := h r.1
      rw [findR_cons, if_pos rfl, findR_cons, if_pos e.symm] at z
      exact Option.some.inj z
    have e3 : r = q := Prod.ext e e2
    have e4 : a = b := SrR.ext (List.pairwise_cons.mp ha).2 (List.pairwise_cons.mp hb).2 fun n => by
      have z := h n
      rw [findR_cons, findR_cons] at z
      by_cases u : r.1 = n
      · rw [ha.head_none (.inr u.symm), hb.head_none (.inr (u.symm.trans e))]
      · rw [if_neg u, if_neg fun w => u (e.trans w)] at z
        exact z
    rw [e3, e4]
theorem findR_lo (rs : Rw) (n k : Str) : findR (lo rs n) k = if ltS k n = true then findR rs k else none := by
  induction rs with
  | nil => unfold lo; rw [List.filter_nil, findR_nil]; split <;> rfl
  | cons r rs ih =>
    unfold lo
    rw [List.filter_cons]
    by_cases e : ltS r.1 n = true
    · rw [if_pos e, findR_cons, findR_cons]
      by_cases q : r.1 = k
      · rw [if_pos q, if_pos q, if_pos (q ▸ e)]
      · rw [if_neg q, if_neg q]; exact ih
    · rw [if_neg e, findR_cons]
      by_cases q : r.1 = k
      · rw [if_pos q]
        have z := ih
        unfold lo at z
        rw [if_neg (q ▸ e)] at z ⊢
        exact z
      · rw [if_neg q]; exact ih
theorem findR_hi (rs : Rw) (n k : Str) : findR (hi rs n) k = if ltS n k = true then findR rs k else none := by
  induction rs with
  | nil => unfold hi; rw [List.filter_nil, findR_nil]; split <;> rfl
  | cons r rs ih =>
    unfold hi
    rw [List.filter_cons]
    by_cases e : ltS n r.1 = true
    · rw [if_pos e, findR_cons, findR_cons]
      by_cases q : r.1 = k
      · rw [if_pos q, if_pos q, if_pos (q ▸ e)]
      · rw [if_neg q, if_neg q]; exact ih
    · rw [if_neg e, findR_cons]
      by_cases q : r.1 = k
      · rw [if_pos q]
        have z := ih
        unfold hi at z
        rw [if_neg (q ▸ e)] at z ⊢
        exact z
      · rw [if_neg q]; exact ih
theorem findR_putR (rs : Rw) (n : Str) (b : Int) (k : Str) : findR (putR rs n b) k = if k = n then some b else findR rs k := by
  unfold putR
  rw [findR_app, findR_lo, findR_cons, findR_hi]
  rcases ltS_or k n with e | e | e
  · rw [if_pos e, if_neg (ltS_ne e), if_neg fun z => ltS_ne e z.symm, ltS_as e]
    cases findR rs k <;> rfl
  · rw [if_pos e, if_pos e.symm, e, ltS_irr] <;> rfl
  · rw [if_neg (by rw [ltS_as e]; simp), if_neg (fun z => ltS_ne e z : ¬ n = k), if_pos e, if_neg (fun z => ltS_ne e z.symm : ¬ k = n)] <;> rfl
theorem findR_delR (rs : Rw) (n : Str) (k : Str) : findR (delR rs n) k = if k = n then none else findR rs k := by
  unfold delR
  rw [findR_app, findR_lo, findR_hi]
  rcases ltS_or k n with e | e | e
  · rw [if_pos e, if_neg (ltS_ne e), ltS_as e]
    cases findR rs k <;> rfl
  · rw [if_pos e, e, ltS_irr] <;> rfl
  · rw [if_neg (by rw [ltS_as e]; simp), if_pos e, if_neg (fun z => ltS_ne e z.symm : ¬ k = n)] <;> rfl
theorem findR_filter (rs : Rw) (n k : Str) : findR (rs.filter fun r => !decide (r.1 = n)) k = if k = n then none else findR rs k := by
  induction rs with
  | nil => rw [List.filter_nil, findR_nil]; split <;> rfl
  | cons r rs ih =>
    rw [List.filter_cons]
    by_cases e : r.1 = n
    · rw [decide_eq_true e]
      show findR (rs.filter _) k = _
      rw [ih, findR_cons]
      by_cases q : k = n
      · rw [if_pos q, if_pos q]
      · rw [if_neg q, if_neg q, if_neg fun z => q (z.symm.trans e)]
    · rw [decide_eq_false e]
      show findR (r :: rs.filter _) k = _
      rw [findR_cons, ih, findR_cons]
      by_cases q : r.1 = k
      · rw [if_pos q, if_pos q, if_neg fun z => e (q.trans z)]
      · rw [if_neg q, if_neg q]
theorem delR_filter {rs : Rw} (h : SrR rs) (n : Str) : rs.filter (fun r => !decide (r.1 = n)) = delR rs n :=
  SrR.ext (h.sublist List.filter_sublist) (h.del n) fun k => by rw [findR_filter, findR_delR]
/-- the rows that a law makes of its dict: the keys sorted, each with its number -/
def rowsOf (m : Rw) (ys : List Str) : Rw := ys.map fun y => (y, (findR m y).getD 0)
theorem strict_of {ys : List Str} (h : SrtS ys) (hn : ys.Nodup) : ys.Pairwise fun a b => ltS a b = true := by
  refine (List.Pairwise.and h hn).imp fun {a b} ⟨h1, h2⟩ => ?_
  rcases ltS_or a b with e | e | e
  · exact e
  · exact absurd e h2
  · rw [e] at h1; cases h1
theorem rowsOf_srt {m : Rw} {ys : List Str} (hm : (m.map (·.1)).Nodup) (hp : ys.Perm (m.map (·.1))) (hs : SrtS ys) : SrR (rowsOf m ys) :=
  List.pairwise_map.mpr ((strict_of hs (hp.nodup_iff.mpr hm)).imp fun {a b} h => h)
theorem findR_rowsOf (m : Rw) (ys : List Str) (k : Str) : findR (rowsOf m ys) k = if k ∈ ys then some ((findR m k).getD 0) else none := by
  induction ys with
  | nil => rw [if_neg (by simp)] <;> rfl
  | cons y ys ih =>
    show findR ((y, _) :: rowsOf m ys) k = _
    rw [findR_cons, ih]
    by_cases e : y = k
    · rw [if_pos e, if_pos (by rw [e]; exact List.mem_cons_self)]
      show some ((findR m y).getD 0) = _
      rw [e]
    · rw [if_neg e]
      by_cases q : k ∈ ys
      · rw [if_pos q, if_pos (List.mem_cons_of_mem _ q)]
      · rw [if_neg q, if_neg fun z => (List.mem_cons.mp z).elim (fun u => e u.symm) q]
theorem rowsOf_find {m : Rw} {ys : List Str} (hp : ys.Perm (m.map (·.1))) (k : Str) : findR (rowsOf m ys) k = findR m k := by
  rw [findR_rowsOf]
  by_cases e : k ∈ ys
  · rw [if_pos e]
    cases q : findR m k with
    | none => exact absurd (hp.mem_iff.mp e) (findR_none.mp q)
    | some v => rfl
  · rw [if_neg e]
    exact (findR_none.mpr fun z => e (hp.mem_iff.mpr z)).symm
end My
namespace My
open PySem PySem.Spec PyProof.Rows L2
/-! ### names that a law draws -/
theorem st_neS {H : Hp} {Q : VK} {x : V} (h : scal x x = true) (q : Q (.bl false) H) : rNe x x H Q := ⟨h, by rw [decide_eq_true rfl]; exact q⟩
theorem st_eqS {H : Hp} {Q : VK} {x : V} (h : scal x x = true) (q : Q (.bl true) H) : rEq x x H Q := ⟨h, by rw [decide_eq_true rfl]; exact q⟩
def rIsNot : R2 := fun x y H Q => y = .non ∧ Q (.bl (!decide (x = .non))) H
theorem oIsNot {X : Cx} : OpR X (compareOp .IsNot) rIsNot := op_notN
section
variable {H : Hp} {Q : VK} {i : Int} {p : Addr} {z : Str}
theorem isNo_non (q : Q (.bl true) H) : rIsNo .non .non H Q := ⟨rfl, q⟩
theorem isNo_int (q : Q (.bl false) H) : rIsNo (.int i) .non H Q := ⟨rfl, q⟩
theorem isNo_ref (q : Q (.bl false) H) : rIsNo (.ref p) .non H Q := ⟨rfl, q⟩
theorem isNo_str (q : Q (.bl false) H) : rIsNo (.str z) .non H Q := ⟨rfl, q⟩
theorem isNot_non (q : Q (.bl false) H) : rIsNot .non .non H Q := ⟨rfl, q⟩
theorem isNot_int (q : Q (.bl true) H) : rIsNot (.int i) .non H Q := ⟨rfl, q⟩
theorem isNot_ref (q : Q (.bl true) H) : rIsNot (.ref p) .non H Q := ⟨rfl, q⟩
theorem isNot_str (q : Q (.bl true) H) : rIsNot (.str z) .non H Q := ⟨rfl, q⟩
end
theorem lc_filterR {K : PySem.W.Frag} {l : Addr} {xs : List V} {rs : Rw} {n : Str} {j : Nat} {tt : TT} {vs : List Nat} {σ : L2.St} {H1 : Hp} {Q : VK} (hl : SqL K H1 l xs) (pr : Prs K H1 xs rs) (hz : rs.length ≤ 1000000)
    (ht : ∀ (p : Addr) (r : Str × Int) (H2 : Hp), SqT K H2 p [.str r.1, .int r.2] → Gr H1 H2 → ∀ Qb : Bool → Hp → Prop, Qb (!decide (r.1 = n)) H2 → tt ((wipe σ vs).set j (some (.ref p))) H2 Qb)
    {te : TE} (he : ∀ (p : Addr) (H2 : Hp) (Qy : VK), Qy (.ref p) H2 → te ((wipe σ vs).set j (some (.ref p))) H2 Qy)
    (hw : ∀ x, wipe ((wipe σ vs).set j (some x)) vs = wipe σ vs) (hq : ∀ D acc H2, H1 D = none → Gr H1 H2 → H2 D = some (.lst acc) → Prs K H2 acc (rs.filter fun r => !decide (r.1 = n)) → Q (.ref D) H2) : LC (gName j) tt te vs σ Q (Itl K l) H1 := by
  have hxl := pr.len
  refine lc_acc (n := xs.length) (Y := fun i x => xs[i]? = some x) walk_list (fun H' g => g.l hl) (fun i acc H' => Prs K H' acc ((rs.take i).filter fun r => !decide (r.1 = n)))
    (fun H2 _ => by rw [List.take_zero]; exact .nil) (fun i acc H H' g h => h.gr g) (fun i acc H D xs zs e _ h => h.mut e) ?_ (fun D acc H2 hD g e _ h => hq D acc H2 hD g e (by rw [hxl, List.take_length] at h; exact h)) (by omega) hw
  intro i x acc H2 hi y g a Qy Qn q1 q2
  obtain ⟨p, r, rfl, er, hp⟩ := pr.back y
  obtain ⟨hi2, e2⟩ := List.getElem?_eq_some_iff.mp er
  have et : (rs.take (i + 1)).filter (fun r => !decide (r.1 = n)) = (rs.take i).filter (fun r => !decide (r.1 = n)) ++ (if (!decide (r.1 = n)) = true then [r] else []) := by
    rw [List.take_succ_eq_append_getElem hi2, List.filter_append, e2, List.filter_cons]
    split <;> rfl
  refine ht p r H2 (g.t hp) g _ ?_
  refine ite3 (fun h => he p H2 Qy (q1 _ H2 (Gr.refl _) ?_)) (fun h => q2 H2 (Gr.refl _) ?_)
  · rw [et, if_pos h]
    exact a.app (.one (g.t hp))
  · rw [et, if_neg (by rw [h]; exact Bool.false_ne_true), List.append_nil]
    exact a
theorem st_lenT2 {K : PySem.W.Frag} {H : Hp} {Q : VK} {p : Addr} {x y : V} (h : SqT K H p [x, y]) (q : Q (.int 2) H) : rLenQ K [.ref p] H Q := ⟨p, _, rfl, .inr h, q⟩
theorem st_loopR {m j : Nat} {tb : TS} {n : L2.St → Hp → Prop} {rt : VK} {b c : L2.St → Hp → Prop} {σ : L2.St} {H : Hp} (Pv : Nat → L2.St → Hp → Prop) (h0 : Pv 0 σ H)
    (hs : ∀ (i : Nat) σ H, i < m → Pv i σ H → tb ⟨Pv (i + 1), rt, n, Pv (i + 1)⟩ (σ.set j (some (.int (i : Int)))) H) (hd : ∀ σ H, Pv m σ H → n σ H) : LF (gName j) tb ⟨n, rt, b, c⟩ σ (Itr 0 m) H := by
  refine st_loop walk_range Pv h0 (fun _ _ _ _ _ => True.intro) (fun i x σ H hi p y => ?_) hd
  subst y
  show tb _ (σ.set j (some (.int (0 + (i : Int))))) H
  rw [Int.zero_add]
  exact hs i σ H hi p
def abc : List Nat := (Str.ofString "abcdefghijklmnopqrstuvwxyz").cps.toList
theorem abc_eq : abc = [97, 98, 99, 100, 101, 102, 103, 104, 105, 106, 107, 108, 109, 110, 111, 112, 113, 114, 115, 116, 117, 118, 119, 120, 121, 122] := by decide +kernel
/-- small letters alone -/
def lowS (z : Str) : Bool := z.cps.toList.all fun c => decide (97 ≤ c) && decide (c ≤ 122)
/-- a name -/
def okN (z : Str) : Bool := decide (1 ≤ z.length) && decide (z.length ≤ 8) && lowS z
theorem len_tl (z : Str) : z.length = z.cps.toList.length := by simp [Str.length]
theorem app_tl (a b : Str) : (a ++ b).cps.toList = a.cps.toList ++ b.cps.toList := by
  show (a.cps ++ b.cps).toList = _
  rw [Array.toList_append]
theorem lowS_app (a b : Str) : lowS (a ++ b) = (lowS a && lowS b) := by
  unfold lowS
  rw [app_tl, List.all_append]
theorem len_app (a b : Str) : (a ++ b).length = a.length + b.length := by
  rw [len_tl, app_tl, List.length_append, len_tl, len_tl]
theorem lowS_one (i : Nat) (h : i < 26) : lowS ⟨#[abc.getD i 0]⟩ = true := by
  have hh : ∀ i, i < 26 → lowS ⟨#[abc.getD i 0]⟩ = true := by decide +kernel
  exact hh i h
theorem lowS_ok {z : Str} (h : lowS z = true) : PyData.strOk z = true := by
  unfold PyData.strOk
  rw [← Array.all_toList, List.all_eq_true]
  intro c hc
  have q := List.all_eq_true.mp h c hc
  rw [Bool.and_eq_true, decide_eq_true_eq, decide_eq_true_eq] at q
  exact decide_eq_true (by omega)
theorem okN_le {z : Str} (h : okN z = true) : 1 ≤ z.length ∧ z.length ≤ 8 ∧ lowS z = true := by
  unfold okN at h
  rw [Bool.and_eq_true, Bool.and_eq_true, decide_eq_true_eq, decide_eq_true_eq] at h
  exact ⟨h.1.1, h.1.2, h.2⟩
theorem okN_mk {z : Str} (h1 : 1 ≤ z.length) (h2 : z.length ≤ 8) (h3 : lowS z = true) : okN z = true := by
  unfold okN
  rw [decide_eq_true h1, decide_eq_true h2, h3] <;> rfl
theorem joinL_mem {S : List Nat} {c : Nat} : ∀ {ls : List (List Nat)}, c ∈ TL.joinL S ls → c ∈ S ∨ ∃ l ∈ ls, c ∈ l
  | [], h => by cases h
  | [a], h => .inr ⟨a, List.mem_cons_self, h⟩
  | a :: d :: r, h => by
    have h2 : c ∈ a ++ (S ++ TL.joinL S (d :: r)) := h
    rcases List.mem_append.mp h2 with q | q
    · exact .inr ⟨a, List.mem_cons_self, q⟩
    · rcases List.mem_append.mp q with q | q
      · exact .inl q
      · rcases joinL_mem q with z | ⟨l, hl, z⟩
        · exact .inl z
        · exact .inr ⟨l, List.mem_cons_of_mem _ hl, z⟩
theorem joinE_len : ∀ (ls : List (List Nat)), (TL.joinL [] ls).length = (ls.map List.length).sum
  | [] => rfl
  | [a] => by simp [TL.joinL]
  | a :: d :: r => by
    have ih := joinE_len (d :: r)
    show (a ++ ([] ++ TL.joinL [] (d :: r))).length = _
    rw [List.length_append, List.nil_append, ih, List.map_cons, List.map_cons, List.map_cons, List.sum_cons, List.sum_cons, List.sum_cons]
theorem tl_empty : TL.tl (Str.ofString "") = [] := by decide +kernel
/-- signs, one by one, joined -/
def signs (f : Nat → Nat) (n : Nat) : List Str := (List.range n).map fun i => (⟨#[abc.getD (f i) 0]⟩ : Str)
theorem signs_len (f : Nat → Nat) (n : Nat) : (signs f n).length = n := by unfold signs; rw [List.length_map, List.length_range]
theorem signs_sum (f : Nat → Nat) (n : Nat) : ((signs f n).map (·.length)).sum = n := by
  unfold signs
  rw [List.map_map]
  have e : ((fun z : Str => z.length) ∘ fun i => (⟨#[abc.getD (f i) 0]⟩ : Str)) = fun _ => 1 := by funext i; rfl
  rw [e]
  induction n with
  | zero => rfl
  | succ n ih => rw [List.range_succ, List.map_append, List.sum_append, ih] <;> rfl
theorem join_signs {f : Nat → Nat} {n : Nat} (hf : ∀ i, i < n → f i < 26) (h1 : 1 ≤ n) (h8 : n ≤ 8) : okN (Txt.join (Str.ofString "") (signs f n)) = true := by
  have et : (Txt.join (Str.ofString "") (signs f n)).cps.toList = TL.joinL [] ((signs f n).map TL.tl) := by
    show TL.tl _ = _
    rw [TL.join_eq, TL.tl_join, tl_empty]
  refine okN_mk ?_ ?_ ?_
  · rw [len_tl, et, joinE_len, List.map_map]
    have := signs_sum f n
    have e : ((signs f n).map (List.length ∘ TL.tl)).sum = ((signs f n).map (·.length)).sum := by
      congr 1
    rw [e, this]
    exact h1
  · rw [len_tl, et, joinE_len, List.map_map]
    have := signs_sum f n
    have e : ((signs f n).map (List.length ∘ TL.tl)).sum = ((signs f n).map (·.length)).sum := by
      congr 1
    rw [e, this]
    exact h8
  · unfold lowS
    rw [et, List.all_eq_true]
    intro c hc
    rcases joinL_mem hc with z | ⟨l, hl, z⟩
    · cases z
    · obtain ⟨y, hy, rfl⟩ := List.mem_map.mp hl
      unfold signs at hy
      obtain ⟨i, hi, rfl⟩ := List.mem_map.mp hy
      have q := lowS_one (f i) (hf i (List.mem_range.mp hi))
      exact List.all_eq_true.mp q c z
/-- a stem with a sign put in -/
def stems : List Str := [Str.ofString "ab", Str.ofString "aba", Str.ofString "zyxwvut", Str.ofString "nonon", Str.ofString "aaaaaaa", Str.ofString "q"]
def stem (k : Nat) : Str := stems.getD k (Str.ofString "q")
def putIn (k a c : Nat) : Str := cutS (stem k) none (some (a : Int)) ++ ⟨#[abc.getD c 0]⟩ ++ cutS (stem k) (some (a : Int)) none
theorem stem_le (k : Nat) : (stem k).length ≤ 7 := by
  unfold stem
  have h : ∀ s ∈ stems, s.length ≤ 7 := by decide +kernel
  rw [List.getD_eq_getElem?_getD]
  cases e : stems[k]? with
  | none => decide +kernel
  | some s => exact h s (List.mem_of_getElem? e)
theorem putIn_ok {k a c : Nat} (hk : k < 6) (ha : a < (stem k).length + 1) (hc : c < 26) : okN (putIn k a c) = true := by
  have hh : ∀ k, k < 6 → ∀ a, a < 8 → a < (stem k).length + 1 → (cutS (stem k) none (some (a : Int))).length + (cutS (stem k) (some (a : Int)) none).length ≤ 7 ∧ lowS (cutS (stem k) none (some (a : Int))) = true ∧ lowS (cutS (stem k) (some (a : Int)) none) = true := by decide +kernel
  have hl := stem_le k
  obtain ⟨h1, h2, h3⟩ := hh k hk a (by omega) ha
  have e1 : (⟨#[abc.getD c 0]⟩ : Str).length = 1 := rfl
  unfold putIn
  refine okN_mk ?_ ?_ ?_
  · rw [len_app, len_app, e1]; omega
  · rw [len_app, len_app, e1]; omega
  · rw [lowS_app, lowS_app, h2, h3, lowS_one c hc] <;> rfl
theorem cut_le (k a : Nat) : (cutS (stem k) none (some (a : Int))).length ≤ 7 ∧ (cutS (stem k) (some (a : Int)) none).length ≤ 7 := by
  have h : ∀ lo hi, (cutS (stem k) lo hi).length ≤ 7 := fun lo hi => by
    unfold cutS
    rw [len_tl]
    show (List.take _ (List.drop _ _)).length ≤ 7
    rw [List.length_take, List.length_drop]
    have := stem_le k
    rw [len_tl] at this
    omega
  exact ⟨h _ _, h _ _⟩
theorem nat_emod (x : Int) (m : Nat) (M : Int) (hM : M = (m : Int)) (h : 0 < m) : ∃ j : Nat, x % M = (j : Int) ∧ j < m := by
  subst hM
  have h1 := Int.emod_nonneg x (b := (m : Int)) (by omega)
  have h2 := Int.emod_lt_of_pos x (b := (m : Int)) (by omega)
  exact ⟨(x % (m : Int)).toNat, by omega, by omega⟩
theorem abc_at {c : Nat} (h : c < 26) : atI abc ((c : Nat) : Int) = some (abc.getD c 0) := by
  refine atI_nat ?_
  rw [List.getD_eq_getElem?_getD, List.getElem?_eq_getElem (by rw [abc_eq]; exact h)] <;> rfl
theorem stem_at {k : Nat} (h : k < 6) : atI (stems.map V.str) ((k : Nat) : Int) = some (V.str (stem k)) := by
  refine atI_nat ?_
  unfold stem
  rw [List.getElem?_map, List.getD_eq_getElem?_getD, List.getElem?_eq_getElem (by exact h)] <;> rfl
end My
namespace My
open PySem PySem.Spec PyProof.Rows L2
/-! ### data: texts, rows -/
theorem dp_strs {K : PySem.W.Frag} {H : Hp} : ∀ ys : List Str, DpAll K H (ys.map V.str) (ys.map PyData.str)
  | [] => .nil
  | y :: r => .cons (.str y) (dp_strs r)
theorem lay_strs : ∀ {ys : List Str}, (∀ y ∈ ys, PyData.strOk y = true) → PyData.canLayAll0 (ys.map PyData.str) = true
  | [], _ => rfl
  | y :: r, h => by
    rw [List.map_cons, PyData.canLayAll0, lay_strs fun z hz => h z (List.mem_cons_of_mem _ hz), Bool.and_true]
    show PyData.strOk y = true
    exact h y List.mem_cons_self
theorem depth_strs : ∀ ys : List Str, PyData.depthAll (ys.map PyData.str) = 0
  | [] => rfl
  | y :: r => by
    rw [List.map_cons, PyData.depthAll, depth_strs r]
    rfl
theorem shaped_strs {ys : List Str} (h : ∀ y ∈ ys, PyData.strOk y = true) : SeqAt.shaped (.list (ys.map PyData.str)) = true := by
  unfold SeqAt.shaped
  rw [PyData.depth, depth_strs]
  show (PyData.canLayAll0 _ && _) = true
  rw [lay_strs h] <;> rfl
def rowD (r : Str × Int) : PyData := .tuple [.str r.1, .int r.2]
theorem dp_rows {K : PySem.W.Frag} {H : Hp} : ∀ {vs : List V} {rs : Rw}, Prs K H vs rs → DpAll K H vs (rs.map rowD)
  | _, _, .nil => .nil
  | _, _, .cons a r => .cons (.tup a (.cons (.str _) (.cons (.int _) .nil))) (dp_rows r)
def lowR (rs : Rw) : Prop := ∀ r ∈ rs, lowS r.1 = true
theorem lay_rows : ∀ {rs : Rw}, lowR rs → PyData.canLayAll0 (rs.map rowD) = true
  | [], _ => rfl
  | r :: rs, h => by
    rw [List.map_cons, PyData.canLayAll0, lay_rows fun z hz => h z (List.mem_cons_of_mem _ hz), Bool.and_true]
    show PyData.canLayAll0 [.str r.1, .int r.2] = true
    rw [PyData.canLayAll0, PyData.canLay0, lowS_ok (h r List.mem_cons_self)] <;> rfl
theorem depth_rows : ∀ rs : Rw, PyData.depthAll (rs.map rowD) ≤ 1
  | [] => by decide
  | r :: rs => by
    rw [List.map_cons, PyData.depthAll]
    have h := depth_rows rs
    have e : PyData.depth (rowD r) = 1 := rfl
    rw [e]
    omega
theorem shaped_rows {rs : Rw} (h : lowR rs) : SeqAt.shaped (.list (rs.map rowD)) = true := by
  unfold SeqAt.shaped
  rw [PyData.depth]
  show (PyData.canLayAll0 _ && _) = true
  have hd := depth_rows rs
  rw [lay_rows h, decide_eq_true (by omega)] <;> rfl
theorem st_neNilR {K : PySem.W.Frag} {H : Hp} {Q : VK} {p q : Addr} {vs : List V} {rs : Rw} (h : SqL K H p vs) (pr : Prs K H vs rs) (hq : SqL K H q []) (hok : lowR rs) (k : Q (.bl (!rs.isEmpty)) H) : rNeD K (.ref p) (.ref q) H Q := by
  refine ⟨.list (rs.map rowD), .list [], .lst h (dp_rows pr), .lst hq .nil, shaped_rows hok, by decide, ?_⟩
  have e : PyData.eqv (.list (rs.map rowD)) (.list []) = rs.isEmpty := by
    cases rs with
    | nil => simp [PyData.eqv, PyData.eqvAll]
    | cons y r => simp [PyData.eqv, PyData.eqvAll]
  rw [e]
  exact k
theorem st_cut {t u : TS} {n : L2.St → Hp → Prop} {rt : VK} {b c : L2.St → Hp → Prop} {σ : L2.St} {H : Hp} (Mid : L2.St → Hp → Prop) (h : t ⟨Mid, rt, b, c⟩ σ H) (k : ∀ σ' H', Mid σ' H' → u ⟨n, rt, b, c⟩ σ' H') : C8.tCut t u ⟨n, rt, b, c⟩ σ H := ⟨Mid, h, k⟩
theorem kvR_keys (m : Rw) : (kvR m).map (·.1) = (m.map (·.1)).map (Sum.inr : Str → Key) := by
  unfold kvR
  rw [List.map_map, List.map_map] <;> rfl
theorem kvR_len (m : Rw) : (kvR m).length = m.length := by unfold kvR; rw [List.length_map]
theorem lowR_put {m : Rw} (h : lowR m) {n : Str} (hn : lowS n = true) (b : Int) : lowR (putM m n b) := by
  intro r hr
  unfold putM at hr
  split at hr
  · obtain ⟨x, hx, e⟩ := List.mem_map.mp hr
    by_cases q : x.1 = n
    · rw [if_pos q] at e
      rw [← e]
      exact h x hx
    · rw [if_neg q] at e
      rw [← e]
      exact h x hx
  · rcases List.mem_append.mp hr with hr | hr
    · exact h r hr
    · rw [List.mem_singleton.mp hr]
      exact hn
theorem lowR_rowsOf {m : Rw} (h : lowR m) {ys : List Str} (hp : ys.Perm (m.map (·.1))) : lowR (rowsOf m ys) := by
  intro r hr
  obtain ⟨y, hy, rfl⟩ := List.mem_map.mp hr
  obtain ⟨x, hx, e⟩ := List.mem_map.mp (hp.mem_iff.mp hy)
  show lowS y = true
  rw [← e]
  exact h x hx
theorem rowsOf_len (m : Rw) (ys : List Str) : (rowsOf m ys).length = ys.length := by unfold rowsOf; rw [List.length_map]
theorem rowsOf_put {m : Rw} {ys zs : List Str} (hm : (m.map (·.1)).Nodup) (hp : ys.Perm (m.map (·.1))) (hs : SrtS ys) (n : Str) (b : Int) (hp2 : zs.Perm ((putM m n b).map (·.1))) (hs2 : SrtS zs) :
    rowsOf (putM m n b) zs = putR (rowsOf m ys) n b :=
  SrR.ext (rowsOf_srt (putM_nodup hm n b) hp2 hs2) ((rowsOf_srt hm hp hs).put n b) fun k => by
    rw [rowsOf_find hp2, findR_putM, findR_putR, rowsOf_find hp]
end My
/-! tuple((a, b) for a, b in a list of pairs): the new pairs stand in the heap that is left -/
namespace TG
open PySem PySem.Spec PyProof.Rows
abbrev tupO (xs : Array Value) : Obj := { cls := .type "tuple", data := .seq xs }
/-- the element (a, b) -/
theorem elt_pair {prog : Program} {w : World} {cenv : Env} {xa xb : Str} {k2 : Nat} {p1 p2 p3 : Pos} {A : Around} {E : Value → Shared → Prop} {s : Shared} {m : Str → Option Value} {va vb : Value} {Q : Value → Shared → Prop}
    (hk : cenv.scope.kind = .function) (ha : cenv.kindOf xa = some .local) (hb : cenv.kindOf xb = some .local) (da : (xa == ("__debug__" : Str)) = false) (db : (xb == ("__debug__" : Str)) = false)
    (hn : s.heap.Ns cenv.locals m) (ma : m xa = some va) (mb : m xb = some vb) (q : Q (.ref s.heap.objs.size) { s with heap := s.heap.push (tupO #[va, vb]) }) :
    wpAny (model prog w) A (eval (.Tuple [.Name xa p1, .Name xb p2] k2 p3) cenv) Q E s := by
  refine wpAny_Tuple_spliced ?_
  show wpAny _ _ (spliced ((false, eval (.Name xa p1) cenv) :: (false, eval (.Name xb p2) cenv) :: [])) _ _ s
  refine Calls.spliced_cons (wpAny_Name (wpAny_loadName_local hk ha hn ma ?_) da)
  refine Calls.spliced_cons (wpAny_Name (wpAny_loadName_local hk hb hn mb ?_) db)
  refine Calls.spliced_nil ?_
  exact ⟨by show 2 ≤ sizeLine; decide, q⟩
/-- what a turn hands out -/
def YP (C I : Addr) (fp : List Addr) (n : Nat) (vals : Nat → Array Value) : Protocol := fun m s0 v s k =>
  (∃ p, v = .ref p ∧ s.heap.get? p = some (tupO (vals (n - 1 - m))) ∧ s0.heap.get? p = none ∧ ∃ oC oI, s.heap.get? C = some oC ∧ s.heap.get? I = some oI) ∧ GenSince C [I] s0 s ∧ ∀ t : Shared, (∀ b ∈ C :: fp, ∀ o, s.heap.get? b = some o → t.heap.get? b = some o) → k (.send .none) t
abbrev RP (C I : Addr) : GenEnd := fun n s0 r s1 => r = .ok .next ∧ (n = 0 ∧ GenSince C [I] s0 s1)
section
variable {prog : Program} {w : World} {A : Around} {iter : Expr} {xa xb : Str} {pa pb pt p1 p2 p3 pos : Pos} {kt k2 : Nat} {scope : Scope} {I : Addr} {fp : List Addr} {n : Nat} {vals : Nat → Array Value} {St : Nat → Heap → Prop} {Mid : Nat → Addr → Heap → Prop} {cenv : Env}
/-- the generator expression -/
abbrev gexp (iter : Expr) (xa xb : Str) (pa pb pt p1 p2 p3 pos : Pos) (kt k2 : Nat) (scope : Scope) : Expr := .GeneratorExp (.Tuple [.Name xa p1, .Name xb p2] k2 p3) [⟨.Tuple [.Name xa pa, .Name xb pb] kt pt, iter, [], 0⟩] scope pos
theorem fresh_of {C I p : Addr} {s0 s : Shared} (g : GenSince C [I] s0 s) (hC : ∃ o, s.heap.get? C = some o) (hI : ∃ o, s.heap.get? I = some o) (hp : s.heap.get? p = none) : s0.heap.get? p = none := by
  obtain ⟨h, tk, rfl, k⟩ := g
  cases e : s0.heap.get? p with
  | none => rfl
  | some o =>
    by_cases q : p = C
    · obtain ⟨o', e'⟩ := hC
      rw [← q] at e'
      exact absurd (hp.symm.trans e') (by simp)
    · by_cases q2 : p = I
      · obtain ⟨o', e'⟩ := hI
        rw [← q2] at e'
        exact absurd (hp.symm.trans e') (by simp)
      · have := k p o q (by simp [q2]) e
        exact absurd (hp.symm.trans this) (by simp)
theorem loop (hh : A.handled = none) (W : ∀ A' : Around, A'.handled = none → WalksU prog w A' I fp [I] n (fun j v => v = vals j) St Mid) (h2 : ∀ i, i < n → ∃ va vb, vals i = #[va, vb]) (hab : xa ≠ xb)
    (ha : cenv.kindOf xa = some .local) (hb : cenv.kindOf xb = some .local) (hk : cenv.scope.kind = .function) (hp : (cenv.scope.kind == .class || (cenv.scope.kind == .module && cenv.locals != cenv.globals)) = false) (hco : cenv.scope.isCoroutine = false) (hC : cenv.locals ∉ fp)
    (da : (xa == ("__debug__" : Str)) = false) (db : (xb == ("__debug__" : Str)) = false) (hI : ∀ i h, St i h → ∃ o, h.get? I = some o) :
    ∀ (k i : Nat) (s0 s : Shared) (m : Str → Option Value), n - i = k → i ≤ n → St i s.heap → s.heap.Ns cenv.locals m → GenSince cenv.locals [I] s0 s →
      Seg (model prog w) A (RP cenv.locals I) (YP cenv.locals I fp n vals) (n - i) s0 (.compLoop (gexp iter xa xb pa pb pt p1 p2 p3 pos kt k2 scope) 0 (.ref I) .none cenv)
        ((model prog w).den (.compLoop (gexp iter xa xb pa pb pt p1 p2 p3 pos kt k2 scope) 0 (.ref I) .none cenv)) [] s := by
  have hh1 : (A.over (.compLoop (gexp iter xa xb pa pb pt p1 p2 p3 pos kt k2 scope) 0 (.ref I) .none cenv) []).handled = none := hh
  have hCI : cenv.locals ∉ [I] := fun h => hC ((W A hh).sub _ h)
  intro k
  induction k with
  | zero =>
    intro i s0 s m hk1 hi hst hn hs
    obtain rfl : i = n := by omega
    show Seg _ A _ _ _ s0 _ ((compTurn (gexp iter xa xb pa pb pt p1 p2 p3 pos kt k2 scope) 0 (.ref I) .none cenv).onRaise (leaving cenv)) [] s
    rw [compTurn_gen, Sem.onRaise_eq_wrap]
    refine seg_bind_wrap (wpAny_standAt (seg_bind_wrap ((W _ hh1).done s _ _ hst fun h' tk kp => ?_)))
    rw [Nat.sub_self]
    exact seg_end (.ok .next) ⟨rfl, rfl, hs.step fun b o _ q e => kp b o q e⟩
  | succ k ih =>
    intro i s0 s m hk1 hi hst hn hs
    have hlt : i < n := by omega
    show Seg _ A _ _ _ s0 _ ((compTurn (gexp iter xa xb pa pb pt p1 p2 p3 pos kt k2 scope) 0 (.ref I) .none cenv).onRaise (leaving cenv)) [] s
    rw [compTurn_gen, Sem.onRaise_eq_wrap]
    refine seg_bind_wrap (wpAny_standAt (seg_bind_wrap ((W _ hh1).item i s _ _ hlt hst fun T vs h1 tk1 hv hT hmid kp1 => ?_)))
    obtain ⟨va, vb, ev⟩ := h2 i hlt
    rw [hv, ev] at hT
    refine seg_bind_wrap ((W _ hh1).go _ _ _ i T _ _ _ hmid fun h2' hst2 kp2 => ?_)
    have hT2 : h2'.IsTuple T #[va, vb] := let ⟨o, e, r⟩ := hT; ⟨o, kp2 _ o ((W _ hh1).apart i T _ hmid) e, r⟩
    refine seg_bind_wrap (wpAny_assign_Tuple hh1 hT2 rfl rfl fun h3 x3 => ?_)
    replace x3 : Heap.ExtBut h2'.objs.size h2' h3 := x3
    have o3 : ∀ b o, h2'.get? b = some o → h3.get? b = some o := fun b o e => x3 b o (Nat.ne_of_lt (Heap.lt_size e)) e
    show wpAny _ _ (do holding [vb] (assign (.Name xa pa) cenv va); do holding [] (assign (.Name xb pb) cenv vb); pure ()) _ _ _
    refine wpAny_bind (wpAny_holding (wpAny_assign_Name (wpAny_storeName_local ha (hn.at' fun o e => o3 _ o (kp2 _ o hCI (kp1 _ o hCI e))) (fun h4 n4 b4 => ?_) hp)))
    replace b4 : Heap.SameBut cenv.locals h3 h4 := b4
    refine wpAny_bind (wpAny_holding (wpAny_assign_Name (wpAny_storeName_local hb n4 (fun h5 n5 b5 => wpAny_pure ?_) hp)))
    replace b5 : Heap.SameBut cenv.locals h4 h5 := b5
    have up : ∀ b o, b ≠ cenv.locals → b ∉ [I] → s.heap.get? b = some o → h5.get? b = some o := fun b o q q2 e => b5.extBut b o q (b4.extBut b o q (o3 b o (kp2 b o q2 (kp1 b o q2 e))))
    have st5 : St (i + 1) h5 := (W A hh).frame _ _ _ hst2 fun b q o e => b5.extBut b o (fun z => hC (z ▸ q)) (b4.extBut b o (fun z => hC (z ▸ q)) (o3 b o e))
    have e0 : n - i = (n - (i + 1)) + 1 := by omega
    rw [e0]
    simp only [List.forIn_nil, pure_bind, if_true]
    have hy : ∀ v, yieldOut cenv v = yieldValue v := fun v => by simp only [yieldOut, hco, Bool.false_eq_true, if_false]
    simp only [hy]
    rw [Sem.bind_eq_wrap', Sem.bind_eq_wrap', Sem.wrap_wrap, Sem.wrap_wrap]
    refine seg_wrap (elt_pair (va := va) (vb := vb) hk ha hb da db n5 (by simp [hab]) (by simp) ?_)
    have keep6 : ∀ b o, h5.get? b = some o → (h5.push (tupO #[va, vb])).get? b = some o := fun b o e => Heap.get?_push_of_some _ e
    have hs5 : ∀ tk, GenSince cenv.locals [I] s0 { s with heap := h5, toks := tk } := fun tk => hs.step up
    have hp0 : h5.get? h5.objs.size = none := by
      cases e : h5.get? h5.objs.size with
      | none => rfl
      | some o => exact absurd (Heap.lt_size e) (Nat.lt_irrefl _)
    refine seg_at (seg_yield rfl rfl rfl ⟨⟨_, rfl, ?_, fresh_of (hs5 0) (let ⟨o, _, _, e, _⟩ := n5; ⟨o, e⟩) (hI _ _ st5) hp0, (let ⟨o, _, _, e, _⟩ := n5; let ⟨o2, e2⟩ := hI _ _ st5; ⟨o, o2, keep6 _ _ e, keep6 _ _ e2⟩)⟩, (hs5 0).step fun b o _ _ e => keep6 b o e, fun t hal => ?_⟩)
    · have e1 : n - 1 - (n - (i + 1)) = i := by omega
      rw [e1, ev]
      exact Heap.get?_push_size _ rfl
    · exact seg_again rfl (ih (i + 1) t t _ (by omega) hlt ((W A hh).frame _ _ _ st5 fun b q o e => hal b (List.mem_cons_of_mem _ q) o (keep6 b o e)) ((n5.keeps keep6).at' fun o e => hal _ (List.mem_cons_self ..) o e) (GenSince.refl _ _ _))
/-- the generator's code from its start -/
theorem start (hh : A.handled = none) (W : ∀ A' : Around, A'.handled = none → WalksU prog w A' I fp [I] n (fun j v => v = vals j) St Mid) (h2 : ∀ i, i < n → ∃ va vb, vals i = #[va, vb]) (hab : xa ≠ xb)
    (ha : cenv.kindOf xa = some .local) (hb : cenv.kindOf xb = some .local) (hk : cenv.scope.kind = .function) (hp : (cenv.scope.kind == .class || (cenv.scope.kind == .module && cenv.locals != cenv.globals)) = false) (hco : cenv.scope.isCoroutine = false) (hC : cenv.locals ∉ fp)
    (da : (xa == ("__debug__" : Str)) = false) (db : (xb == ("__debug__" : Str)) = false) (hI : ∀ i h, St i h → ∃ o, h.get? I = some o) {s : Shared} {m : Str → Option Value} (hst : St 0 s.heap) (hn : s.heap.Ns cenv.locals m) :
    Seg (model prog w) A (RP cenv.locals I) (YP cenv.locals I fp n vals) n s (.compStart (gexp iter xa xb pa pb pt p1 p2 p3 pos kt k2 scope) 0 (.ref I) .none cenv)
      ((model prog w).den (.compStart (gexp iter xa xb pa pb pt p1 p2 p3 pos kt k2 scope) 0 (.ref I) .none cenv)) [] s := by
  have hh1 : (A.over (.compStart (gexp iter xa xb pa pb pt p1 p2 p3 pos kt k2 scope) 0 (.ref I) .none cenv) []).handled = none := hh
  have lp := loop (iter := iter) (pa := pa) (pb := pb) (pt := pt) (p1 := p1) (p2 := p2) (p3 := p3) (pos := pos) (kt := kt) (k2 := k2) (scope := scope) hh W h2 hab ha hb hk hp hco hC da db hI n 0 s s m rfl (Nat.zero_le _) hst hn (GenSince.refl _ _ _)
  show Seg _ A _ _ _ s _ ((compStart (gexp iter xa xb pa pb pt p1 p2 p3 pos kt k2 scope) 0 (.ref I) .none cenv).onRaise (leaving cenv)) [] s
  unfold compStart
  rw [Sem.onRaise_eq_wrap]
  show Seg _ A _ _ _ s _ ((ask >>= _).wrap _ _ _ _) [] s
  refine seg_bind_wrap (wpAny_askSetting ?_)
  split
  · exact seg_again rfl lp
  · first
      | exact seg_bind_wrap (wpAny_rule (seg_bind_wrap (wpAny_standAt (seg_bind_wrap ((W _ hh1).self 0 s _ _ hst (seg_again rfl lp))))))
      | (refine seg_bind_wrap (wpAny_rule ?_); show Seg _ A _ _ _ s _ ((standAt iter.pos >>= _).wrap _ _ _ _) [] s; exact seg_bind_wrap (wpAny_standAt (seg_bind_wrap ((W _ hh1).self 0 s _ _ hst (seg_again rfl lp)))))
end
/-! ### drawn to its end -/
/-- the generator a (number g) before its turn j -/
def At (prog : Program) (w : World) (A : Around) (a : Addr) (g : Nat) (C I : Addr) (fp : List Addr) (n : Nat) (vals : Nat → Array Value) (j : Nat) (s : Shared) : Prop :=
  s.heap.IsGen a g ∧ s.heap.NoLimit ∧ ∃ gs, s.gens[g]? = some gs ∧ ∀ t : Shared, (∀ b ∈ C :: fp, ∀ o, s.heap.get? b = some o → t.heap.get? b = some o) → gs.Goes (model prog w) A.in1 (RP C I) (YP C I fp n vals) (n - j) (.send .none) t
/-- what has been drawn so far: pairs, each at its own place, beside what turns -/
structure Drawn (wr : List Addr) (vals : Nat → Array Value) (s0 : Shared) (acc : Array Value) (i : Nat) (h : Heap) : Prop where
  size : acc.size = i
  item : ∀ j, j < i → ∃ p, acc[j]? = some (.ref p) ∧ h.get? p = some (tupO (vals j)) ∧ p ∉ wr ∧ s0.heap.get? p = none
  apart : ∀ (j k p : Nat), j < k → k < i → acc[j]? = some (.ref p) → acc[k]? ≠ some (.ref p)
theorem Drawn.keep {wr : List Addr} {vals : Nat → Array Value} {s0 : Shared} {acc : Array Value} {i : Nat} {h h' : Heap} (d : Drawn wr vals s0 acc i h) (k : ∀ b o, b ∉ wr → h.get? b = some o → h'.get? b = some o) : Drawn wr vals s0 acc i h' :=
  ⟨d.size, fun j hj => let ⟨p, e1, e2, e3, e4⟩ := d.item j hj; ⟨p, e1, k _ _ e3 e2, e3, e4⟩, d.apart⟩
theorem Drawn.push {wr : List Addr} {vals : Nat → Array Value} {s0 : Shared} {acc : Array Value} {i p : Nat} {h h' : Heap} (d : Drawn wr vals s0 acc i h) (k : ∀ b o, b ∉ wr → h.get? b = some o → h'.get? b = some o) (e : h'.get? p = some (tupO (vals i))) (hw : p ∉ wr) (h0 : s0.heap.get? p = none)
    (hf : h.get? p = none) : Drawn wr vals s0 (acc.push (.ref p)) (i + 1) h' := by
  refine ⟨by rw [Array.size_push, d.size], fun j hj => ?_, fun j l q hjl hl ej el => ?_⟩
  · by_cases q : j = i
    · subst q
      exact ⟨p, by rw [Array.getElem?_push, if_pos d.size.symm], e, hw, h0⟩
    · obtain ⟨r, e1, e2, e3, e4⟩ := d.item j (by omega)
      exact ⟨r, by rw [Array.getElem?_push, if_neg (by rw [d.size]; exact q)]; exact e1, k _ _ e3 e2, e3, e4⟩
  · have hj : j < i := by omega
    rw [Array.getElem?_push, if_neg (by rw [d.size]; omega)] at ej
    obtain ⟨r, e1, e2, _⟩ := d.item j hj
    rw [e1] at ej
    have er : r = q := by injection ej with z; injection z
    by_cases ql : l = i
    · rw [Array.getElem?_push, if_pos (by rw [d.size, ql])] at el
      have ep : p = q := by injection el with z; injection z
      rw [er, ← ep, hf] at e2
      cases e2
    · rw [Array.getElem?_push, if_neg (by rw [d.size]; exact ql)] at el
      exact d.apart j l q hjl (by omega) (by rw [e1, er]) el
section
variable {prog : Program} {w : World} {A : Around} {R : Result → Shared → Prop} {a C I S : Addr} {g : Nat} {fp : List Addr} {n : Nat} {vals : Nat → Array Value}
theorem At.stay {A : Around} {j : Nat} {s : Shared} {h' : Heap} {tk : Nat} (st : At prog w A a g C I fp n vals j s) (hcs : cStatics ∈ fp) (k : ∀ b ∈ a :: C :: fp, ∀ o, s.heap.get? b = some o → h'.get? b = some o) : At prog w A a g C I fp n vals j { s with heap := h', toks := tk } :=
  ⟨let ⟨o, nm, qn, ho, r⟩ := st.1; ⟨o, nm, qn, k a (List.mem_cons_self ..) o ho, r⟩,
   (let ⟨mc, hns, hnn⟩ := st.2.1; ⟨mc, hns.at' fun o e => k cStatics (List.mem_cons_of_mem _ (List.mem_cons_of_mem _ hcs)) o e, hnn⟩),
   let ⟨gs, hgs, hgo⟩ := st.2.2; ⟨gs, hgs, fun t hal => hgo t fun b hb o e => hal b hb o (k b (List.mem_cons_of_mem _ hb) o e)⟩⟩
/-- one turn -/
theorem item {E : Value → Shared → Prop} {Q : Option Value → Shared → Prop} (hh : A.handled = none) (hroom : A.depth < recursionLimit) (hcs : cStatics ∈ fp) (hIf : I ∈ fp) (haC : a ≠ C) (haI : a ≠ I) (hcC : cStatics ≠ C) (hcI : cStatics ≠ I)
    {j : Nat} {s : Shared} (hj : j < n) (st : At prog w A a g C I fp n vals j s)
    (hQ : ∀ p s', s'.heap.get? p = some (tupO (vals j)) → s.heap.get? p = none → (∃ oC oI, s'.heap.get? C = some oC ∧ s'.heap.get? I = some oI) → At prog w A a g C I fp n vals (j + 1) s' → Moved [C, I] (GenOnlyQ g) s s' → Q (some (.ref p)) s') : wpAny (model prog w) A (pyNext (.ref a)) Q E s := by
  obtain ⟨hg, hl, gs, hgs, hgo⟩ := st
  obtain ⟨m, hm⟩ : ∃ m, n - j = m + 1 := ⟨n - j - 1, by omega⟩
  rw [hm] at hgo
  refine wpAny_with_toks (Nat.le_refl s.toks) ?_
  refine wpAny_pyNext_genexpQ (P := fun n s0 s1 => n = 0 ∧ GenSince C [I] s0 s1) hh hl hroom hg hgs (hgo _ fun _ _ _ e => e) (fun v s1 gs' hb hv => ?_) (fun s1 hp h' hk => absurd hp.1 (Nat.succ_ne_zero m))
  obtain ⟨⟨p, rfl, hp1, hp2, hp3⟩, ⟨h1, tk1, rfl, hk1⟩, hkap⟩ := hv
  have ej : n - 1 - (m + 1 - 1) = j := by omega
  rw [ej] at hp1
  intro htk
  refine hQ p _ hp1 hp2 hp3 ⟨let ⟨o, nm, qn, ho, r⟩ := hg; ⟨o, nm, qn, hk1 a o haC (by simp [haI]) ho, r⟩, (let ⟨mc, hns, hnn⟩ := hl; ⟨mc, hns.at' fun o e => hk1 cStatics o hcC (by simp [hcI]) e, hnn⟩), gs', setGen_self (gs := .running) (setGen_self hgs), fun t hal => ?_⟩
    ⟨fun b o hb e => hk1 b o (fun z => hb (by simp [z])) (fun z => hb (by simp at z; simp [z])) e, GenOnlyQ.of ((GenOnly.setGen s g .running).trans (GenOnly.setGen _ g gs')) (setGen_self (gs := .running) (setGen_self hgs)) hb, rfl, rfl, htk⟩
  have e : n - (j + 1) = m := by omega
  rw [e]
  exact hkap t hal
/-- its end -/
theorem done {E : Value → Shared → Prop} {Q : Option Value → Shared → Prop} (hh : A.handled = none) (hroom : A.depth < recursionLimit) {s : Shared} (st : At prog w A a g C I fp n vals n s)
    (hQ : ∀ s', Moved [C, I] (GenOnlyQ g) s s' → Q none s') : wpAny (model prog w) A (pyNext (.ref a)) Q E s := by
  obtain ⟨hg, hl, gs, hgs, hgo⟩ := st
  rw [Nat.sub_self] at hgo
  refine wpAny_with_toks (Nat.le_refl s.toks) ?_
  refine wpAny_pyNext_genexpQ (P := fun n s0 s1 => n = 0 ∧ GenSince C [I] s0 s1) hh hl hroom hg hgs (hgo _ fun _ _ _ e => e) (fun v s1 gs' hb hv => ?_) (fun s1 hp h' hk => ?_)
  · obtain ⟨_, _, hkap⟩ := hv
    exact False.elim (hkap s1 fun _ _ _ e => e)
  · obtain ⟨_, h1, tk1, rfl, hk1⟩ := hp
    intro htk
    exact hQ _ ⟨fun b o hb e => hk b o (hk1 b o (fun z => hb (by simp [z])) (fun z => hb (by simp at z; simp [z])) e), GenOnlyQ.of ((GenOnly.setGen s g .running).trans (GenOnly.setGen _ g .finished)) (setGen_self (gs := .running) (setGen_self hgs)) rfl, rfl, rfl, htk⟩
abbrev lsO (acc : Array Value) (c : Nat) : Obj := { cls := .type "list", dict := none, data := .seq acc c, slots := #[] }
/-- the places that the loop leaves alone -/
structure Sep (a C I S : Addr) (fp : List Addr) : Prop where
  cs : cStatics ∈ fp
  If : I ∈ fp
  aC : a ≠ C
  aI : a ≠ I
  cC : cStatics ≠ C
  cI : cStatics ≠ I
  Sa : S ≠ a
  SC : S ≠ C
  Sf : S ∉ fp
/-- the loop behind list.extend, over it -/
theorem extend (hh : A.handled = none) (hroom : A.depth < recursionLimit) (Z : Sep a C I S fp) (hn : n ≤ sizeLine) (res : Value) {s0 : Shared} :
    ∀ (k i : Nat) (s : Shared) (acc : Array Value) (c : Nat), n - i = k → i ≤ n → At prog w A.in1 a g C I fp n vals i s → s.heap.get? S = some (lsO acc c) → Drawn [S, C, I] vals s0 acc i s.heap → Moved [S, C, I] (GenOnlyQ g) s0 s →
    (∃ oC oI, s.heap.get? C = some oC ∧ s.heap.get? I = some oI) →
    (∀ s' acc' c', Moved [S, C, I] (GenOnlyQ g) s0 s' → s'.heap.get? S = some (lsO acc' c') → Drawn [S, C, I] vals s0 acc' n s'.heap → R (.ok (.ret res)) s') →
    codeAny (model prog w) A (.builtin "list.extend.loop" ⟨[.ref S, .ref a, res], []⟩) R s := by
  have sub : ∀ b ∈ [C, I], b ∈ [S, C, I] := fun b hb => List.mem_cons_of_mem _ hb
  have hSI : S ≠ I := fun z => Z.Sf (z ▸ Z.If)
  have hSw : S ∉ [C, I] := by simp [Z.SC, hSI]
  intro k
  induction k with
  | zero =>
    intro i s acc c hk hi st hS hd hm hCI hR
    obtain rfl : i = n := by omega
    refine codeAny_builtin F.entry_extend_loop ?_
    rw [Around.under_plainId F.plain_extend_loop _]
    show wpAny _ A.in1 (pyNext (.ref a) >>= _) _ _ s
    refine wpAny_bind (done (A := A.in1) hh hroom st fun s' hm' => ?_)
    refine wpAny_pure (hR s' acc c (Moved.trans (fun _ _ _ x y => x.trans y) hm (hm'.mono sub)) (hm'.heap S _ hSw hS) (hd.keep fun b o hb e => hm'.heap b o (fun z => hb (sub b z)) e))
  | succ k ih =>
    intro i s acc c hk hi st hS hd hm hCI hR
    have hlt : i < n := by omega
    refine codeAny_builtin F.entry_extend_loop ?_
    rw [Around.under_plainId F.plain_extend_loop _]
    show wpAny _ A.in1 (pyNext (.ref a) >>= _) _ _ s
    refine wpAny_bind (item (A := A.in1) hh hroom Z.cs Z.If Z.aC Z.aI Z.cC Z.cI hlt st fun p s' hp hpf hCI' st' hm' => ?_)
    have hS' := hm'.heap S _ hSw hS
    have hpS : p ≠ S := fun z => by rw [z, hS] at hpf; cases hpf
    have hpC : p ≠ C := fun z => by obtain ⟨o, _, e, _⟩ := hCI; rw [z, e] at hpf; cases hpf
    have hpI : p ≠ I := fun z => by obtain ⟨_, o, _, e⟩ := hCI; rw [z, e] at hpf; cases hpf
    have hp0 : s0.heap.get? p = none := by
      cases e : s0.heap.get? p with
      | none => rfl
      | some o =>
        have := hm.heap p o (by simp [hpS, hpC, hpI]) e
        rw [this] at hpf
        cases hpf
    show wpAny _ A.in1 (updateSeq S (·.push (.ref p)) >>= _) _ _ _
    refine wpAny_bind ?_
    have oth : ∀ b o, b ≠ S → s'.heap.get? b = some o → (s'.heap.update S (Obj.mapSeq (·.push (.ref p)))).get? b = some o := fun b o hb e => (Heap.get?_update_other _ _ (Ne.symm hb)).trans e
    refine wpAny_updateSeq hS' rfl (wpAny_pure ⟨plainId_quiet F.plain_extend_loop _, ?_⟩) (by rw [hd.size]; omega) (by show (acc.push _).size ≤ sizeLine + 1; rw [Array.size_push, hd.size]; omega)
    have hk1 : ∀ b o, b ∉ [S, C, I] → s.heap.get? b = some o → (s'.heap.update S (Obj.mapSeq (·.push (.ref p)))).get? b = some o := fun b o hb e => oth b o (fun z => hb (by simp [z])) (hm'.heap b o (fun z => hb (sub b z)) e)
    refine ih (i + 1) { s' with heap := s'.heap.update S (Obj.mapSeq (·.push (.ref p))) } (acc.push (.ref p)) _ (by omega) hlt (st'.stay (tk := s'.toks) Z.cs fun b hb o e => oth b o (fun z => ?_) e) (Heap.get?_update_self _ hS' rfl)
      (hd.push hk1 (oth p _ hpS hp) (by simp [hpS, hpC, hpI]) hp0 hpf) ?_ ?_ hR
    · rcases List.mem_cons.mp hb with q | q
      · exact Z.Sa (z.symm.trans q)
      · rcases List.mem_cons.mp q with q | q
        · exact Z.SC (z.symm.trans q)
        · exact Z.Sf (z ▸ q)
    · exact Moved.trans (fun _ _ _ x y => x.trans y) hm ((hm'.mono sub).then_heap (Nat.le_refl _) fun b o hb e => oth b o (fun z => hb (by simp [z])) e)
    · obtain ⟨oC, oI, e1, e2⟩ := hCI'
      exact ⟨oC, oI, oth _ _ (Ne.symm Z.SC) e1, oth _ _ (Ne.symm hSI) e2⟩
end
section
variable {prog : Program} {w : World} {A : Around} {E : Value → Shared → Prop} {a C I : Addr} {g : Nat} {fp : List Addr} {n : Nat} {vals : Nat → Array Value} {s : Shared}
/-- collected into a list -/
theorem collected {Q : List Value → Shared → Prop} (hh : A.handled = none) (hroom : A.depth < recursionLimit) (hcs : cStatics ∈ fp) (hIf : I ∈ fp) (haC : a ≠ C) (haI : a ≠ I) (hcC : cStatics ≠ C) (hcI : cStatics ≠ I) (hn : n ≤ sizeLine)
    (st : At prog w A.in1 a g C I fp n vals 0 s) (hlt : ∀ b ∈ a :: C :: fp, b < s.heap.objs.size) (hCI : ∃ oC oI, s.heap.get? C = some oC ∧ s.heap.get? I = some oI)
    (hQ : ∀ S s' acc, s.heap.objs.size ≤ S → Moved [S, C, I] (GenOnlyQ g) s s' → Drawn [S, C, I] vals s acc n s'.heap → Q acc.toList s') : wpAny (model prog w) A (collect (.ref a)) Q E s := by
  have Z : Sep a C I s.heap.objs.size fp := ⟨hcs, hIf, haC, haI, hcC, hcI, Nat.ne_of_gt (hlt a (by simp)), Nat.ne_of_gt (hlt C (by simp)), fun z => Nat.lt_irrefl _ (hlt _ (by simp [z]))⟩
  have gT : ∀ {s1 : Shared}, (∀ b o, s.heap.get? b = some o → s1.heap.get? b = some o) → s1.TypeIs (.ref a) "generator" := fun {s1} k => Heap.IsGen.typeIs (let ⟨o, nm, qn, ho, r⟩ := st.1; ⟨o, nm, qn, k a o ho, r⟩)
  have gI : ∀ {s1 : Shared}, (∀ b o, s.heap.get? b = some o → s1.heap.get? b = some o) → s1.heap.IsGen a g := fun {s1} k => (let ⟨o, nm, qn, ho, r⟩ := st.1; ⟨o, nm, qn, k a o ho, r⟩)
  have k1 : ∀ b o, s.heap.get? b = some o → (s.heap.push { cls := .type "list", data := .seq ([] : List Value).toArray }).get? b = some o := fun b o e => Heap.get?_push_of_some _ e
  unfold collect
  refine wpAny_bind (wpAny_runValue (codeAny_builtin F.entry_proto_collect ?_))
  rw [Around.under_plainId F.plain_proto_collect _]
  show wpAny _ A.in1 (newList [] >>= fun l => again (.builtin "list.__iadd__" ⟨[l, .ref a], []⟩)) _ _ s
  refine wpAny_bind (wpAny_newObj_type ?_)
  refine wpAny_pure ⟨plainId_quiet F.plain_list_iadd _, codeAny_builtin F.entry_list_iadd ?_⟩
  rw [Around.under_plainId F.plain_list_iadd _]
  show wpAny _ A.in1 (Builtin.List.listExtendWith (.ref s.heap.objs.size) (.ref a) (.ref s.heap.objs.size)) _ _ _
  unfold Builtin.List.listExtendWith
  refine wpAny_bind (wpAny_typeOf (gT k1) ?_)
  have e1 : Builtin.List.listSameRef (.ref s.heap.objs.size) (.ref a) = false := by simp [Builtin.List.listSameRef, Z.Sa]
  have e2 : (Value.type "generator" == Value.type "list") = false := by decide
  have e3 : (Value.type "generator" == Value.type "tuple") = false := by decide
  simp only [e1, e2, e3, Bool.or_false, Bool.false_eq_true, if_false]
  refine wpAny_bind (wpAny_pyIter_gen (gI k1) ?_)
  refine wpAny_bind (wpAny_holding ?_)
  unfold Builtin.List.listLengthHint
  refine wpAny_bind (wpAny_specialOf (gT k1) F.gen_no_len ?_)
  show wpAny _ A.in1 (specialOf (Value.ref a) (Str.ofString "__length_hint__") >>= _) _ _ _
  refine wpAny_bind (wpAny_specialOf (gT k1) F.gen_no_hint ?_)
  refine wpAny_pure ?_
  show wpAny _ A.in1 (rule "list.extend.makes-room" >>= fun _ => Builtin.List.listTouch (.ref s.heap.objs.size) >>= fun _ =>
    again (.builtin "list.extend.loop" ⟨[.ref s.heap.objs.size, .ref a, .ref s.heap.objs.size], []⟩)) _ _ _
  refine wpAny_bind (wpAny_rule ?_)
  have hS1 : (s.heap.push { cls := .type "list", data := .seq ([] : List Value).toArray }).get? s.heap.objs.size = some { cls := .type "list", data := .seq ([] : List Value).toArray } := Heap.get?_push_size _ rfl
  refine wpAny_bind ?_
  show wpAny _ A.in1 (updateSeq s.heap.objs.size (·.push .none) >>= fun _ => updateSeq s.heap.objs.size (·.pop)) _ _ _
  refine wpAny_bind (wpAny_updateSeq hS1 rfl ?_)
  have hS2 := Heap.get?_update_self (Obj.mapSeq (·.push Value.none)) hS1 rfl
  refine wpAny_updateSeq hS2 rfl ?_
  have hS3 := Heap.get?_update_self (Obj.mapSeq (·.pop)) hS2 rfl
  have oth : ∀ b o, b ≠ s.heap.objs.size → s.heap.get? b = some o →
      (((s.heap.push { cls := .type "list", data := .seq ([] : List Value).toArray }).update s.heap.objs.size (Obj.mapSeq (·.push Value.none))).update s.heap.objs.size (Obj.mapSeq (·.pop))).get? b = some o :=
    fun b o hb e => (Heap.get?_update_other _ _ (Ne.symm hb)).trans ((Heap.get?_update_other _ _ (Ne.symm hb)).trans (k1 b o e))
  have old : ∀ b o, s.heap.get? b = some o → (((s.heap.push { cls := .type "list", data := .seq ([] : List Value).toArray }).update s.heap.objs.size (Obj.mapSeq (·.push Value.none))).update s.heap.objs.size (Obj.mapSeq (·.pop))).get? b = some o :=
    fun b o e => oth b o (Nat.ne_of_lt (Heap.lt_size e)) e
  obtain ⟨oC, oI, eC, eI⟩ := hCI
  refine wpAny_pure ⟨plainId_quiet F.plain_extend_loop _, extend (s0 := s) hh hroom Z hn _ n 0 _ _ _ rfl (Nat.zero_le _) (st.stay (tk := s.toks) hcs fun b hb o e => old b o e) hS3
    ⟨rfl, fun j hj => absurd hj (Nat.not_lt_zero _), fun j k p _ hk _ => absurd hk (Nat.not_lt_zero _)⟩ ((Moved.refl fun _ => .inl rfl).then_heap (Nat.le_refl _) fun b o _ e => old b o e) ⟨oC, oI, old _ _ eC, old _ _ eI⟩ fun s' acc' c' hm hS' hd => ?_⟩
  show wpAny _ A (load s.heap.objs.size >>= _) _ _ s'
  refine wpAny_bind (wpAny_load hS' ?_)
  exact wpAny_pure (hQ _ s' acc' (Nat.le_refl _) hm hd)
theorem code_tup {Q : Value → Shared → Prop} (hh : A.handled = none) (hroom : A.depth < recursionLimit) (hcs : cStatics ∈ fp) (hIf : I ∈ fp) (haC : a ≠ C) (haI : a ≠ I) (hcC : cStatics ≠ C) (hcI : cStatics ≠ I) (hn : n ≤ sizeLine)
    (st : At prog w A.in1.in1 a g C I fp n vals 0 s) (hlt : ∀ b ∈ a :: C :: fp, b < s.heap.objs.size) (hCI : ∃ oC oI, s.heap.get? C = some oC ∧ s.heap.get? I = some oI)
    (hQ : ∀ S s' acc, s.heap.objs.size ≤ S → Moved [S, C, I] (GenOnlyQ g) s s' → Drawn [S, C, I] vals s acc n s'.heap → Q (.ref s'.heap.objs.size) { s' with heap := s'.heap.push (tupO acc) }) :
    codeAny (model prog w) A (.call (.builtin "tuple.__new__") ⟨[.type "tuple", .ref a], []⟩) (wants Q E) s := by
  refine codeAny_of_tree ?_
  show wpAny _ A.in1 (do checkBuiltinCall "tuple.__new__" ⟨[.type "tuple", .ref a], []⟩; again (.builtin "tuple.__new__" ⟨[.type "tuple", .ref a], []⟩)) _ _ s
  refine wpAny_bind (wpAny_of_eq (F.newCall_tuple_1 _) (wpAny_pure ⟨plainId_quiet F.plain_tuple_new _, codeAny_builtin F.entry_tuple_new ?_⟩))
  rw [Around.under_plainId F.plain_tuple_new _]
  have hsub := sub_tuple_self
  have hinit := init_tuple_lookup
  have hmh := madeHere_tuple
  have hTI : s.TypeIs (.ref a) "generator" := Heap.IsGen.typeIs st.1
  wp_walk using wpAny_typeOf hTI, collected (A := A.in1) hh hroom hcs hIf haC haI hcC hcI hn st hlt hCI
  intro S s' acc hS hm hd
  show wpAny _ _ (Builtin.Tuple.tupleExact acc.toList.toArray >>= fun v => ret v) _ _ _
  unfold Builtin.Tuple.tupleExact
  refine wpAny_bind (wpAny_newObj_type ?_ (by show acc.toList.toArray.size ≤ sizeLine; simp only [Array.toArray_toList]; rw [hd.size]; exact hn))
  refine wpAny_pure ?_
  have e : acc.toList.toArray = acc := by simp
  rw [e]
  exact hQ S s' acc hS hm hd
/-- tuple(g) -/
theorem call_tup {Q : Value → Shared → Prop} (hh : A.handled = none) (hroom : A.depth < recursionLimit) (hcs : cStatics ∈ fp) (hIf : I ∈ fp) (haC : a ≠ C) (haI : a ≠ I) (hcC : cStatics ≠ C) (hcI : cStatics ≠ I) (hn : n ≤ sizeLine)
    (st : At prog w A.in1.in1.in1 a g C I fp n vals 0 s) (hlt : ∀ b ∈ a :: C :: fp, b < s.heap.objs.size) (hCI : ∃ oC oI, s.heap.get? C = some oC ∧ s.heap.get? I = some oI)
    (hQ : ∀ S s' acc, s.heap.objs.size ≤ S → Moved [S, C, I] (GenOnlyQ g) s s' → Drawn [S, C, I] vals s acc n s'.heap → Q (.ref s'.heap.objs.size) { s' with heap := s'.heap.push (tupO acc) }) :
    wpAny (model prog w) A (call (.type "tuple") [.ref a]) Q E s :=
  callType_codes (Q₁ := fun obj s1 => s1.TypeIs obj "tuple" ∧ Q obj s1) F.called_tuple (F.typeCall_tuple_1 _) F.entry_object_init
    (code_tup (A := A.in1) hh hroom hcs hIf haC haI hcC hcI hn st hlt hCI fun S s' acc hS hm hd => ⟨⟨_, Heap.get?_push_size _ rfl, rfl⟩, hQ S s' acc hS hm hd⟩) fun obj s1 h1 =>
    ⟨h1.1, F.args_object_init_2 obj _, object_init_meets F.called_tuple.init.lookup F.called_tuple.made (by decide) prog w A.in1 _ s1 ⟨h1.1, rfl, h1.2⟩⟩
end
end TG
namespace My
open PySem PySem.Spec PyProof.Rows L2
/-- pairs -/
inductive PrV (K : PySem.W.Frag) (H : Hp) : List V → List (V × V) → Prop
  | nil : PrV K H [] []
  | cons {p : Addr} {x y : V} {vs : List V} {rs : List (V × V)} : SqT K H p [x, y] → PrV K H vs rs → PrV K H (.ref p :: vs) ((x, y) :: rs)
theorem PrV.len {K : PySem.W.Frag} {H : Hp} : ∀ {vs : List V} {rs : List (V × V)}, PrV K H vs rs → vs.length = rs.length
  | _, _, .nil => rfl
  | _, _, .cons _ r => congrArg (· + 1) r.len
end My
namespace TG
open PySem PySem.Spec PyProof.Rows L2 My
theorem okThere {P : Program} {w : World} {H : Hp} {h : Heap} {a : Addr} {o : HO} (x : ObjOk P w H h a o) : ∃ ob, h.get? a = some ob := by
  cases o with
  | lst xs => obtain ⟨_, _, _, _, e⟩ := x; exact ⟨_, e⟩
  | tup xs => obtain ⟨_, _, _, ob, e, _⟩ := x; exact ⟨_, e⟩
  | dK kvs => obtain ⟨_, _, _, _, o, _, _, e, _⟩ := x; exact ⟨_, e⟩
  | dT kvs => obtain ⟨_, _, _, _, o, _, _, e, _⟩ := x; exact ⟨_, e⟩
  | set S n => obtain ⟨o, _, _, _, e, _⟩ := x; exact ⟨_, e⟩
  | ins C dx fs => obtain ⟨_, _, _, e, _⟩ := x; exact ⟨_, e⟩
  | own y => exact x
  | xd fs => obtain ⟨_, ⟨_, _, _, e, _⟩, _⟩ := x; exact ⟨_, e⟩
  | rng lo hi => obtain ⟨_, _, _, e⟩ := x; exact ⟨_, e⟩
  | frz ob u => obtain ⟨e, _⟩ := x; exact ⟨_, e⟩
  | tbl ps => exact ⟨_, (show h.get? a = some _ from x)⟩
  | met f y => exact ⟨_, (show h.get? a = some _ from x)⟩
  | ext φ => obtain ⟨_, h1, _⟩ := x; exact h1
/-- many new tuples at once -/
def adds (L : List (Addr × List V)) (H : Hp) : Hp := fun b => match L.find? fun p => decide (p.1 = b) with
  | some p => some (.tup p.2)
  | none => H b
theorem adds_out {L : List (Addr × List V)} {H : Hp} {b : Addr} (h : ∀ p ∈ L, p.1 ≠ b) : adds L H b = H b := by
  unfold adds
  rw [List.find?_eq_none.mpr fun p hp => by simp [h p hp]]
theorem adds_in {L : List (Addr × List V)} {H : Hp} {b : Addr} {o : HO} (e : adds L H b = some o) : (∃ p ∈ L, p.1 = b ∧ o = .tup p.2) ∨ ((∀ p ∈ L, p.1 ≠ b) ∧ H b = some o) := by
  unfold adds at e
  cases q : L.find? fun p => decide (p.1 = b) with
  | none =>
    rw [q] at e
    exact .inr ⟨fun p hp z => by simpa [z] using List.find?_eq_none.mp q p hp, e⟩
  | some p =>
    rw [q] at e
    exact .inl ⟨p, List.mem_of_find?_eq_some q, by simpa using List.find?_some q, (Option.some.inj e).symm⟩
theorem adds_at {L : List (Addr × List V)} {H : Hp} (hn : ∀ p ∈ L, ∀ q ∈ L, p.1 = q.1 → p = q) {p : Addr × List V} (hp : p ∈ L) : adds L H p.1 = some (.tup p.2) := by
  unfold adds
  cases q : L.find? fun r => decide (r.1 = p.1) with
  | none => exact absurd (List.find?_eq_none.mp q p hp) (by simp)
  | some r =>
    have e := hn r (List.mem_of_find?_eq_some q) p hp (by simpa using List.find?_some q)
    rw [e]
section
variable {X : Cx} {pins : List (Addr × Obj)} {σ : L2.St} {H : Hp} {s : Shared}
/-- the table has grown, tuples have been laid -/
theorem inv_adds {P : Addr} {ps more : Array Value} {s' : Shared} {L : List (Addr × List V)} (I : Inv X pins σ H s) (hP : H P = some (.tbl ps)) (os : s'.os = s.os) (k : ∀ b o, b ≠ P → s.heap.get? b = some o → s'.heap.get? b = some o)
    (hm : s'.heap.get? P = some { cls := .none, data := .fields (ps ++ more) }) (hg : AllBare s'.gens) (hn : ∀ p ∈ L, ∀ q ∈ L, p.1 = q.1 → p = q) (h0 : ∀ p ∈ L, s.heap.get? p.1 = none)
    (ok : ∀ p ∈ L, p.2.length ≤ sizeLine ∧ ∃ its : List Value, Vals p.2 its ∧ IsTup s'.heap p.1 its.toArray) : Inv X pins σ (adds L (upd H P (.tbl (ps ++ more)))) s' := by
  have J := GxR.inv_tab (more := more) (h' := s'.heap) (g' := s'.gens) (d' := s'.drawn) (t' := s'.toks) I hP k hm hg
  rw [GxR.sh_eta s s' os] at J
  have hout : ∀ b u, s.heap.get? b = some u → ∀ p ∈ L, p.1 ≠ b := fun b u e p hp z => by
    have := h0 p hp
    rw [z, e] at this
    cases this
  have out2 : ∀ b o, H b = some o → ∀ p ∈ L, p.1 ≠ b := fun b o e => by
    obtain ⟨u, eu⟩ := okThere (I.hok b o e)
    exact hout b u eu
  have hPo : ∀ p ∈ L, p.1 ≠ P := out2 P _ hP
  have nP : ∀ b u, H b = some u → (∀ q, u ≠ .tbl q) → b ≠ P := fun b u e q z => by
    rw [z, hP] at e
    exact q ps (Option.some.inj e).symm
  have nN : ∀ b, H b = none → b ≠ P := fun b e z => by
    rw [z, hP] at e
    cases e
  refine I.call' (ch := []) os ⟨fun b o e n _ _ => k b o (nN b n) e, fun b o e n _ _ => ⟨o.slots, k b o (nN b n) e⟩, fun b o e n _ => ?_, fun b o e _ => ?_, fun b xs e => ?_, fun b o u e => ?_, fun b qs e => ?_⟩ (fun b o e => ?_) hg (fun b hb => absurd hb (by simp))
  · rw [adds_out (hout b o e), upd_ne (nN b n)]
    exact n
  · by_cases hb : b = P
    · rw [hb]
      exact ⟨_, hm⟩
    · exact ⟨o, k b o hb e⟩
  · rw [adds_out (out2 b _ e), upd_ne (nP b _ e (fun q z => by cases z))]
    exact e
  · rw [adds_out (out2 b _ e), upd_ne (nP b _ e (fun q z => by cases z))]
    exact e
  · by_cases hb : b = P
    · rw [hb, hP] at e
      cases e
      rw [hb, adds_out hPo, upd_same]
      exact ⟨more, rfl⟩
    · rw [adds_out (out2 b _ e), upd_ne hb, e]
      exact ⟨#[], by simp⟩
  · rcases adds_in e with ⟨p, hp, rfl, rfl⟩ | ⟨hp, e2⟩
    · exact ok p hp
    · have back : ∀ c u, upd H P (.tbl (ps ++ more)) c = some u → adds L (upd H P (.tbl (ps ++ more))) c = some u := fun c u ec => by
        obtain ⟨v, ev⟩ := okThere (J.hok c u ec)
        rw [adds_out]
        · exact ec
        · by_cases hc : c = P
          · rw [hc]
            exact hPo
          · rw [upd_ne hc] at ec
            exact out2 c u ec
      exact (J.hok b o e2).stay (fun _ _ _ q => q) (fun c q => back c _ q) fun c xs q => back c _ q
/-- the list's items, read -/
theorem pairs_read (I : Inv X pins σ H s) : ∀ {vs : List V} {rs : List (V × V)} {its : List Value}, PrV X.K H vs rs → Vals vs its →
    ∃ tvs : List (Addr × Value × Value), tvs.length = rs.length ∧ its = tvs.map (fun t => Value.ref t.1) ∧ ∀ (j : Nat) t, tvs[j]? = some t → s.heap.IsTuple t.1 #[t.2.1, t.2.2] ∧ ∃ r, rs[j]? = some r ∧ RelV r.1 t.2.1 ∧ RelV r.2 t.2.2
  | _, _, _, .nil, .nil => ⟨[], rfl, rfl, fun j t h => by simp at h⟩
  | _, _, _, .cons (p := p) (x := x) (y := y) a r, .cons e v => by
    obtain ⟨tvs, h1, h2, h3⟩ := pairs_read I r v
    obtain ⟨its2, rv, hl, _⟩ := I.tuple a
    obtain ⟨u1, u2, rfl, ri, rj⟩ := vals2 rv
    cases e
    refine ⟨(p, u1, u2) :: tvs, congrArg (· + 1) h1, by rw [h2] <;> rfl, fun j t h => ?_⟩
    cases j with
    | zero =>
      have e := (Option.some.inj (show some _ = some t from h)).symm
      subst e
      exact ⟨hl, (x, y), rfl, ri, rj⟩
    | succ j => exact h3 j t h
end
end TG
namespace TG
open PySem PySem.Spec PyProof.Rows L2 My
/-- the block of a generator expression with two names -/
structure GenS2 (env : Env) (scope : Scope) (xa xb : Str) : Prop where
  kind : scope.kind = .function
  co : scope.isCoroutine = false
  cell : ∀ y ∈ scope.names, y.2 ≠ .cell
  dot : scope.names.lookup (".0" : Str) = some NameKind.local
  la : scope.names.lookup xa = some .local
  lb : scope.names.lookup xb = some .local
  ab : xa ≠ xb
  da : (xa == ("__debug__" : Str)) = false
  db : (xb == ("__debug__" : Str)) = false
  free : ∀ y ∈ scope.names, y.2 = .free → ∃ c, env.cells.lookup y.1 = some c
section
variable {X : Cx} {pins : List (Addr × Obj)} {σ : L2.St} {H : Hp} {s : Shared}
/-- the generator stands ready -/
def Ready (X : Cx) (pins : List (Addr × Obj)) (σ : L2.St) (H1 : Hp) (P : Addr) (rs : List (V × V)) (g : Addr) (s5 : Shared) : Prop :=
  ∃ (num : Nat) (C I : Addr) (fp : List Addr) (vals : Nat → Array Value), At X.prog X.w X.A.in1.in1.in1 g num C I fp rs.length vals 0 s5 ∧ cStatics ∈ fp ∧ I ∈ fp ∧ g ≠ C ∧ g ≠ I ∧ cStatics ≠ C ∧ cStatics ≠ I ∧ (∀ b ∈ g :: C :: fp, b < s5.heap.objs.size) ∧
    (∃ oC oI, s5.heap.get? C = some oC ∧ s5.heap.get? I = some oI) ∧ (∀ j r, rs[j]? = some r → ∃ va vb, vals j = #[va, vb] ∧ RelV r.1 va ∧ RelV r.2 vb) ∧
    ∀ (S : Addr) (s' : Shared) (acc : Array Value), s5.heap.objs.size ≤ S → Moved [S, C, I] (GenOnlyQ num) s5 s' → Drawn [S, C, I] vals s5 acc rs.length s'.heap → rs.length ≤ sizeLine →
      ∃ (ps : List Addr) (H2 : Hp), ps.length = rs.length ∧ H1 s'.heap.objs.size = none ∧ Gr H1 H2 ∧ H2 s'.heap.objs.size = some (.frz (tupO acc) (.tup (ps.map V.ref))) ∧ PrV X.K H2 (ps.map V.ref) rs ∧ Inv X pins σ H2 { s' with heap := s'.heap.push (tupO acc) }
theorem prv_of {K : PySem.W.Frag} {H : Hp} : ∀ {ps : List Addr} {rs : List (V × V)}, ps.length = rs.length → (∀ (j : Nat) p r, ps[j]? = some p → rs[j]? = some r → H p = some (.tup [r.1, r.2])) → PrV K H (ps.map V.ref) rs
  | [], [], _, _ => .nil
  | p :: ps, r :: rs, hl, h => .cons (.of (h 0 p r rfl rfl)) (prv_of (by simpa using hl) fun j q t e1 e2 => h (j + 1) q t (by simpa using e1) (by simpa using e2))
theorem gr_adds {P : Addr} {ps more : Array Value} {L : List (Addr × List V)} (hP : H P = some (.tbl ps)) (ht : TriplesOk (ps ++ more).toList) (h0 : ∀ p ∈ L, H p.1 = none) : Gr H (adds L (upd H P (.tbl (ps ++ more)))) := by
  have out : ∀ b o, H b = some o → ∀ p ∈ L, p.1 ≠ b := fun b o e p hp z => by
    have := h0 p hp
    rw [z, e] at this
    cases this
  refine ⟨fun b o e n => ?_, fun b t => ?_, fun b o e => ?_⟩
  · rw [adds_out (out b o e), upd_ne]
    · exact e
    · intro z
      rw [z, hP] at e
      exact n ps (Option.some.inj e).symm
  · by_cases hb : b = P
    · subst hb
      exact ⟨ps ++ more, by rw [adds_out (out _ _ hP), upd_same], ht⟩
    · obtain ⟨qs, e, z⟩ := t
      exact ⟨qs, by rw [adds_out (out _ _ e), upd_ne hb]; exact e, z⟩
  · by_cases hb : b = P
    · subst hb
      exact ⟨_, by rw [adds_out (out _ _ hP), upd_same]⟩
    · exact ⟨o, by rw [adds_out (out _ _ e), upd_ne hb]; exact e⟩
theorem gen_prs {c P : Addr} {iter : Expr} {xa xb : Str} {pa pb pt p1 p2 p3 gpos : Pos} {kt k2 : Nat} {scope : Scope} {te : TE} {k : Nat} {Q' : Value → Shared → Prop} {R : List (V × V) → Hp → Prop}
    (hr : Room k X.A) (TB : GxR.TabB X.base X.mg c P) (hcode : X.env.code = .ref c) (S : GenS2 X.env scope xa xb) (hi : PE X iter te)
    (hs : ∀ v, genFold iter X.env v = pure v) (I : Inv X pins σ H s) (h : te σ H fun v H1 => ∃ (yl : Addr) (vs : List V) (rs : List (V × V)), v = .ref yl ∧ SqL X.K H1 yl vs ∧ PrV X.K H1 vs rs ∧ GxR.TabG H1 P ∧ R rs H1)
    (hQ : ∀ rs H1 g s5, R rs H1 → Ready X pins σ H1 P rs g s5 → Q' (.ref g) s5) :
    wpAny (model X.prog X.w) X.A (eval (gexp iter xa xb pa pb pt p1 p2 p3 gpos kt k2 scope) X.env) Q' X.xe s := by
  refine wpAny_GeneratorExp_make S.co (closure_ok S.free) S.cell S.dot S.kind (by have := hr.dp; omega) ?_ hs
  refine thn (hi.run pins s σ H _ I h) fun xv s1 ⟨v, H1, I1, r1, q1⟩ => ?_
  obtain ⟨yl, vs, rs, rfl, hyl, hpr, ⟨ps, hP, ht⟩, q1⟩ := q1
  obtain rfl : xv = Value.ref yl := r1
  obtain ⟨its, rv, hl, hz⟩ := I1.list hyl
  have hIL := hl.isList
  obtain ⟨tvs, hlen, hits, htv⟩ := pairs_read I1 hpr rv
  refine wpAny_pyIter_list hIL ?_
  generalize ho : ({ cls := .type "list_iterator", data := .fields #[.ref yl, .int 0 0] } : Obj) = o
  have hitr : (s1.heap.push o).IsListIter s1.heap.objs.size yl 0 := by
    subst ho
    exact ⟨_, Heap.get?_push_size _ rfl, rfl, rfl⟩
  have hylt : yl < s1.heap.objs.size := by
    obtain ⟨_, e, _⟩ := _root_.id hIL
    exact Heap.lt_size e
  have hPs : s1.heap.get? P = some { cls := .none, data := .fields ps } := I1.hok P _ hP
  have hPlt : P < s1.heap.objs.size := Heap.lt_size hPs
  have hP2 : (s1.heap.push o).get? P = some { cls := .none, data := .fields ps } := Heap.get?_push_of_some _ hPs
  have cd : PySem.W.CodeHd (s1.heap.push o) c P := TB.code.keeps fun b u e => Heap.get?_push_of_some _ (I1.bk b u e)
  have lim2 : (s1.heap.push o).NoLimit := I1.nolimit.push o
  have hhA : X.A.handled = none := hr.hd
  let Ts : Nat → Addr := fun j => (tvs[j]?.map fun t => t.1).getD 0
  let vals : Nat → Array Value := fun j => (tvs[j]?.map fun t => (#[t.2.1, t.2.2] : Array Value)).getD #[]
  have hsz : its.toArray.size = rs.length := by rw [hits, List.size_toArray, List.length_map, hlen]
  have tvAt : ∀ j, j < rs.length → ∃ t, tvs[j]? = some t := fun j hj => ⟨tvs[j]'(by omega), List.getElem?_eq_getElem _⟩
  have hTlt : ∀ j, j < rs.length → Ts j < s1.heap.objs.size := fun j hj => by
    obtain ⟨t, et⟩ := tvAt j hj
    obtain ⟨⟨o', e', _⟩, _⟩ := htv j t et
    show (tvs[j]?.map fun t => t.1).getD 0 < _
    rw [et]
    exact Heap.lt_size e'
  have hTI : ∀ j, j < its.toArray.size → Ts j ≠ s1.heap.objs.size := fun j hj => Nat.ne_of_lt (hTlt j (by omega))
  have hit : ∀ j, j < its.toArray.size → its.toArray[j]? = some (.ref (Ts j)) := fun j hj => by
    obtain ⟨t, et⟩ := tvAt j (by omega)
    show its.toArray[j]? = some (.ref ((tvs[j]?.map fun t => t.1).getD 0))
    rw [et, hits]
    simp [et]
  have cont : ∀ (code : Value) (h3 : Heap) (tk : Nat) (ps' : Array Value), Heap.ExtBut P (s1.heap.push o) h3 → (s1.heap.push o).objs.size ≤ h3.objs.size → h3.get? P = some { cls := .none, data := .fields ps' } → (∃ more, ps' = ps ++ more) → TriplesOk ps'.toList →
      wpAny (model X.prog X.w) X.A (builtinsFor X.env.globals X.env.builtins) (fun bi s4 =>
        ∀ h', h'.Ns s4.heap.objs.size (fun y => if y = ".0" then some (.ref s1.heap.objs.size) else none) → Heap.SameBut s4.heap.objs.size (s4.heap.push { cls := .type "frame", data := .dict #[] }) h' →
          Q' (.ref h'.objs.size) { s4 with
            gens := s4.gens.push (.fresh (.compStart (gexp iter xa xb pa pb pt p1 p2 p3 gpos kt k2 scope) 0 (.ref s1.heap.objs.size) .none (genEnv scope (cloFrom X.env.cells scope.names []) s4.heap.objs.size code bi X.env))),
            toks := s4.toks + 1 + 1 + 1,
            heap := h'.push { cls := .type "generator", data := .fields #[.int s4.gens.size 0, .str "<genexpr>" (s4.toks + 1), .str (X.env.qual ++ "<genexpr>") (s4.toks + 1 + 1)] } }) X.xe { s1 with heap := h3, toks := tk } := by
    intro code h3 tk ps' hx hsz3 hP3 hmore ht3
    obtain ⟨bm, ob, e1, e2, e3, e4, e5, e6, e7, e8⟩ := TB.bm
    have hcP : cStatics ≠ P := fun e => by
      obtain ⟨_, hns, _⟩ := I1.nolimit
      obtain ⟨o', es, ep, ho', hd, _⟩ := hns
      rw [e, hPs] at ho'
      cases ho'
      cases hd
    have hcl : cStatics < s1.heap.objs.size := let ⟨_, hns, _⟩ := I1.nolimit; hns.lt
    have sz2 : (s1.heap.push o).objs.size = s1.heap.objs.size + 1 := Heap.size_push ..
    have keep3 : ∀ b u, b ≠ P → s1.heap.get? b = some u → h3.get? b = some u := fun b u hb e => hx b u hb (Heap.get?_push_of_some _ e)
    refine wpAny_builtinsFor (m := X.mg) (by rw [I1.ok.glob]; exact ((I1.mod.glob.keeps I1.bk).push o).extBut hx TB.gP) e1 e2 (keep3 _ _ e4 (I1.bk _ _ e5)) e6 e7 e8 ?_
    intro h' hn' hs'
    have hylP : yl ≠ P := fun z => by
      obtain ⟨_, e, hc1, _, hd1⟩ := _root_.id hIL
      rw [z, hPs] at e
      cases e
      cases hd1
    have hTP : ∀ j, j < rs.length → Ts j ≠ P := fun j hj z => by
      obtain ⟨t, et⟩ := tvAt j hj
      obtain ⟨⟨o', e', hc, n', hd⟩, _⟩ := htv j t et
      have z2 : t.1 = P := by
        have : (tvs[j]?.map fun t => t.1).getD 0 = P := z
        rw [et] at this
        exact this
      rw [z2, hPs] at e'
      cases e'
      cases hd
    have szh : h'.objs.size = h3.objs.size + 1 := by rw [hs'.1, Heap.size_push]
    have k5 : ∀ b u, h3.get? b = some u → (h'.push { cls := .type "generator", data := .fields #[.int s1.gens.size 0, .str "<genexpr>" (tk + 1), .str (X.env.qual ++ "<genexpr>") (tk + 1 + 1)] }).get? b = some u :=
      fun b u e => Heap.get?_push_of_some _ (hs'.extBut b u (Nat.ne_of_lt (Heap.lt_size e)) (Heap.get?_push_of_some _ e))
    generalize hge : (h'.push { cls := .type "generator", data := .fields #[.int s1.gens.size 0, .str "<genexpr>" (tk + 1), .str (X.env.qual ++ "<genexpr>") (tk + 1 + 1)] }) = h5 at k5
    have sz5 : h5.objs.size = h3.objs.size + 2 := by rw [← hge, Heap.size_push, szh]
    have l0 : s1.heap.objs.size < h3.objs.size := by omega
    have l1 : h3.objs.size < h5.objs.size := by omega
    have l2 : h'.objs.size < h5.objs.size := by omega
    have hgen : h5.IsGen h'.objs.size s1.gens.size := by rw [← hge]; exact ⟨_, _, _, Heap.get?_push_size _ rfl, rfl, rfl, rfl⟩
    have hn5 : h5.Ns h3.objs.size (fun y => if y = ".0" then some (.ref s1.heap.objs.size) else none) := by rw [← hge]; exact hn'.push _
    have W : ∀ A' : Around, A'.handled = none → WalksU X.prog X.w A' s1.heap.objs.size (List.range h3.objs.size) [s1.heap.objs.size] rs.length (fun j v => v = vals j)
        (fun j h => h.IsListIter s1.heap.objs.size yl j ∧ h.IsList yl its.toArray ∧ ∀ k, k < rs.length → h.IsTuple (Ts k) (vals k))
        (fun j T h => (j < rs.length ∧ T = Ts j) ∧ h.IsListIter s1.heap.objs.size yl (j + 1) ∧ h.IsList yl its.toArray ∧ ∀ k, k < rs.length → h.IsTuple (Ts k) (vals k)) := fun A' hA => by
      have w := (WalksU.listOfTuples (prog := X.prog) (w := X.w) hA s1.heap.objs.size yl (Nat.ne_of_lt hylt) its.toArray Ts vals hit hTI).mono_fp (fp' := List.range h3.objs.size) fun b hb => by
        refine List.mem_range.mpr ?_
        rcases List.mem_cons.mp hb with z | z
        · rw [z]; show s1.heap.objs.size < h3.objs.size; omega
        · rcases List.mem_cons.mp z with z | z
          · rw [z]; exact Nat.lt_of_lt_of_le hylt (by omega)
          · obtain ⟨j, hj, rfl⟩ := List.mem_map.mp z
            exact Nat.lt_of_lt_of_le (hTlt j (by rw [← hsz]; exact List.mem_range.mp hj)) (by omega)
      rw [hsz] at w
      exact w
    have hC : h3.objs.size ∉ List.range h3.objs.size := fun z => Nat.lt_irrefl _ (List.mem_range.mp z)
    have vat : ∀ j r, rs[j]? = some r → ∃ va vb, vals j = #[va, vb] ∧ RelV r.1 va ∧ RelV r.2 vb := fun j r er => by
      obtain ⟨t, et⟩ := tvAt j (List.getElem?_eq_some_iff.mp er).1
      obtain ⟨_, r', er', h1, h2⟩ := htv j t et
      rw [er] at er'
      cases er'
      refine ⟨t.2.1, t.2.2, ?_, h1, h2⟩
      show (tvs[j]?.map fun t => (#[t.2.1, t.2.2] : Array Value)).getD #[] = _
      rw [et] <;> rfl
    have v2 : ∀ i, i < rs.length → ∃ va vb, vals i = #[va, vb] := fun i hi => by
      obtain ⟨va, vb, e, _⟩ := vat i _ (List.getElem?_eq_getElem hi)
      exact ⟨va, vb, e⟩
    have keep5 : ∀ b u, b ≠ P → s1.heap.get? b = some u → h5.get? b = some u := fun b u hb e => k5 b u (keep3 b u hb e)
    have st5 : h5.IsListIter s1.heap.objs.size yl 0 ∧ h5.IsList yl its.toArray ∧ ∀ k, k < rs.length → h5.IsTuple (Ts k) (vals k) := by
      refine ⟨hitr.at fun u e => k5 _ _ (hx _ u (Nat.ne_of_gt hPlt) e), ?_, fun j hj => ?_⟩
      · obtain ⟨ob, e, r⟩ := _root_.id hIL
        exact ⟨ob, keep5 _ _ hylP e, r⟩
      · obtain ⟨t, et⟩ := tvAt j hj
        obtain ⟨⟨ob, e, r⟩, _⟩ := htv j t et
        have e1 : Ts j = t.1 := by
          show (tvs[j]?.map fun t => t.1).getD 0 = _
          rw [et] <;> rfl
        have e2 : vals j = #[t.2.1, t.2.2] := by
          show (tvs[j]?.map fun t => (#[t.2.1, t.2.2] : Array Value)).getD #[] = _
          rw [et] <;> rfl
        have hne := hTP j hj
        rw [e1] at hne ⊢
        rw [e2]
        exact ⟨ob, keep5 _ _ hne e, r⟩
    have hP5 : h5.get? P = some { cls := .none, data := .fields ps' } := k5 P _ hP3
    have hcl3 : cStatics < h3.objs.size := Nat.lt_of_lt_of_le hcl (by omega)
    refine hQ rs H1 _ _ q1 ⟨s1.gens.size, h3.objs.size, s1.heap.objs.size, List.range h3.objs.size, vals, ⟨hgen, (lim2.extBut hx hcP).keeps k5, _, Array.getElem?_push_size .., fun t hal => ⟨rfl, ?_⟩⟩, List.mem_range.mpr hcl3, List.mem_range.mpr (by omega), (by show h'.objs.size ≠ h3.objs.size; omega), (by show h'.objs.size ≠ s1.heap.objs.size; omega), Nat.ne_of_lt hcl3, Nat.ne_of_lt hcl, ?_, ?_, vat, ?_⟩
    · exact start (A := X.A.in1.in1.in1.in1) (cenv := genEnv scope (cloFrom X.env.cells scope.names []) h3.objs.size code builtinsNs X.env) hhA W v2 S.ab S.la S.lb S.kind (by simp [genEnv, S.kind]) S.co hC S.da S.db (fun i h st => let ⟨o, e, _⟩ := st.1; ⟨o, e⟩)
        ((W X.A hhA).frame 0 _ _ st5 fun b hb o e => hal b (List.mem_cons_of_mem _ hb) o e) (hn5.at' fun o e => hal _ (List.mem_cons_self ..) o e)
    · intro b hb
      show b < h5.objs.size
      rcases List.mem_cons.mp hb with z | z
      · rw [z]; exact l2
      · rcases List.mem_cons.mp z with z | z
        · rw [z]; exact l1
        · exact Nat.lt_trans (List.mem_range.mp z) l1
    · obtain ⟨o1, _, _, e1, _⟩ := hn5
      obtain ⟨o2, e2, _⟩ := st5.1
      exact ⟨o1, o2, e1, e2⟩
    · intro T s' acc hT hm hd hle
      obtain ⟨more, em⟩ := hmore
      have hT5 : h5.objs.size ≤ T := hT
      have nwr : ∀ b u, s1.heap.get? b = some u → b ∉ [T, h3.objs.size, s1.heap.objs.size] := fun b u e hb => by
        have hl := Heap.lt_size e
        simp only [List.mem_cons, List.not_mem_nil, or_false] at hb
        rcases hb with z | z | z
        · rw [z] at hl
          exact absurd (Nat.lt_of_lt_of_le hl (Nat.le_of_lt l0)) (Nat.not_lt.mpr (Nat.le_of_lt (Nat.lt_of_lt_of_le l1 hT5)))
        · rw [z] at hl
          exact Nat.lt_asymm hl l0
        · rw [z] at hl
          exact Nat.lt_irrefl _ hl
      have kk : ∀ b u, b ≠ P → s1.heap.get? b = some u → s'.heap.get? b = some u := fun b u hb e => hm.heap b u (nwr b u e) (keep5 b u hb e)
      have kP : s'.heap.get? P = some { cls := .none, data := .fields (ps ++ more) } := by rw [← em]; exact hm.heap P _ (nwr P _ hPs) hP5
      have none1 : ∀ p, h5.get? p = none → s1.heap.get? p = none := fun p e => by
        cases q : s1.heap.get? p with
        | none => rfl
        | some u =>
          by_cases hb : p = P
          · rw [hb, hP5] at e
            cases e
          · rw [keep5 p u hb q] at e
            cases e
      -- the addresses of the pairs
      let adr : Value → Addr := fun v => match v with | .ref p => p | _ => 0
      have hacc : ∀ j, j < rs.length → ∃ p, acc[j]? = some (.ref p) ∧ (acc.toList.map adr)[j]? = some p ∧ s'.heap.get? p = some (tupO (vals j)) ∧ h5.get? p = none := fun j hj => by
        obtain ⟨p, e1, e2, _, e4⟩ := hd.item j hj
        exact ⟨p, e1, by rw [List.getElem?_map, Array.getElem?_toList, e1] <;> rfl, e2, e4⟩
      have hplen : (acc.toList.map adr).length = rs.length := by rw [List.length_map, Array.length_toList, hd.size]
      have hvals : Vals ((acc.toList.map adr).map V.ref) acc.toList := by
        have g : ∀ (l : List Value), (∀ v ∈ l, ∃ p, v = .ref p) → Vals ((l.map adr).map V.ref) l := fun l => by
          induction l with
          | nil => intro _; exact .nil
          | cons v l ih =>
            intro hv
            obtain ⟨p, rfl⟩ := hv v List.mem_cons_self
            exact .cons rfl (ih fun u hu => hv u (List.mem_cons_of_mem _ hu))
        refine g _ fun v hv => ?_
        obtain ⟨j, hj, ej⟩ := List.mem_iff_getElem.mp hv
        rw [Array.length_toList, hd.size] at hj
        obtain ⟨p, e1, _⟩ := hacc j hj
        refine ⟨p, ?_⟩
        have e2 : acc.toList[j]? = some v := by rw [List.getElem?_eq_getElem (by rw [Array.length_toList, hd.size]; exact hj), ej]
        rw [Array.getElem?_toList, e1] at e2
        exact (Option.some.inj e2).symm
      generalize hpl : acc.toList.map adr = pl at hacc hplen hvals
      have zat : ∀ p ∈ pl.zip (rs.map fun r => [r.1, r.2]), ∃ j r, j < rs.length ∧ pl[j]? = some p.1 ∧ rs[j]? = some r ∧ p.2 = [r.1, r.2] := fun p hp => by
        obtain ⟨j, hj, ej⟩ := List.mem_iff_getElem.mp hp
        rw [List.length_zip, List.length_map] at hj
        have hj1 : j < pl.length := by omega
        have hj2 : j < rs.length := by omega
        rw [List.getElem_zip, List.getElem_map] at ej
        exact ⟨j, rs[j], hj2, by rw [List.getElem?_eq_getElem hj1, ← ej], List.getElem?_eq_getElem hj2, by rw [← ej]⟩
      have tlt : ∀ p o, s'.heap.get? p = some o → p ≠ s'.heap.objs.size := fun p o e => Nat.ne_of_lt (Heap.lt_size e)
      have key : ∀ p ∈ pl.zip (rs.map fun r => [r.1, r.2]), s1.heap.get? p.1 = none := fun p hp => by
        obtain ⟨j, r, hj, e1, _⟩ := zat p hp
        obtain ⟨q, _, e2, _, e4⟩ := hacc j hj
        rw [e1] at e2
        cases e2
        exact none1 _ e4
      have dis : ∀ p ∈ pl.zip (rs.map fun r => [r.1, r.2]), ∀ q ∈ pl.zip (rs.map fun r => [r.1, r.2]), p.1 = q.1 → p = q := fun p hp q hq e => by
        obtain ⟨j, r, hj, e1, e2, e3⟩ := zat p hp
        obtain ⟨pj, a1, a2, a3, _⟩ := hacc j hj
        rw [e1] at a2
        cases a2
        obtain ⟨l, r', hl, f1, f2, f3⟩ := zat q hq
        obtain ⟨ql, b1, b2, _⟩ := hacc l hl
        rw [f1] at b2
        cases b2
        rcases Nat.lt_trichotomy j l with z | z | z
        · exact absurd (by rw [e]; exact b1) (hd.apart j l p.1 z hl a1)
        · subst z
          rw [e2] at f2
          cases f2
          exact Prod.ext e (by rw [e3, f3])
        · exact absurd (by rw [← e]; exact a1) (hd.apart l j q.1 z hj b1)
      have hH1 : ∀ p ∈ pl.zip (rs.map fun r => [r.1, r.2]), H1 p.1 = none := fun p hp => by
        cases q : H1 p.1 with
        | none => rfl
        | some o =>
          obtain ⟨u, eu⟩ := okThere (I1.hok _ o q)
          rw [key p hp] at eu
          cases eu
      have J0 : Inv X pins σ (adds (pl.zip (rs.map fun r => [r.1, r.2])) (upd H1 P (.tbl (ps ++ more)))) s' := by
        refine inv_adds I1 hP hm.os (fun b o hb e => kk b o hb e) kP (show AllBare s'.gens from AllBare.movedS (I1.bare.push rfl) hm) dis key fun p hp => ?_
        obtain ⟨j, r, hj, e1, e2, e3⟩ := zat p hp
        obtain ⟨q, _, f2, f3, _⟩ := hacc j hj
        rw [e1] at f2
        cases f2
        obtain ⟨va, vb, ev, ra, rb⟩ := vat j r e2
        rw [ev] at f3
        exact ⟨by rw [e3]; show 2 ≤ sizeLine; decide, [va, vb], by rw [e3]; exact .cons ra (.cons rb .nil), ⟨_, f3, rfl, _, rfl⟩⟩
      have fr0 := J0.hok.fresh (Nat.le_refl _)
      have gr0 : Gr H1 (adds (pl.zip (rs.map fun r => [r.1, r.2])) (upd H1 P (.tbl (ps ++ more)))) := gr_adds hP (by rw [← em]; exact ht3) hH1
      have get7 : (s'.heap.push (tupO acc)).get? s'.heap.objs.size = some (tupO acc) := Heap.get?_push_size _ rfl
      refine ⟨pl, upd (adds (pl.zip (rs.map fun r => [r.1, r.2])) (upd H1 P (.tbl (ps ++ more)))) s'.heap.objs.size (.frz (tupO acc) (.tup (pl.map V.ref))), hplen, gr0.free fr0, gr0.trans (Gr.new fr0), upd_same, prv_of hplen fun j p r e1 e2 => ?_,
        J0.laid (t' := s'.toks) (fun b u e => Heap.get?_push_of_some _ e) (Nat.le_refl _) ⟨get7, by rw [List.length_map, hplen]; exact hle, acc.toList, hvals, ⟨_, get7, rfl, 0, ?_⟩⟩⟩
      · have hj : j < rs.length := (List.getElem?_eq_some_iff.mp e2).1
        have mp : (p, [r.1, r.2]) ∈ pl.zip (rs.map fun r => [r.1, r.2]) := by
          refine List.mem_iff_getElem?.mpr ⟨j, ?_⟩
          rw [List.getElem?_zip_eq_some]
          exact ⟨e1, by rw [List.getElem?_map, e2] <;> rfl⟩
        have ea := adds_at (H := upd H1 P (.tbl (ps ++ more))) dis mp
        rw [upd_ne (ne_of_none ea fr0)]
        exact ea
      · show Data.seq acc 0 = Data.seq acc.toList.toArray 0
        rw [Array.toArray_toList]
  refine ⟨lim2, ?_⟩
  cases hf : codeAmong gpos ps.toList with
  | none =>
    refine wpAny_genexprCodeX hcode (cd.code hP2 ht) (cd.tab hP2) hf fun c' h' tk hx hge hlt hco' _ htab' _ => ?_
    obtain ⟨o1, vs, f1, tf, fl, tg, inF, tx, tt, op, _, _, _, _, _, _, _, _, _, htr, _⟩ := hco'
    exact cont _ h' tk _ hx (Nat.le_trans hge (Nat.le_of_lt hlt)) htab'.2 ⟨_, rfl⟩ htr
  | some cv =>
    refine wpAny_genexprCode_hit hcode (cd.code hP2 ht) hf ?_
    exact cont cv (s1.heap.push o) s1.toks ps (Heap.ExtBut.refl _ _) (Nat.le_refl _) hP2 ⟨#[], by simp⟩ ht
/-- a tuple without a dict of its own -/
def GT (H : Hp) (t : Addr) (us : List V) : Prop := ∃ o : Obj, o.dict = none ∧ H t = some (.frz o (.tup us))
/-- tuple((a, b) for a, b in te), of a list of pairs: new pairs in a new tuple -/
def tTupG (K : PySem.W.Frag) (P : Addr) (te : TE) : TE := fun σ H Q => te σ H fun v H1 => ∃ (yl : Addr) (vs : List V) (rs : List (V × V)), v = .ref yl ∧ SqL K H1 yl vs ∧ PrV K H1 vs rs ∧ GxR.TabG H1 P ∧ rs.length ≤ sizeLine ∧
  ∀ (t : Addr) (us : List V) (H2 : Hp), H1 t = none → Gr H1 H2 → GT H2 t us → PrV K H2 us rs → Q (.ref t) H2
theorem pe_tupG {c P : Addr} {iter : Expr} {xa xb : Str} {p pos pa pb pt p1 p2 p3 gpos : Pos} {kt k2 : Nat} {scope : Scope} {te : TE} {k : Nat} {nm : Str}
    (hr : Room k X.A) (hg : Gl X nm) (hm : X.mg nm = none) (hv : bootBuiltins nm = some (.type "tuple")) (hnm : nm ≠ "__name__" := by decide) (hdb : (nm == ("__debug__" : Str)) = false := by decide)
    (TB : GxR.TabB X.base X.mg c P) (hcode : X.env.code = .ref c) (S : GenS2 X.env scope xa xb) (hi : PE X iter te)
    (hs : ∀ v, genFold iter X.env v = pure v)
    (he : starEach [gexp iter xa xb pa pb pt p1 p2 p3 gpos kt k2 scope] X.env = (false, eval (gexp iter xa xb pa pb pt p1 p2 p3 gpos kt k2 scope) X.env) :: starEach [] X.env := by rfl) :
    PE X (.Call (.Name nm p) [gexp iter xa xb pa pb pt p1 p2 p3 gpos kt k2 scope] [] pos) (tTupG X.K P te) := by
  refine ⟨fun pins s σ H Q I hq => ?_⟩
  refine wpAny_Call_Name_kw (ld_blt I hg hm hv ?_ hnm hdb)
  refine PyProof.Rows.callWith_type1 ?_ he rfl
  rw [he]
  show wpAny _ _ (spliced ((false, eval (gexp iter xa xb pa pb pt p1 p2 p3 gpos kt k2 scope) X.env) :: backTo pos (starEach [] X.env))) _ _ s
  refine Calls.spliced_cons (gen_prs (R := fun rs H1 => rs.length ≤ sizeLine ∧ ∀ (t : Addr) (us : List V) (H2 : Hp), H1 t = none → Gr H1 H2 → GT H2 t us → PrV X.K H2 us rs → Q (.ref t) H2) hr TB hcode S hi hs I hq fun rs H1 g s5 hR hG => ?_)
  refine Calls.spliced_nil ?_
  obtain ⟨num, C, Ia, fp, vals, st, h1, h2, h3, h4, h5, h6, h7, h8, _, fin⟩ := hG
  refine call_tup hr.hd hr.depth h1 h2 h3 h4 h5 h6 hR.1 st h7 h8 fun T s' acc hT hm hd => ?_
  obtain ⟨ps, H2, _, e1, e2, e3, e4, J⟩ := fin T s' acc hT hm hd hR.1
  exact ⟨.ref s'.heap.objs.size, H2, J, rfl, hR.2 _ _ H2 e1 e2 ⟨_, rfl, e3⟩ e4⟩
/-- () -/
def tTupZ : TE := fun σ H Q => ∀ t H1, H t = none → Gr H H1 → GT H1 t [] → Q (.ref t) H1
theorem pe_tupZ {x1} {pos : Pos} : PE X (.Tuple [] x1 pos) tTupZ := by
  refine ⟨fun pins s σ H Q I hq => ?_⟩
  refine wpAny_Tuple_spliced (Calls.spliced_nil ⟨Nat.zero_le _, ?_⟩)
  have hf : H s.heap.objs.size = none := I.hok.fresh (Nat.le_refl _)
  have get7 : (s.heap.push (tupO #[])).get? s.heap.objs.size = some (tupO #[]) := Heap.get?_push_size _ rfl
  exact ⟨.ref s.heap.objs.size, upd H s.heap.objs.size (.frz (tupO #[]) (.tup [])), I.laid (t' := s.toks) (fun b u e => Heap.get?_push_of_some _ e) (Nat.le_refl _) ⟨get7, Nat.zero_le _, [], .nil, ⟨_, get7, rfl, _, rfl⟩⟩, rfl, hq _ _ hf (Gr.new hf) ⟨_, rfl, upd_same⟩⟩
end
end TG
/-! list(zip(a, b)), two lists of one length -/
namespace ZL
open PySem PySem.Spec PySem.Calls PyProof.Rows L2 My
/-- the zip at z, whose first tuple stands at a place that is alive -/
abbrev ZipO (h : Heap) (z TI TO a : Addr) (f : Bool) : Prop :=
  h.get? z = some { cls := .type "zip", dict := none, data := .fields #[rawInt a, .bool f, .bool false, .ref TI, .ref TO], slots := #[] }
section
variable {prog : Program} {w : World} {A : Around} {E : Value → Shared → Prop} {s : Shared}
theorem zip_out {z TI TO a i1 i2 l1 l2 : Addr} {f : Bool} {oa : Obj} {k1 k2 : Nat} {xs ys : Array Value} {x y : Value} {Q : Value → Shared → Prop} (D : ZipApart z TI TO i1 i2 l1 l2)
    (hz : ZipO s.heap z TI TO a f) (ha : s.heap.get? a = some oa) (haz : a ≠ z) (hTI : IsPair s.heap TI (.ref i1) (.ref i2))
    (h1 : s.heap.IsListIter i1 l1 k1) (h2 : s.heap.IsListIter i2 l2 k2) (hl1 : s.heap.IsList l1 xs) (hl2 : s.heap.IsList l2 ys) (hx : xs[k1]? = some x) (hy : ys[k2]? = some y)
    (hQ : ∀ h', ZipO h' z TI TO a true → h'.IsListIter i1 l1 (k1 + 1) → h'.IsListIter i2 l2 (k2 + 1) → IsPair h' s.heap.objs.size x y → h'.objs.size = s.heap.objs.size + 1 →
      (∀ c o, c ≠ z → c ≠ i1 → c ≠ i2 → s.heap.get? c = some o → h'.get? c = some o) → Q (.ref s.heap.objs.size) { s with heap := h' }) :
    wpAny (model prog w) A (Builtin.«zip.__next__» ⟨[.ref z], []⟩) (fun fin s' => ∃ v, fin = .done (.ret v) ∧ Q v s') E s := by
  show wpAny _ _ (field (.ref z) 2 >>= _) _ _ _
  refine wpAny_bind (wpAny_field hz rfl (x := .bool false) rfl ?_)
  show wpAny _ _ (field (.ref z) 3 >>= _) _ _ _
  refine wpAny_bind (wpAny_field hz rfl (x := .ref TI) rfl (wpAny_bind (wpAny_seqItems hTI rfl ?_)))
  show wpAny _ _ (Builtin.SmallTypes.ownedTupleIsFree (.ref z) >>= _) _ _ _
  refine wpAny_bind ?_
  unfold Builtin.SmallTypes.ownedTupleIsFree
  refine wpAny_bind (wpAny_field hz rfl (x := rawInt a) rfl ?_)
  show wpAny _ _ (loadIfAlive ((a : Int).toNat) >>= _) _ _ _
  rw [Int.toNat_natCast]
  refine wpAny_bind (PySem.W.kdx_alive ha ?_)
  simp only [Option.isNone_some, Bool.false_eq_true, if_false]
  refine wpAny_bind (wpAny_field hz rfl (x := .bool f) rfl ?_)
  cases f with
  | true =>
    rw [if_neg (show ¬ ((Value.bool true != Value.bool true) = true) from Bool.false_ne_true)]
    refine wpAny_pure ?_
    simp only [Bool.false_eq_true, if_false]
    rw [← Array.forIn_toList]
    simp only [List.forIn_cons, List.forIn_nil]
    refine wpAny_bind (wpAny_bind (wpAny_bind (wpAny_holding ?_)))
    show wpAny _ _ (Builtin.SmallTypes.nextOf (.ref i1) >>= _) _ _ _
    refine wpAny_bind (wpAny_nextOf_list_item h1 hl1 hx fun h₂ h1₂ hs₂ => wpAny_pure ?_)
    refine wpAny_pure ?_
    refine wpAny_bind (wpAny_bind (wpAny_holding ?_))
    show wpAny _ _ (Builtin.SmallTypes.nextOf (.ref i2) >>= _) _ _ _
    refine wpAny_bind (wpAny_nextOf_list_item (h2.extBut hs₂.extBut D.i12.symm) (hl2.extBut hs₂.extBut D.l2i1) hy fun h₄ h2₄ hs₄ => wpAny_pure ?_)
    refine wpAny_pure (wpAny_pure ?_)
    refine wpAny_bind (wpAny_newTuple ?_ (hsz := (by show 2 ≤ sizeLine; decide)))
    have hsz4 : h₄.objs.size = s.heap.objs.size := by rw [hs₄.1, hs₂.1]
    have hz₄ : ZipO h₄ z TI TO a true := hs₄.extBut _ _ D.i2z.symm (hs₂.extBut _ _ D.i1z.symm hz)
    refine wpAny_pure ⟨_, rfl, ?_⟩
    show Q (.ref h₄.objs.size) _
    have pt : IsPair (h₄.push { cls := .type "tuple", data := .seq #[x, y] }) h₄.objs.size x y := Heap.get?_push_size _ rfl
    rw [hsz4] at pt ⊢
    exact hQ _ (Heap.get?_push_of_some _ hz₄) ((h1₂.extBut hs₄.extBut D.i12).at fun o e => Heap.get?_push_of_some _ e) (h2₄.at fun o e => Heap.get?_push_of_some _ e) pt (by rw [Heap.size_push, hsz4]) fun c o c1 c3 c4 e => Heap.get?_push_of_some _ (hs₄.extBut _ _ c4 (hs₂.extBut _ _ c3 e))
  | false =>
    rw [if_pos (show (Value.bool false != Value.bool true) = true from rfl)]
    refine wpAny_bind (wpAny_setField_rec hz (by simp) fun h₃ he₃ hs₃ => ?_)
    replace hs₃ : Heap.SameBut z s.heap h₃ := hs₃
    replace he₃ : ZipO h₃ z TI TO a true := he₃
    refine wpAny_pure ?_
    simp only [Bool.false_eq_true, if_false]
    rw [← Array.forIn_toList]
    simp only [List.forIn_cons, List.forIn_nil]
    refine wpAny_bind (wpAny_bind (wpAny_bind (wpAny_holding ?_)))
    show wpAny _ _ (Builtin.SmallTypes.nextOf (.ref i1) >>= _) _ _ _
    refine wpAny_bind (wpAny_nextOf_list_item (h1.extBut hs₃.extBut D.i1z) (hl1.extBut hs₃.extBut D.l1z) hx fun h₂ h1₂ hs₂ => wpAny_pure ?_)
    refine wpAny_pure ?_
    refine wpAny_bind (wpAny_bind (wpAny_holding ?_))
    show wpAny _ _ (Builtin.SmallTypes.nextOf (.ref i2) >>= _) _ _ _
    refine wpAny_bind (wpAny_nextOf_list_item ((h2.extBut hs₃.extBut D.i2z).extBut hs₂.extBut D.i12.symm) ((hl2.extBut hs₃.extBut D.l2z).extBut hs₂.extBut D.l2i1) hy fun h₄ h2₄ hs₄ => wpAny_pure ?_)
    refine wpAny_pure (wpAny_pure ?_)
    refine wpAny_bind (wpAny_newTuple ?_ (hsz := (by show 2 ≤ sizeLine; decide)))
    have hsz4 : h₄.objs.size = s.heap.objs.size := by rw [hs₄.1, hs₂.1]; exact hs₃.1
    have hz₄ : ZipO h₄ z TI TO a true := hs₄.extBut _ _ D.i2z.symm (hs₂.extBut _ _ D.i1z.symm he₃)
    refine wpAny_pure ⟨_, rfl, ?_⟩
    show Q (.ref h₄.objs.size) _
    have pt : IsPair (h₄.push { cls := .type "tuple", data := .seq #[x, y] }) h₄.objs.size x y := Heap.get?_push_size _ rfl
    rw [hsz4] at pt ⊢
    exact hQ _ (Heap.get?_push_of_some _ hz₄) ((h1₂.extBut hs₄.extBut D.i12).at fun o e => Heap.get?_push_of_some _ e) (h2₄.at fun o e => Heap.get?_push_of_some _ e) pt (by rw [Heap.size_push, hsz4]) fun c o c1 c3 c4 e => Heap.get?_push_of_some _ (hs₄.extBut _ _ c4 (hs₂.extBut _ _ c3 (hs₃.extBut _ _ c1 e)))
theorem zip_out_end {z TI TO a i1 i2 l1 l2 : Addr} {f : Bool} {oa : Obj} {k1 : Nat} {xs : Array Value} {Q : Fin → Shared → Prop} (hh : A.handled = none) (D : ZipApart z TI TO i1 i2 l1 l2)
    (hz : ZipO s.heap z TI TO a f) (ha : s.heap.get? a = some oa) (hTI : IsPair s.heap TI (.ref i1) (.ref i2)) (h1 : s.heap.IsListIter i1 l1 k1) (hl1 : s.heap.IsList l1 xs) (hx : xs[k1]? = none)
    (hE : ∀ h' e, (∀ c o, c ≠ z → c ≠ i1 → s.heap.get? c = some o → h'.get? c = some o) → (∃ o, h'.get? e = some o ∧ o.cls = .type "StopIteration") → E (.ref e) { s with heap := h' }) :
    wpAny (model prog w) A (Builtin.«zip.__next__» ⟨[.ref z], []⟩) Q E s := by
  show wpAny _ _ (field (.ref z) 2 >>= _) _ _ _
  refine wpAny_bind (wpAny_field hz rfl (x := .bool false) rfl ?_)
  show wpAny _ _ (field (.ref z) 3 >>= _) _ _ _
  refine wpAny_bind (wpAny_field hz rfl (x := .ref TI) rfl (wpAny_bind (wpAny_seqItems hTI rfl ?_)))
  show wpAny _ _ (Builtin.SmallTypes.ownedTupleIsFree (.ref z) >>= _) _ _ _
  refine wpAny_bind ?_
  unfold Builtin.SmallTypes.ownedTupleIsFree
  refine wpAny_bind (wpAny_field hz rfl (x := rawInt a) rfl ?_)
  show wpAny _ _ (loadIfAlive ((a : Int).toNat) >>= _) _ _ _
  rw [Int.toNat_natCast]
  refine wpAny_bind (PySem.W.kdx_alive ha ?_)
  simp only [Option.isNone_some, Bool.false_eq_true, if_false]
  refine wpAny_bind (wpAny_field hz rfl (x := .bool f) rfl ?_)
  cases f with
  | true =>
    rw [if_neg (show ¬ ((Value.bool true != Value.bool true) = true) from Bool.false_ne_true)]
    refine wpAny_pure ?_
    simp only [Bool.false_eq_true, if_false]
    rw [← Array.forIn_toList]
    simp only [List.forIn_cons, List.forIn_nil]
    refine wpAny_bind (wpAny_bind (wpAny_bind (wpAny_holding ?_)))
    show wpAny _ _ (Builtin.SmallTypes.nextOf (.ref i1) >>= _) _ _ _
    refine wpAny_bind (wpAny_nextOf_list_end hh h1 hl1 hx fun h₂ e hs₂ he => ?_)
    exact hE h₂ e (fun c o c1 c3 x => hs₂ _ _ c3 x) he
  | false =>
    rw [if_pos (show (Value.bool false != Value.bool true) = true from rfl)]
    refine wpAny_bind (wpAny_setField_rec hz (by simp) fun h₃ he₃ hs₃ => ?_)
    replace hs₃ : Heap.SameBut z s.heap h₃ := hs₃
    replace he₃ : ZipO h₃ z TI TO a true := he₃
    refine wpAny_pure ?_
    simp only [Bool.false_eq_true, if_false]
    rw [← Array.forIn_toList]
    simp only [List.forIn_cons, List.forIn_nil]
    refine wpAny_bind (wpAny_bind (wpAny_bind (wpAny_holding ?_)))
    show wpAny _ _ (Builtin.SmallTypes.nextOf (.ref i1) >>= _) _ _ _
    refine wpAny_bind (wpAny_nextOf_list_end hh (h1.extBut hs₃.extBut D.i1z) (hl1.extBut hs₃.extBut D.l1z) hx fun h₂ e hs₂ he => ?_)
    exact hE h₂ e (fun c o c1 c3 x => hs₂ _ _ c3 (hs₃.extBut _ _ c1 x)) he
/-- how the zip stands before its turn i -/
structure Zt (h : Heap) (z TI TO i1 i2 l1 l2 S : Addr) (xs ys : Array Value) (i : Nat) : Prop where
  st : (i = 0 ∧ IsZip h z TI TO .none) ∨ ∃ a f oa, ZipO h z TI TO a f ∧ h.get? a = some oa ∧ a ≠ z ∧ a ≠ S ∧ a ≠ i1 ∧ a ≠ i2
  ti : IsPair h TI (.ref i1) (.ref i2)
  to : ∃ a b, IsPair h TO a b
  h1 : h.IsListIter i1 l1 i
  h2 : h.IsListIter i2 l2 i
  hl1 : h.IsList l1 xs
  hl2 : h.IsList l2 ys
/-- S, the list that grows, is none of the zip's own places -/
structure Off (z TI TO i1 i2 l1 l2 S : Addr) : Prop where
  z : z ≠ S
  ti : TI ≠ S
  to : TO ≠ S
  i1 : i1 ≠ S
  i2 : i2 ≠ S
  l1 : l1 ≠ S
  l2 : l2 ≠ S
theorem Zt.keep {h h' : Heap} {z TI TO i1 i2 l1 l2 S : Addr} {xs ys : Array Value} {i : Nat} (t : Zt h z TI TO i1 i2 l1 l2 S xs ys i) (O : Off z TI TO i1 i2 l1 l2 S) (k : ∀ b o, b ≠ S → h.get? b = some o → h'.get? b = some o) : Zt h' z TI TO i1 i2 l1 l2 S xs ys i := by
  refine ⟨?_, k _ _ O.ti t.ti, ?_, t.h1.at fun o e => k _ _ O.i1 e, t.h2.at fun o e => k _ _ O.i2 e, t.hl1.at fun o e => k _ _ O.l1 e, t.hl2.at fun o e => k _ _ O.l2 e⟩
  · rcases t.st with ⟨e, r⟩ | ⟨a, f, oa, r, ea, az, aS, a1, a2⟩
    · exact .inl ⟨e, k _ _ O.z r⟩
    · exact .inr ⟨a, f, oa, k _ _ O.z r, k _ _ aS ea, az, aS, a1, a2⟩
  · obtain ⟨a, b, e⟩ := t.to
    exact ⟨a, b, k _ _ O.to e⟩
theorem zt_item {z TI TO i1 i2 l1 l2 S : Addr} {xs ys : Array Value} {i : Nat} {x y : Value} {Q : Option Value → Shared → Prop} (D : ZipApart z TI TO i1 i2 l1 l2) (t : Zt s.heap z TI TO i1 i2 l1 l2 S xs ys i) (hS : S < s.heap.objs.size) (hx : xs[i]? = some x) (hy : ys[i]? = some y)
    (hQ : ∀ h', Zt h' z TI TO i1 i2 l1 l2 S xs ys (i + 1) → IsPair h' s.heap.objs.size x y → h'.objs.size = s.heap.objs.size + 1 → (∀ c o, c ≠ z → c ≠ TO → c ≠ i1 → c ≠ i2 → s.heap.get? c = some o → h'.get? c = some o) → Q (some (.ref s.heap.objs.size)) { s with heap := h' }) :
    wpAny (model prog w) A (pyNext (.ref z)) Q E s := by
  have below : ∀ {b : Addr} {o : Obj}, s.heap.get? b = some o → s.heap.objs.size ≠ b := fun e => Nat.ne_of_gt (Heap.lt_size e)
  have b1 : s.heap.objs.size ≠ i1 := by obtain ⟨_, e, _⟩ := t.h1; exact below e
  have b2 : s.heap.objs.size ≠ i2 := by obtain ⟨_, e, _⟩ := t.h2; exact below e
  rcases t.st with ⟨rfl, r⟩ | ⟨a, f, oa, r, ea, az, aS, a1, a2⟩
  · obtain ⟨u, v, eto⟩ := t.to
    refine wpAny_pyNext_zip_item D r t.ti eto t.h1 t.h2 t.hl1 t.hl2 hx hy fun h' c1 c2 c3 c4 c5 c6 ck => ?_
    exact hQ h' ⟨.inr ⟨_, false, _, c1, c5, below r, Nat.ne_of_gt hS, b1, b2⟩, ck _ _ D.TIz D.TITO D.TIi1 D.TIi2 t.ti, ⟨_, _, c2⟩, c3, c4, t.hl1.at fun o e => ck _ o D.l1z D.l1TO D.l1i1 D.l1i2 e, t.hl2.at fun o e => ck _ o D.l2z D.l2TO D.l2i1 D.l2i2 e⟩ c5 c6 ck
  · have hT : s.TypeIs (.ref z) "zip" := ⟨_, r, rfl⟩
    unfold pyNext
    refine wpAny_bind (wpAny_attempt (wpAny_callSpecial?_slot (name := Str.ofString "__next__") hT F.slot_zip_next
      (wpAny_call_entry F.slot_zip_next hT F.entry_zip_next (zip_out D r ea az t.ti t.h1 t.h2 t.hl1 t.hl2 hx hy fun h' c1 c3 c4 c5 c6 ck => wpAny_pure ?_) (F.args_zip_next_1 _))))
    obtain ⟨u, v, eto⟩ := t.to
    refine hQ h' ⟨.inr ⟨a, true, oa, c1, ck _ _ az a1 a2 ea, az, aS, a1, a2⟩, ck _ _ D.TIz D.TIi1 D.TIi2 t.ti, ⟨u, v, ck _ _ D.TOz D.TOi1 D.TOi2 eto⟩, c3, c4, t.hl1.at fun o e => ck _ o D.l1z D.l1i1 D.l1i2 e, t.hl2.at fun o e => ck _ o D.l2z D.l2i1 D.l2i2 e⟩ c5 c6 fun c o d1 _ d3 d4 e => ck c o d1 d3 d4 e
theorem zt_done {z TI TO i1 i2 l1 l2 S : Addr} {xs ys : Array Value} {i : Nat} {Q : Option Value → Shared → Prop} (hh : A.handled = none) (D : ZipApart z TI TO i1 i2 l1 l2) (t : Zt s.heap z TI TO i1 i2 l1 l2 S xs ys i) (hx : xs[i]? = none)
    (hQ : ∀ h', (∀ c o, c ≠ z → c ≠ TO → c ≠ i1 → c ≠ i2 → s.heap.get? c = some o → h'.get? c = some o) → Q none { s with heap := h' }) : wpAny (model prog w) A (pyNext (.ref z)) Q E s := by
  rcases t.st with ⟨rfl, r⟩ | ⟨a, f, oa, r, ea, az, aS, a1, a2⟩
  · obtain ⟨u, v, eto⟩ := t.to
    exact wpAny_pyNext_zip_end hh D r t.ti eto t.h1 t.h2 t.hl1 t.hl2 (.inl hx) fun h' ck => hQ h' ck
  · have hT : s.TypeIs (.ref z) "zip" := ⟨_, r, rfl⟩
    unfold pyNext
    refine wpAny_bind (wpAny_attempt (wpAny_callSpecial?_slot (name := Str.ofString "__next__") hT F.slot_zip_next
      (wpAny_call_entry F.slot_zip_next hT F.entry_zip_next (zip_out_end hh D r ea t.ti t.h1 t.hl1 hx fun h' e ck he => ?_) (F.args_zip_next_1 _))))
    obtain ⟨o, ho, hc⟩ := he
    refine wpAny_bind (wpAny_isInstance (T := "StopIteration") (b := true) ⟨o, ho, hc⟩ isSubtype_stop ?_)
    exact wpAny_pure (hQ _ fun c o c1 _ c3 _ e => ck c o c1 c3 e)
end
theorem nolen_zip : typeLookup (.type "zip") "__len__" = pure none := by rw [typeLookup_type, builtinLookup_eq_fast]; kernel_rfl
theorem nohint_zip : typeLookup (.type "zip") "__length_hint__" = pure none := by rw [typeLookup_type, builtinLookup_eq_fast]; kernel_rfl
/-- the tuples that were told so far -/
structure Gz (xs ys : Array Value) (lo : Addr) (h : Heap) (as : List Addr) : Prop where
  rise : as.Pairwise (· < ·)
  above : ∀ a ∈ as, lo < a
  pairs : ∀ (j : Nat) (a : Addr), as[j]? = some a → ∃ x y, xs[j]? = some x ∧ ys[j]? = some y ∧ IsPair h a x y
theorem Gz.there {xs ys : Array Value} {lo : Addr} {h : Heap} {as : List Addr} (g : Gz xs ys lo h as) {a : Addr} (ha : a ∈ as) : a < h.objs.size := by
  obtain ⟨j, hj⟩ := List.mem_iff_getElem?.mp ha
  obtain ⟨_, _, _, _, e⟩ := g.pairs j a hj
  exact Heap.lt_size e
section
variable {prog : Program} {w : World} {A : Around} {s : Shared} {R : Result → Shared → Prop} {xs ys : Array Value} {z TI TO i1 i2 l1 l2 S : Addr}
theorem zl_loop (hh : A.handled = none) (D : ZipApart z TI TO i1 i2 l1 l2) (O : Off z TI TO i1 i2 l1 l2 S) (hlow : z < S ∧ TO < S ∧ i1 < S ∧ i2 < S) (hn : xs.size ≤ sizeLine) (hxy : xs.size = ys.size) (res : Value) {h₁ : Heap}
    (hR : ∀ h' tk acc c as, (∀ b o, b ≠ S → b ≠ z → b ≠ TO → b ≠ i1 → b ≠ i2 → h₁.get? b = some o → h'.get? b = some o) → h'.get? S = some { cls := .type "list", dict := none, data := .seq acc c, slots := #[] } → as.length = xs.size → Gz xs ys S h' as →
      acc.toList = as.map Value.ref → R (.ok (.ret res)) { s with heap := h', toks := tk }) :
    ∀ (k i : Nat) (h : Heap) (tk c : Nat) (acc : Array Value) (as : List Addr), xs.size - i = k → i ≤ xs.size → Zt h z TI TO i1 i2 l1 l2 S xs ys i → (∀ b o, b ≠ S → b ≠ z → b ≠ TO → b ≠ i1 → b ≠ i2 → h₁.get? b = some o → h.get? b = some o) →
      h.get? S = some { cls := .type "list", dict := none, data := .seq acc c, slots := #[] } → acc.toList = as.map Value.ref → as.length = i → Gz xs ys S h as →
      codeAny (model prog w) A (.builtin "list.extend.loop" ⟨[.ref S, .ref z, res], []⟩) R { s with heap := h, toks := tk } := by
  have off : ∀ {a : Addr}, S < a → a ≠ z ∧ a ≠ TO ∧ a ≠ i1 ∧ a ≠ i2 := fun h => ⟨Nat.ne_of_gt (Nat.lt_trans hlow.1 h), Nat.ne_of_gt (Nat.lt_trans hlow.2.1 h), Nat.ne_of_gt (Nat.lt_trans hlow.2.2.1 h), Nat.ne_of_gt (Nat.lt_trans hlow.2.2.2 h)⟩
  intro k
  induction k with
  | zero =>
    intro i h tk c acc as hk hi hst hkeep hS hacc hal hG
    have hin : i = xs.size := by omega
    refine codeAny_builtin PySem.F.entry_extend_loop ?_
    rw [Around.under_plainId PySem.F.plain_extend_loop _]
    show wpAny _ A.in1 (pyNext (.ref z) >>= _) _ _ _
    refine wpAny_bind (zt_done (s := { s with heap := h, toks := tk }) (A := A.in1) hh D hst (Array.getElem?_eq_none (by omega)) fun h' he => ?_)
    refine wpAny_pure (hR h' tk acc c as (fun b o c1 c2 c3 c4 c5 e => he b o c2 c3 c4 c5 (hkeep b o c1 c2 c3 c4 c5 e)) (he S _ O.z.symm O.to.symm O.i1.symm O.i2.symm hS) (by omega) ⟨hG.rise, hG.above, fun j a hj => ?_⟩ hacc)
    obtain ⟨x, y, e1, e2, e3⟩ := hG.pairs j a hj
    obtain ⟨o1, o2, o3, o4⟩ := off (hG.above a (List.mem_of_getElem? hj))
    exact ⟨x, y, e1, e2, he a _ o1 o2 o3 o4 e3⟩
  | succ k ih =>
    intro i h tk c acc as hk hi hst hkeep hS hacc hal hG
    have hlt : i < xs.size := by omega
    have hlt2 : i < ys.size := by omega
    have hsz : acc.size = i := by rw [← Array.length_toList, hacc, List.length_map, hal]
    refine codeAny_builtin PySem.F.entry_extend_loop ?_
    rw [Around.under_plainId PySem.F.plain_extend_loop _]
    show wpAny _ A.in1 (pyNext (.ref z) >>= _) _ _ _
    refine wpAny_bind (zt_item (s := { s with heap := h, toks := tk }) D hst (Heap.lt_size hS) (Array.getElem?_eq_getElem hlt) (Array.getElem?_eq_getElem hlt2) fun h' hst' ht hz hkp => ?_)
    dsimp only at ht hz hkp ⊢
    have hS' := hkp S _ O.z.symm O.to.symm O.i1.symm O.i2.symm hS
    have up : ∀ b o, b ≠ S → h'.get? b = some o → (h'.update S (Obj.mapSeq (·.push (Value.ref h.objs.size)))).get? b = some o := fun b o hb e => (Heap.get?_update_other _ _ (Ne.symm hb)).trans e
    have hSl : S < h.objs.size := Heap.lt_size hS
    show wpAny _ A.in1 (updateSeq S (·.push (Value.ref h.objs.size)) >>= _) _ _ _
    refine wpAny_bind ?_
    refine wpAny_updateSeq hS' rfl (wpAny_pure ⟨plainId_quiet PySem.F.plain_extend_loop _, ih (i + 1) _ tk _ (acc.push (Value.ref h.objs.size)) (as ++ [h.objs.size]) (by omega) hlt (hst'.keep O up)
      (fun b o c1 c2 c3 c4 c5 e => up b o c1 (hkp b o c2 c3 c4 c5 (hkeep b o c1 c2 c3 c4 c5 e))) (Heap.get?_update_self _ hS' rfl) (by rw [Array.toList_push, hacc, List.map_append]; rfl) (by rw [List.length_append, hal]; rfl) ⟨?_, ?_, ?_⟩⟩) (by rw [hsz]; omega) (by show (acc.push (Value.ref h.objs.size)).size ≤ sizeLine + 1; rw [Array.size_push, hsz]; omega)
    · refine List.pairwise_append.mpr ⟨hG.rise, List.pairwise_singleton _ _, fun a ha b hb => ?_⟩
      rw [List.mem_singleton.mp hb]
      exact hG.there ha
    · intro a ha
      rcases List.mem_append.mp ha with ha | ha
      · exact hG.above a ha
      · rw [List.mem_singleton.mp ha]; exact hSl
    · intro j b hj
      rcases Nat.lt_trichotomy j as.length with c1 | c1 | c1
      · rw [List.getElem?_append_left c1] at hj
        obtain ⟨x, y, e1, e2, e3⟩ := hG.pairs j b hj
        have hb := hG.above b (List.mem_of_getElem? hj)
        obtain ⟨o1, o2, o3, o4⟩ := off hb
        exact ⟨x, y, e1, e2, up b _ (Nat.ne_of_gt hb) (hkp b _ o1 o2 o3 o4 e3)⟩
      · subst c1
        have hb : h.objs.size = b := by simpa using hj
        subst hb
        exact ⟨_, _, by rw [hal]; exact Array.getElem?_eq_getElem hlt, by rw [hal]; exact Array.getElem?_eq_getElem hlt2, up _ _ (Nat.ne_of_gt hSl) ht⟩
      · have hnone : (as ++ [h.objs.size])[j]? = none := List.getElem?_eq_none (by rw [List.length_append, List.length_singleton]; omega)
        rw [hnone] at hj; cases hj
end
section
variable {prog : Program} {w : World} {A : Around} {E : Value → Shared → Prop} {s : Shared} {xs ys : Array Value} {z TI TO i1 i2 l1 l2 S : Addr}
theorem zl_extend {R : Result → Shared → Prop} (hh : A.handled = none) (D : ZipApart z TI TO i1 i2 l1 l2) (O : Off z TI TO i1 i2 l1 l2 S) (hlow : z < S ∧ TO < S ∧ i1 < S ∧ i2 < S) (hn : xs.size ≤ sizeLine) (hxy : xs.size = ys.size) (res : Value) (c₀ : Nat)
    (t : Zt s.heap z TI TO i1 i2 l1 l2 S xs ys 0) (hz : IsZip s.heap z TI TO .none) (hS : s.heap.get? S = some { cls := .type "list", data := .seq #[] c₀ })
    (hR : ∀ h' tk acc c as, (∀ b o, b ≠ S → b ≠ z → b ≠ TO → b ≠ i1 → b ≠ i2 → s.heap.get? b = some o → h'.get? b = some o) → h'.get? S = some { cls := .type "list", dict := none, data := .seq acc c, slots := #[] } → as.length = xs.size → Gz xs ys S h' as →
      acc.toList = as.map Value.ref → R (.ok (.ret res)) { s with heap := h', toks := tk }) :
    wpAny (model prog w) A.in1 (Builtin.List.listExtendWith (.ref S) (.ref z) res)
      (fun fin s' => match fin with | .done f => R (.ok f) s' | .again c' => c'.quiet = true ∧ codeAny (model prog w) A c' R s') (fun e s' => R (.error e) s') s := by
  have hT : s.TypeIs (.ref z) "zip" := ⟨_, hz, rfl⟩
  unfold Builtin.List.listExtendWith
  refine wpAny_bind (wpAny_typeOf (T := "zip") hT ?_)
  have h1 : Builtin.List.listSameRef (.ref S) (.ref z) = false := by simp [Builtin.List.listSameRef, O.z.symm]
  have h2 : (Value.type "zip" == Value.type "list") = false := by decide
  have h3 : (Value.type "zip" == Value.type "tuple") = false := by decide
  simp only [h1, h2, h3, Bool.or_false, Bool.false_eq_true, if_false]
  refine wpAny_bind (wpAny_pyIter_zip hz ?_)
  refine wpAny_bind (wpAny_holding ?_)
  unfold Builtin.List.listLengthHint
  refine wpAny_bind (wpAny_specialOf hT nolen_zip ?_)
  show wpAny _ A.in1 (specialOf (Value.ref z) (Str.ofString "__length_hint__") >>= _) _ _ _
  refine wpAny_bind (wpAny_specialOf hT nohint_zip (wpAny_pure ?_))
  show wpAny _ A.in1 (rule "list.extend.makes-room" >>= fun _ => Builtin.List.listTouch (.ref S) >>= fun _ => again (.builtin "list.extend.loop" ⟨[.ref S, .ref z, res], []⟩)) _ _ _
  refine wpAny_bind (wpAny_rule (wpAny_bind ?_))
  show wpAny _ A.in1 (updateSeq S (·.push .none) >>= fun _ => updateSeq S (·.pop)) _ _ _
  refine wpAny_bind (wpAny_updateSeq hS rfl ?_)
  have hS₂ := Heap.get?_update_self (Obj.mapSeq (·.push Value.none)) hS rfl
  refine wpAny_updateSeq (hz := by seq_fits) hS₂ rfl ?_
  have hS₃ := Heap.get?_update_self (Obj.mapSeq (·.pop)) hS₂ rfl
  have oth : ∀ b o, b ≠ S → s.heap.get? b = some o → ((s.heap.update S (Obj.mapSeq (·.push Value.none))).update S (Obj.mapSeq (·.pop))).get? b = some o :=
    fun b o hb e => (Heap.get?_update_other _ _ (Ne.symm hb)).trans ((Heap.get?_update_other _ _ (Ne.symm hb)).trans e)
  refine wpAny_pure ⟨plainId_quiet PySem.F.plain_extend_loop _, zl_loop (s := s) (h₁ := s.heap) hh D O hlow hn hxy res hR xs.size 0 _ _ _ #[] [] (Nat.sub_zero _) (Nat.zero_le _) (t.keep O oth) (fun b o c1 _ _ _ _ e => oth b o c1 e) hS₃ rfl rfl
    ⟨List.Pairwise.nil, (fun _ ha => nomatch ha), (fun j a hj => by simp at hj)⟩⟩
theorem zl_call {Q : Value → Shared → Prop} (hh : A.handled = none) (D : ZipApart z TI TO i1 i2 l1 l2) (hlow : z < s.heap.objs.size ∧ TI < s.heap.objs.size ∧ TO < s.heap.objs.size ∧ i1 < s.heap.objs.size ∧ i2 < s.heap.objs.size ∧ l1 < s.heap.objs.size ∧ l2 < s.heap.objs.size)
    (hn : xs.size ≤ sizeLine) (hxy : xs.size = ys.size) (hz : IsZip s.heap z TI TO .none) (hTI : IsPair s.heap TI (.ref i1) (.ref i2)) (hTO : ∃ a b, IsPair s.heap TO a b) (h1 : s.heap.IsListIter i1 l1 0) (h2 : s.heap.IsListIter i2 l2 0) (hl1 : s.heap.IsList l1 xs) (hl2 : s.heap.IsList l2 ys)
    (hQ : ∀ h' tk acc c as, (∀ b o, b ≠ z → b ≠ TO → b ≠ i1 → b ≠ i2 → s.heap.get? b = some o → h'.get? b = some o) → h'.get? s.heap.objs.size = some { cls := .type "list", dict := none, data := .seq acc c, slots := #[] } → as.length = xs.size → Gz xs ys s.heap.objs.size h' as →
      acc.toList = as.map Value.ref → Q (.ref s.heap.objs.size) { s with heap := h', toks := tk }) :
    wpAny (model prog w) A (call (.type "list") [.ref z]) Q E s := by
  refine callType_codes (Q₁ := fun obj s₁ => obj = .ref s.heap.objs.size ∧ s₁ = { s with heap := s.heap.push { cls := .type "list", data := .seq #[] } }) PySem.F.called_list (PySem.F.typeCall_list_1 _) PySem.F.entry_list_init
    (code_list_new _ ⟨rfl, rfl⟩) fun obj s₁ h₁ => ?_
  obtain ⟨rfl, rfl⟩ := h₁
  have hS : (s.heap.push { cls := .type "list", data := .seq #[] }).get? s.heap.objs.size = some { cls := .type "list", data := .seq #[] } := Heap.get?_push_size _ rfl
  refine ⟨⟨_, hS, rfl⟩, PySem.F.args_list_init_2 _ _, ?_⟩
  obtain ⟨a1, a2, a3, a4, a5, a6, a7⟩ := hlow
  have O : Off z TI TO i1 i2 l1 l2 s.heap.objs.size := ⟨Nat.ne_of_lt a1, Nat.ne_of_lt a2, Nat.ne_of_lt a3, Nat.ne_of_lt a4, Nat.ne_of_lt a5, Nat.ne_of_lt a6, Nat.ne_of_lt a7⟩
  obtain ⟨u, v, eto⟩ := hTO
  have pu : ∀ b o, s.heap.get? b = some o → (s.heap.push { cls := .type "list", data := .seq #[] }).get? b = some o := fun b o e => Heap.get?_push_of_some _ e
  have t0 : Zt (s.heap.push { cls := .type "list", data := .seq #[] }) z TI TO i1 i2 l1 l2 s.heap.objs.size xs ys 0 := ⟨.inl ⟨rfl, pu _ _ hz⟩, pu _ _ hTI, ⟨u, v, pu _ _ eto⟩, h1.at fun o e => pu _ o e, h2.at fun o e => pu _ o e, hl1.at fun o e => pu _ o e, hl2.at fun o e => pu _ o e⟩
  show wpAny _ _ (do let old ← Builtin.List.listItems (.ref s.heap.objs.size); Builtin.List.listUpdate (.ref s.heap.objs.size) (fun _ => #[]); letGo old.toList.reverse; Builtin.List.listExtendWith (.ref s.heap.objs.size) (.ref z) .none) _ _ _
  refine wpAny_bind ?_
  unfold Builtin.List.listItems
  refine wpAny_bind (wpAny_seqItems hS rfl (wpAny_pure ?_))
  show wpAny _ _ (updateSeq s.heap.objs.size (fun _ => #[]) >>= fun _ => letGo (#[] : Array Value).toList.reverse >>= fun _ => Builtin.List.listExtendWith (.ref s.heap.objs.size) (.ref z) .none) _ _ _
  refine wpAny_bind (wpAny_updateSeq hS rfl ?_)
  have hS₂ := Heap.get?_update_self (Obj.mapSeq (fun _ => (#[] : Array Value))) hS rfl
  have oth : ∀ b o, b ≠ s.heap.objs.size → (s.heap.push { cls := .type "list", data := .seq #[] }).get? b = some o → ((s.heap.push { cls := .type "list", data := .seq #[] }).update s.heap.objs.size (Obj.mapSeq (fun _ => (#[] : Array Value)))).get? b = some o :=
    fun b o hb e => (Heap.get?_update_other _ _ (Ne.symm hb)).trans e
  refine wpAny_bind (wpAny_letGo ?_)
  refine zl_extend (A := A.in1) (s := { s with heap := (s.heap.push { cls := .type "list", data := .seq #[] }).update s.heap.objs.size (Obj.mapSeq (fun _ => (#[] : Array Value))) }) (by simpa using hh) D O ⟨a1, a3, a4, a5⟩ hn hxy .none _ (t0.keep O oth) (oth _ _ O.z (pu _ _ hz)) hS₂ (fun h' tk acc c as hk hS' hl hG hacc => ?_)
  exact ⟨rfl, hQ h' tk acc c as (fun b o c2 c3 c4 c5 e => hk b o (Nat.ne_of_lt (Heap.lt_size e)) c2 c3 c4 c5 (oth b o (Nat.ne_of_lt (Heap.lt_size e)) (pu _ _ e))) hS' hl hG hacc⟩
end
/-- the tuples and the list that holds them, laid at once -/
def zpL (as : List Addr) (rs : List (V × V)) : List (Addr × List V) := (as.zip rs).map fun p => (p.1, [p.2.1, p.2.2])
section
variable {X : Cx} {pins : List (Addr × Obj)} {σ : L2.St} {H : Hp} {s : Shared}
theorem zip_laid {h' : Heap} {tk c : Nat} {as : List Addr} {rs : List (V × V)} {acc : Array Value} {S : Addr} (I : Inv X pins σ H s) (k : ∀ b o, s.heap.get? b = some o → h'.get? b = some o) (hS0 : s.heap.objs.size ≤ S)
    (hS : h'.get? S = some { cls := .type "list", dict := none, data := .seq acc c, slots := #[] }) (hl : as.length = rs.length) (hz : rs.length ≤ sizeLine) (rise : as.Pairwise (· < ·)) (above : ∀ a ∈ as, S < a) (hacc : acc.toList = as.map Value.ref)
    (hp : ∀ (j : Nat) (a : Addr) (r : V × V), as[j]? = some a → rs[j]? = some r → ∃ u v, RelV r.1 u ∧ RelV r.2 v ∧ IsPair h' a u v) :
    ∃ H2 : Hp, H S = none ∧ Gr H H2 ∧ H2 S = some (.lst (as.map V.ref)) ∧ PrV X.K H2 (as.map V.ref) rs ∧ Inv X pins σ H2 { s with heap := h', toks := tk } := by
  have memL : ∀ {p}, p ∈ zpL as rs → ∃ (j : Nat) (a : Addr) (r : V × V), p = (a, [r.1, r.2]) ∧ as[j]? = some a ∧ rs[j]? = some r := fun {p} hp => by
    obtain ⟨q, hq, e⟩ := List.mem_map.mp hp
    obtain ⟨j, ej⟩ := List.mem_iff_getElem?.mp hq
    obtain ⟨e1, e2⟩ := List.getElem?_zip_eq_some.mp ej
    exact ⟨j, q.1, q.2, e.symm, e1, e2⟩
  have inL : ∀ {j : Nat} {a : Addr} {r : V × V}, as[j]? = some a → rs[j]? = some r → (a, [r.1, r.2]) ∈ zpL as rs := fun {j a r} e1 e2 =>
    List.mem_map.mpr ⟨(a, r), List.mem_iff_getElem?.mpr ⟨j, List.getElem?_zip_eq_some.mpr ⟨e1, e2⟩⟩, rfl⟩
  have freshL : ∀ p ∈ zpL as rs, s.heap.objs.size ≤ p.1 ∧ p.1 ≠ S := fun p h => by
    obtain ⟨j, a, r, rfl, e1, _⟩ := memL h
    have := above a (List.mem_of_getElem? e1)
    exact ⟨Nat.le_of_lt (Nat.lt_of_le_of_lt hS0 this), Nat.ne_of_gt this⟩
  have hdist : ∀ p ∈ zpL as rs, ∀ q ∈ zpL as rs, p.1 = q.1 → p = q := fun p h q h2 e => by
    obtain ⟨j, a, r, rfl, e1, e2⟩ := memL h
    obtain ⟨j2, a2, r2, rfl, e3, e4⟩ := memL h2
    have e5 : a = a2 := e
    subst e5
    obtain ⟨l1, e1⟩ := List.getElem?_eq_some_iff.mp e1
    obtain ⟨l2, e3⟩ := List.getElem?_eq_some_iff.mp e3
    have this : j = j2 := by
      rcases Nat.lt_trichotomy j j2 with c1 | c1 | c1
      · have := List.pairwise_iff_getElem.mp rise j j2 l1 l2 c1
        rw [e1, e3] at this
        exact absurd this (Nat.lt_irrefl _)
      · exact c1
      · have := List.pairwise_iff_getElem.mp rise j2 j l2 l1 c1
        rw [e1, e3] at this
        exact absurd this (Nat.lt_irrefl _)
    subst this
    rw [e2] at e4
    cases e4
    rfl
  have newL : ∀ p ∈ zpL as rs, H p.1 = none := fun p h => I.hok.fresh (freshL p h).1
  have newS : H S = none := I.hok.fresh hS0
  have low : ∀ b o, s.heap.get? b = some o → (∀ p ∈ zpL as rs, p.1 ≠ b) ∧ b ≠ S := fun b o e => ⟨fun p h z => absurd (Heap.lt_size e) (Nat.not_lt.mpr (z ▸ (freshL p h).1)), fun z => absurd (Heap.lt_size e) (Nat.not_lt.mpr (z ▸ hS0))⟩
  have off : ∀ b, (∀ p ∈ zpL as rs, p.1 ≠ b) → b ≠ S → upd (TG.adds (zpL as rs) H) S (.lst (as.map V.ref)) b = H b := fun b h1 h2 => by rw [upd_ne h2, TG.adds_out h1]
  have kp : ∀ b u, H b = some u → upd (TG.adds (zpL as rs) H) S (.lst (as.map V.ref)) b = some u := fun b u e => by
    rw [off b (fun p h z => by have := newL p h; rw [z, e] at this; cases this) (fun z => by rw [z, newS] at e; cases e)]
    exact e
  have atL : ∀ p ∈ zpL as rs, upd (TG.adds (zpL as rs) H) S (.lst (as.map V.ref)) p.1 = some (.tup p.2) := fun p h => by rw [upd_ne (freshL p h).2, TG.adds_at hdist h]
  refine ⟨upd (TG.adds (zpL as rs) H) S (.lst (as.map V.ref)), newS, ⟨fun b o e _ => kp b o e, fun b t => ?_, fun b o e => ⟨o, kp b o e⟩⟩, upd_same, TG.prv_of hl (fun j p r e1 e2 => atL _ (inL e1 e2)), ?_⟩
  · obtain ⟨ps, e, z⟩ := t
    exact ⟨ps, kp b _ e, z⟩
  · refine I.call' (ch := []) rfl ⟨fun b o q _ _ _ => k b o q, fun b o q _ _ _ => ⟨o.slots, k b o q⟩, fun b o q n _ => ?_, fun b o q _ => ⟨o, k b o q⟩, fun b xs q => kp b _ q, fun b o u q => kp b _ q, fun b ps q => ⟨#[], by rw [kp b _ q]; simp⟩⟩ (fun b u q => ?_) I.bare fun b z => by simp at z
    · obtain ⟨z1, z2⟩ := low b o q
      rw [off b z1 z2]
      exact n
    · by_cases hb2 : b = S
      · rw [hb2] at q ⊢
        rw [upd_same] at q
        cases q
        refine ⟨by rw [List.length_map]; omega, acc.toList, c, by rw [hacc]; exact LiI.vals_refs as, ?_⟩
        rw [Array.toArray_toList]
        exact hS
      · by_cases hb : ∀ p ∈ zpL as rs, p.1 ≠ b
        · rw [off b hb hb2] at q
          exact (I.hok b u q).stay (fun d v _ y => k d v y) (fun d y => kp d _ y) fun d xs y => kp d _ y
        · obtain ⟨p, hp'⟩ := Classical.not_forall.mp hb
          obtain ⟨hmem, hb⟩ := Classical.not_imp.mp hp'
          have hb := Classical.not_not.mp hb
          subst hb
          rw [atL p hmem] at q
          cases q
          obtain ⟨j, a, r, rfl, e1, e2⟩ := memL hmem
          obtain ⟨u, v, r1, r2, e3⟩ := hp j a r e1 e2
          exact ⟨by show 2 ≤ sizeLine; decide, [u, v], .cons r1 (.cons r2 .nil), ⟨_, e3, rfl, _, rfl⟩⟩
end
def tListZip (K : PySem.W.Frag) (t : TA) : TE := fun σ H Q => t σ H fun vs H1 => ∃ (a b : Addr) (xs ys : List V), vs = [.ref a, .ref b] ∧ SqL K H1 a xs ∧ SqL K H1 b ys ∧ xs.length = ys.length ∧
  ∀ (p : Addr) (us : List V) (H2 : Hp), H1 p = none → Gr H1 H2 → H2 p = some (.lst us) → PrV K H2 us (xs.zip ys) → Q (.ref p) H2
section
variable {X : Cx} {e e2 : Expr} {t : TA} {p p2 q pos : Pos}
theorem pe_listZip (hc : X.calm = true) (hg : Gl X "list") (hm : X.mg "list" = none) (hv : bootBuiltins "list" = some (.type "list")) (hg2 : Gl X "zip") (hm2 : X.mg "zip" = none) (ha : L2.PA X [e, e2] t)
    (hs : starEach [.Call (.Name "zip" p2) [e, e2] [] q] X.env = (false, eval (.Call (.Name "zip" p2) [e, e2] [] q) X.env) :: starEach [] X.env := by rfl)
    (hs2 : starEach [e, e2] X.env = (false, eval e X.env) :: starEach [e2] X.env := by rfl) (hpl : (backTo q (starEach [e2] X.env)).any (·.1) = false := by rfl) :
    PE X (.Call (.Name "list" p) [.Call (.Name "zip" p2) [e, e2] [] q] [] pos) (tListZip X.K t) := by
  refine ⟨fun pins s σ H Q I hq => ?_⟩
  refine wpAny_Call_Name_kw (ld_blt I hg hm hv ?_)
  refine PyProof.Rows.callWith_type1 ?_ hs rfl
  rw [hs]
  show wpAny _ _ (spliced ((false, eval (.Call (.Name "zip" p2) [e, e2] [] q) X.env) :: backTo pos (starEach [] X.env))) _ _ s
  refine Calls.spliced_cons ?_
  refine Call_ (ld_blt I hg2 hm2 PyProof.Rows.boot_zip (PyProof.Rows.callWith_type1 (thn (ha.run q pins s σ H _ I hq) fun us s1 ⟨vs, H1, I1, r1, q1⟩ => ?_) hs2 hpl))
  obtain ⟨a, b, xs, ys, ex, hqx, hqy, hxy, q1⟩ := q1
  subst ex
  obtain ⟨u1, u2, rfl, ra, rb⟩ := vals2 r1
  cases ra
  cases rb
  obtain ⟨its, rv, k1, z1⟩ := I1.list hqx
  obtain ⟨its2, rv2, k2, z2⟩ := I1.list hqy
  have la : a < s1.heap.objs.size := k1.lt
  have lb : b < s1.heap.objs.size := k2.lt
  have n1 : its.toArray.size = xs.length := by rw [List.size_toArray]; exact rv.length.symm
  have n2 : its2.toArray.size = ys.length := by rw [List.size_toArray]; exact rv2.length.symm
  refine call_zip_2 k1.isList k2.isList fun h' hz hTI hTO h1 h2 hsz hk => ?_
  refine Calls.spliced_nil ?_
  have hh := I1.ok.hd hc
  have hle : xs.length ≤ sizeLine := z1
  refine zl_call (s := { s1 with heap := h' }) (xs := its.toArray) (ys := its2.toArray) hh (PySem.W.ktu_apart s1.heap.objs.size a b la lb) ?low (by rw [n1]; exact hle) (by rw [n1, n2]; exact hxy) hz hTI ⟨_, _, hTO⟩ h1 h2
    (let ⟨o, ho, r⟩ := k1.isList; ⟨o, hk _ o ho, r⟩) (let ⟨o, ho, r⟩ := k2.isList; ⟨o, hk _ o ho, r⟩) fun h3 tk acc c as kk hS hl hG hacc => ?_
  case low =>
    dsimp only
    rw [hsz]
    have la' : (a : Nat) < s1.heap.objs.size := la
    have lb' : (b : Nat) < s1.heap.objs.size := lb
    exact ⟨Nat.lt_succ_self _, Nat.add_lt_add_left (by decide) _, Nat.add_lt_add_left (by decide) _, Nat.lt_add_of_pos_right (by decide), Nat.add_lt_add_left (by decide) _, Nat.lt_of_lt_of_le la' (Nat.le_add_right _ _), Nat.lt_of_lt_of_le lb' (Nat.le_add_right _ _)⟩
  dsimp only at kk hS hG ⊢
  have keep : ∀ b o, s1.heap.get? b = some o → h3.get? b = some o := fun b o e => by
    have l : b < s1.heap.objs.size := Heap.lt_size e
    have ne : ∀ d, b ≠ s1.heap.objs.size + d := fun d => Nat.ne_of_lt (Nat.lt_of_lt_of_le l (Nat.le_add_right _ _))
    exact kk b o (ne 4) (ne 3) (ne 0) (ne 1) (hk b o e)
  have lz : (xs.zip ys).length = xs.length := by rw [List.length_zip, hxy, Nat.min_self]
  obtain ⟨H2, g1, g2, g3, g4, J⟩ := zip_laid (tk := tk) (rs := xs.zip ys) I1 keep (by rw [hsz]; exact Nat.le_add_right _ _) hS (by rw [hl, n1, lz]) (by rw [lz]; exact hle) hG.rise hG.above hacc (fun j a' r e1 e2 => by
    obtain ⟨u, v, f1, f2, f3⟩ := hG.pairs j a' e1
    obtain ⟨g1, g2⟩ := List.getElem?_zip_eq_some.mp e2
    obtain ⟨u', f1', ru⟩ := rv.get g1
    obtain ⟨v', f2', rw'⟩ := rv2.get g2
    have c1 : its[j]? = some u := by simpa using f1
    have c2 : its2[j]? = some v := by simpa using f2
    rw [f1'] at c1
    rw [f2'] at c2
    cases c1
    cases c2
    exact ⟨u, v, ru, rw', f3⟩)
  exact ⟨.ref h'.objs.size, H2, J, rfl, q1 _ _ H2 g1 g2 g3 g4⟩
end
theorem st_listZip {K : PySem.W.Frag} {t : TA} {σ : L2.St} {H : Hp} {Q : VK} (h : t σ H fun vs H1 => ∃ (a b : Addr) (xs ys : List V), vs = [.ref a, .ref b] ∧ SqL K H1 a xs ∧ SqL K H1 b ys ∧ xs.length = ys.length ∧
  ∀ (p : Addr) (us : List V) (H2 : Hp), H1 p = none → Gr H1 H2 → H2 p = some (.lst us) → PrV K H2 us (xs.zip ys) → Q (.ref p) H2) : tListZip K t σ H Q := h
end ZL
namespace My
open PySem PySem.Spec PyProof.Rows L2
/-! ### heaps in which named places change -/
/-- what never changes by a deed of the program at things that stand already -/
def FixO : HO → Prop
  | .ins _ _ _ => False
  | .dK _ => False
  | .tbl _ => False
  | .own _ => False
  | _ => True
structure Gx (F : Addr → Prop) (H H' : Hp) : Prop where
  fix : ∀ b o, H b = some o → FixO o → H' b = some o
  keep : ∀ b o, H b = some o → ¬ F b → (∀ ps, o ≠ HO.tbl ps) → H' b = some o
  tab : ∀ b, GxR.TabG H b → GxR.TabG H' b
  there : ∀ b o, H b = some o → ∃ o', H' b = some o'
section
variable {F F' : Addr → Prop} {H H1 H2 : Hp}
theorem Gx.of (g : Gr H H1) : Gx F H H1 := ⟨fun b o e f => g.keep b o e (fun ps z => by rw [z] at f; exact f), fun b o e _ n => g.keep b o e n, g.tab, g.there⟩
theorem Gx.refl (H : Hp) : Gx F H H := Gx.of (Gr.refl H)
theorem Gx.trans (a : Gx F H H1) (b : Gx F H1 H2) : Gx F H H2 := ⟨fun c o e f => b.fix c o (a.fix c o e f) f, fun c o e nf n => b.keep c o (a.keep c o e nf n) nf n, fun c t => b.tab c (a.tab c t), fun c o e => by
  obtain ⟨o1, e1⟩ := a.there c o e
  exact b.there c o1 e1⟩
theorem Gx.mono (a : Gx F H H1) (h : ∀ b, F b → F' b) : Gx F' H H1 := ⟨a.fix, fun b o e nf n => a.keep b o e (fun z => nf (h b z)) n, a.tab, a.there⟩
theorem Gx.then (a : Gx F H H1) (g : Gr H1 H2) : Gx F H H2 := a.trans (Gx.of g)
/-- a change at a named place -/
theorem Gx.put (a : Gx F H H1) {p : Addr} {o o' : HO} (hp : F p) (e : H1 p = some o) (nf : ¬ FixO o) (nt : ∀ ps, o ≠ .tbl ps) : Gx F H (upd H1 p o') := by
  refine ⟨fun b u eb f => ?_, fun b u eb q n => ?_, fun b t => ?_, fun b u eb => ?_⟩
  · have := a.fix b u eb f
    rw [upd_ne fun z => by rw [z, e] at this; cases this; exact nf f]
    exact this
  · rw [upd_ne fun z => q (by rw [z]; exact hp)]
    exact a.keep b u eb q n
  · obtain ⟨ps, e1, z1⟩ := a.tab b t
    exact ⟨ps, by rw [upd_ne fun z => by rw [z, e] at e1; exact nt ps (Option.some.inj e1)]; exact e1, z1⟩
  · by_cases q : b = p
    · rw [q]; exact ⟨o', upd_same⟩
    · rw [upd_ne q]; exact a.there b u eb
/-- a change at a place that the elder heap doesn't know -/
theorem Gx.mut (a : Gx F H H1) {p : Addr} {o : HO} (h : H p = none) : Gx F H (upd H1 p o) :=
  ⟨fun b u e f => by rw [upd_ne (ne_of_none e h)]; exact a.fix b u e f, fun b u e q n => by rw [upd_ne (ne_of_none e h)]; exact a.keep b u e q n,
   fun b t => by
    have t2 := t
    obtain ⟨ps, e, _⟩ := t
    obtain ⟨ps', e', z'⟩ := a.tab b t2
    exact ⟨ps', by rw [upd_ne (ne_of_none e h)]; exact e', z'⟩,
   fun b u e => by
    rw [upd_ne (ne_of_none e h)]
    exact a.there b u e⟩
theorem Gx.free {p : Addr} (g : Gx F H H1) (h : H1 p = none) : H p = none := by
  cases e : H p with
  | none => rfl
  | some o =>
    obtain ⟨o', e'⟩ := g.there p o e
    rw [e'] at h
    cases h
theorem Gx.lst {a : Addr} {xs : List V} (g : Gx F H H1) (h : H a = some (.lst xs)) : H1 a = some (.lst xs) := g.fix _ _ h True.intro
theorem Gx.tup {a : Addr} {xs : List V} (g : Gx F H H1) (h : H a = some (.tup xs)) : H1 a = some (.tup xs) := g.fix _ _ h True.intro
theorem Gx.l {K : PySem.W.Frag} {a : Addr} {xs : List V} (g : Gx F H H1) (h : SqL K H a xs) : SqL K H1 a xs := by
  rcases h with (h | ⟨o, h⟩) | h
  · exact .inl (.inl (g.fix _ _ h True.intro))
  · exact .inl (.inr ⟨o, g.fix _ _ h True.intro⟩)
  · exact .inr h
theorem Gx.t {K : PySem.W.Frag} {a : Addr} {xs : List V} (g : Gx F H H1) (h : SqT K H a xs) : SqT K H1 a xs := by
  rcases h with (h | ⟨o, h⟩) | h
  · exact .inl (.inl (g.fix _ _ h True.intro))
  · exact .inl (.inr ⟨o, g.fix _ _ h True.intro⟩)
  · exact .inr h
theorem Gx.q {K : PySem.W.Frag} {a : Addr} {xs : List V} (g : Gx F H H1) (h : SqQ K H a xs) : SqQ K H1 a xs := h.imp (fun z => g.l z) fun z => g.t z
theorem Prs.gx {K : PySem.W.Frag} (g : Gx F H H1) {vs : List V} {rs : Rw} (h : Prs K H vs rs) : Prs K H1 vs rs := h.imp fun _ _ => g.t
end
theorem PrV.imp {K : PySem.W.Frag} {H H' : Hp} (g : ∀ p xs, SqT K H p xs → SqT K H' p xs) : ∀ {vs : List V} {rs : List (V × V)}, PrV K H vs rs → PrV K H' vs rs
  | _, _, .nil => .nil
  | _, _, .cons a r => .cons (g _ _ a) (r.imp g)
theorem PrV.gr {K : PySem.W.Frag} {H H' : Hp} (g : Gr H H') {vs : List V} {rs : List (V × V)} (h : PrV K H vs rs) : PrV K H' vs rs := h.imp fun _ _ => g.t
theorem PrV.gx {K : PySem.W.Frag} {F : Addr → Prop} {H H' : Hp} (g : Gx F H H') {vs : List V} {rs : List (V × V)} (h : PrV K H vs rs) : PrV K H' vs rs := h.imp fun _ _ => g.t
theorem PrV.at {K : PySem.W.Frag} {H : Hp} : ∀ {vs : List V} {rs : List (V × V)} {i : Nat} {r : V × V}, PrV K H vs rs → rs[i]? = some r → ∃ p, vs[i]? = some (.ref p) ∧ SqT K H p [r.1, r.2]
  | _, _, i, r, .nil, h => by simp at h
  | _, _, 0, r, .cons (x := x) (y := y) a _, h => by
    have e : (x, y) = r := by simpa using h
    subst e
    exact ⟨_, rfl, a⟩
  | _, _, i + 1, r, .cons _ q, h => q.at (by simpa using h)
def rwV (r : Str × Int) : V × V := (.str r.1, .int r.2)
theorem PrV.rw {K : PySem.W.Frag} {H : Hp} : ∀ {vs : List V} {rs : Rw}, PrV K H vs (rs.map rwV) → Prs K H vs rs
  | _, [], h => by cases h; exact .nil
  | _, (n, b) :: rs, h => by
    cases h with
    | cons a r => exact .cons a (PrV.rw r)
theorem Prs.pv {K : PySem.W.Frag} {H : Hp} : ∀ {vs : List V} {rs : Rw}, Prs K H vs rs → PrV K H vs (rs.map rwV)
  | _, _, .nil => .nil
  | _, _, .cons a r => .cons a r.pv
/-! ### one step: fields, methods, while -/
section
variable {K : PySem.W.Frag} {σ : L2.St} {H : Hp} {Q : VK} {v x y : V} {ta tv te : TE} {f : Str} {rt : VK} {n b c : L2.St → Hp → Prop}
theorem st_fld (h : ta σ H fun x H1 => ∃ a C dx fs v, x = .ref a ∧ H1 a = some (.ins C dx fs) ∧ Cls K C ∧ NoAttr K C f ∧ fs.lookup f = some v ∧ Q v H1) : tFld K ta f σ H Q := h
theorem lf_fld {a C dx : Addr} {fs : List (Str × V)} {P : V → Prop} (e : H a = some (.ins C dx fs)) (cl : Cls K C) (na : NoAttr K C f) (l : fs.lookup f = some v) (q : P v) :
    ∃ a' C' dx' fs' v', V.ref a = .ref a' ∧ H a' = some (.ins C' dx' fs') ∧ Cls K C' ∧ NoAttr K C' f ∧ fs'.lookup f = some v' ∧ P v' := ⟨a, C, dx, fs, v, rfl, e, cl, na, l, q⟩
theorem st_putFld (h : tv σ H fun y H1 => ta σ H1 fun x H2 => ∃ a C dx fs, x = .ref a ∧ H2 a = some (.ins C dx fs) ∧ Cls K C ∧ NoAttr K C f ∧ fs.length < 1000 ∧ n σ (upd H2 a (.ins C dx (putF f y fs)))) : sFld K ta tv f ⟨n, rt, b, c⟩ σ H := h
theorem lf_putFld {a C dx : Addr} {fs : List (Str × V)} {P : Hp → Prop} (e : H a = some (.ins C dx fs)) (cl : Cls K C) (na : NoAttr K C f) (l : fs.length < 1000) (q : P (upd H a (.ins C dx (putF f y fs)))) :
    ∃ a' C' dx' fs', V.ref a = .ref a' ∧ H a' = some (.ins C' dx' fs') ∧ Cls K C' ∧ NoAttr K C' f ∧ fs'.length < 1000 ∧ P (upd H a' (.ins C' dx' (putF f y fs'))) := ⟨a, C, dx, fs, rfl, e, cl, na, l, q⟩
theorem st_fldAug {rd : V → V → Hp → VK → Prop} (h : ta σ H fun x H1 => ∃ a C dx fs v, x = .ref a ∧ H1 a = some (.ins C dx fs) ∧ Cls K C ∧ NoAttr K C f ∧ fs.lookup f = some v ∧
  tv σ H1 fun y H2 => rd v y H2 fun z H3 => ∃ dx' fs', H3 a = some (.ins C dx' fs') ∧ fs'.length < 1000 ∧ n σ (upd H3 a (.ins C dx' (putF f z fs')))) : sFldAug K ta tv rd f ⟨n, rt, b, c⟩ σ H := h
theorem st_meth {C : Addr} {m : Str} {sp : Sp} {E : XK} {t : TA} (h : ta σ H fun x H1 => ∃ a dx fs, x = .ref a ∧ H1 a = some (.ins C dx fs) ∧ fs.lookup m = none ∧ t σ H1 fun vs H2 => sp (x :: vs) H2 Q E) : tMeth C m sp [] E ta t σ H Q := by
  have e : (fun (x : V) (H1 : Hp) => ∃ a dx fs, x = .ref a ∧ H1 a = some (.ins C dx fs) ∧ fs.lookup m = none ∧ t σ H1 fun vs H2 => sp (x :: (vs ++ [])) H2 Q E) = fun x H1 => ∃ a dx fs, x = .ref a ∧ H1 a = some (.ins C dx fs) ∧ fs.lookup m = none ∧ t σ H1 fun vs H2 => sp (x :: vs) H2 Q E := by
    funext x H1
    simp only [List.append_nil]
  show ta σ H fun x H1 => ∃ a dx fs, x = .ref a ∧ H1 a = some (.ins C dx fs) ∧ fs.lookup m = none ∧ t σ H1 fun vs H2 => sp (x :: (vs ++ [])) H2 Q E
  rw [e]
  exact h
theorem lf_meth {a C dx : Addr} {m : Str} {fs : List (Str × V)} {P : Prop} (e : H a = some (.ins C dx fs)) (l : fs.lookup m = none) (q : P) : ∃ a' dx' fs', V.ref a = .ref a' ∧ H a' = some (.ins C dx' fs') ∧ fs'.lookup m = none ∧ P := ⟨a, dx, fs, rfl, e, l, q⟩
theorem st_whileN {cc : TT} {tb : TS} (Pv : Nat → L2.St → Hp → Prop) (m : Nat) (h0 : Pv m σ H)
    (hs : ∀ m σ H, Pv m σ H → cc σ H fun k H1 => if k = true then tb ⟨fun σ' H' => ∃ m', m' < m ∧ Pv m' σ' H', rt, n, fun σ' H' => ∃ m', m' < m ∧ Pv m' σ' H'⟩ σ H1 else n σ H1)
    (mono : ∀ σ H Q Q', (∀ b H1, Q b H1 → Q' b H1) → cc σ H Q → cc σ H Q') : tWhile cc tb ⟨n, rt, b, c⟩ σ H := by
  refine ⟨Pv, ⟨m, h0⟩, fun m σ H p => mono σ H _ _ (fun k H1 q => ?_) (hs m σ H p)⟩
  cases k with
  | true => exact ⟨_, fun _ _ h => h, q⟩
  | false => exact q
end
/-- a method of an own class -/
structure Mf (P : Program) (w : World) (K : PySem.W.Frag) (mg : Str → Option Value) (base : Heap) (k : Nat) (C : Addr) (m : Str) (ps : List Str) (sp : Sp) : Prop where
  ex : ∃ (f : Addr) (fd : FuncData), FnOk P w K mg base (L2N.CX P w) k f fd ps sp ∧ Meth K C m f ∧ Binds K fd ps []
structure Mi (P : Program) (w : World) (K : PySem.W.Frag) (mg : Str → Option Value) (base : Heap) (k : Nat) (C : Addr) (x : Str) (ps : List Str) (sp : Sp) : Prop where
  ex : ∃ (f : Addr) (fd : FuncData), FnOk P w K mg base (L2N.CX P w) k f fd ps sp ∧ Mk K C f ∧ mg x = some (.ref C) ∧ Binds K fd ps []
section
variable {X : Cx} {k : Nat} {C : Addr} {ps : List Str} {x m : Str} {sp : Sp} {p pos apos : Pos} {o e : Expr} {es : List Expr} {t : TA} {ta : TE} {E : XK} {pl : Sem Bool}
theorem pe_mm (ho : PE X o ta) (cl : Cls X.K C) (c : Mf X.prog X.w X.K X.mg X.base k C m ps sp) (hr : Room k X.A) (ha : PA X (e :: es) t)
    (hst : starEach (e :: es) X.env = (false, eval e X.env) :: starEach es X.env := by rfl) (hpl : (backTo pos (starEach es X.env)).any (·.1) = false := by rfl)
    (ht : eval (.Call (.Attribute o m apos) (e :: es) [] pos) X.env = (do
      let ov ← eval o X.env
      standAt apos.atName
      let (f, first) ← holding [ov] (getMethod ov m pl)
      callWith pos f first (backTo pos (starEach (e :: es) X.env)) (backToKw pos (keywordEach [] X.env))) := by rfl) : PE X (.Call (.Attribute o m apos) (e :: es) [] pos) (tMeth C m sp [] E0 ta t) := by
  obtain ⟨f, fd, F, hm, b⟩ := c.ex
  exact pe_meth (pl := pl) ho cl hm F hr b .nil passLN ha hst hpl ht
theorem pe_mm0 (ho : PE X o ta) (cl : Cls X.K C) (c : Mf X.prog X.w X.K X.mg X.base k C m ps sp) (hr : Room k X.A)
    (ht : eval (.Call (.Attribute o m apos) [] [] pos) X.env = (do
      let ov ← eval o X.env
      standAt apos.atName
      let (f, first) ← holding [ov] (getMethod ov m pl)
      callWith pos f first (backTo pos (starEach [] X.env)) (backToKw pos (keywordEach [] X.env))) := by rfl) : PE X (.Call (.Attribute o m apos) [] [] pos) (tMeth C m sp [] E0 ta tNil) := by
  obtain ⟨f, fd, F, hm, b⟩ := c.ex
  exact pe_meth0 (pl := pl) ho cl hm F hr b .nil passLN ht
theorem pe_mmE (ho : PE X o ta) (cl : Cls X.K C) (c : Mf X.prog X.w X.K X.mg X.base k C m ps sp) (hr : Room k X.A) (tk : L2N.Takes X (fun cls d _ H => E cls d H)) (ha : PA X (e :: es) t)
    (hst : starEach (e :: es) X.env = (false, eval e X.env) :: starEach es X.env := by rfl) (hpl : (backTo pos (starEach es X.env)).any (·.1) = false := by rfl)
    (ht : eval (.Call (.Attribute o m apos) (e :: es) [] pos) X.env = (do
      let ov ← eval o X.env
      standAt apos.atName
      let (f, first) ← holding [ov] (getMethod ov m pl)
      callWith pos f first (backTo pos (starEach (e :: es) X.env)) (backToKw pos (keywordEach [] X.env))) := by rfl) : PE X (.Call (.Attribute o m apos) (e :: es) [] pos) (tMeth C m sp [] E ta t) := by
  obtain ⟨f, fd, F, hm, b⟩ := c.ex
  exact pe_meth (pl := pl) ho cl hm F hr b .nil (L2N.passes_call tk fun _ _ _ _ h => h) ha hst hpl ht
theorem pe_mk0 (c : Mi X.prog X.w X.K X.mg X.base k C x ps sp) (hr : Room (k + 1) X.A) (hg : Gl X x) (hdb : (x == ("__debug__" : Str)) = false := by decide) : PE X (.Call (.Name x p) [] [] pos) (tMake C sp [] E0 tNil) := by
  obtain ⟨f, fd, F, hm, e, b⟩ := c.ex
  exact pe_make0 hm F hr hg e b .nil passLN hdb
end
end My
namespace My
open PySem PySem.Spec PyProof.Rows L2
/-! ### the pile, as it is told: what is in a box and how many hold it -/
inductive Bx
  | leaf (n : Int)
  | branch (rs : Rw)
def Bx.rows : Bx → Rw
  | .leaf _ => []
  | .branch rs => rs
structure PS where
  made : Nat
  box : Int → Option (Bx × Nat)
structure PS.Ok (S : PS) : Prop where
  dom : ∀ z x, S.box z = some x → 1 ≤ z ∧ z ≤ S.made
  len : ∀ z x, S.box z = some x → x.1.rows.length ≤ 5000
  big : S.made ≤ 3000
def PS.empty : PS := ⟨0, fun _ => none⟩
def PS.new (S : PS) (b : Bx) : PS := ⟨S.made + 1, fun z => if z = (S.made : Int) + 1 then some (b, 0) else S.box z⟩
def PS.hold (S : PS) (z : Int) : PS := ⟨S.made, fun y => if y = z then (S.box y).map (fun x => (x.1, x.2 + 1)) else S.box y⟩
def PS.holds (S : PS) (zs : List Int) : PS := zs.foldl PS.hold S
def PS.lower (S : PS) (z : Int) : PS := ⟨S.made, fun y => if y = z then (S.box y).map (fun x => (x.1, x.2 - 1)) else S.box y⟩
def PS.drop (S : PS) (z : Int) : PS := ⟨S.made, fun y => if y = z then none else S.box y⟩
/-- a box that is let go: the pile, what it lets go itself, how many are gone -/
def PS.step (S : PS) (z : Int) : PS × List Int × Nat := match S.box z with
  | none => (S, [], 0)
  | some (b, c) => if c - 1 = 0 then (S.drop z, b.rows.map (·.2), 1) else (S.lower z, [], 0)
/-- the boxes that wait: the last one first -/
def PS.run : Nat → PS → List Int → Nat → PS × Nat
  | 0, S, _, g => (S, g)
  | _ + 1, S, [], g => (S, g)
  | n + 1, S, z :: w, g => PS.run n (S.step z).1 ((S.step z).2.1.reverse ++ w) (g + (S.step z).2.2)
def rowsAt (S : PS) (i : Nat) : Nat := match S.box ((i : Int) + 1) with
  | some x => x.1.rows.length
  | none => 0
def PS.size (S : PS) : Nat := ((List.range S.made).map (rowsAt S)).sum
def PS.letGo (S : PS) (z : Int) : PS × Nat := PS.run (S.size + 1) S [z] 0
theorem sum_upd (f g : Nat → Nat) (k : Nat) : ∀ n, k < n → (∀ i, i ≠ k → g i = f i) → g k = 0 → ((List.range n).map g).sum + f k = ((List.range n).map f).sum
  | 0, h, _, _ => absurd h (Nat.not_lt_zero _)
  | n + 1, h, h1, h2 => by
    rw [List.range_succ, List.map_append, List.map_append, List.sum_append, List.sum_append]
    simp only [List.map_cons, List.map_nil, List.sum_cons, List.sum_nil, Nat.add_zero]
    by_cases e : k = n
    · subst e
      have : (List.range k).map g = (List.range k).map f := List.map_congr_left fun i hi => h1 i (by have := List.mem_range.mp hi; omega)
      rw [this, h2]
      omega
    · have ih := sum_upd f g k n (by omega) h1 h2
      rw [h1 n (fun z => e z.symm)]
      omega
theorem PS.Ok.new {S : PS} (h : S.Ok) {b : Bx} (hb : b.rows.length ≤ 5000) (hm : S.made ≤ 2900) : (S.new b).Ok := by
  refine ⟨fun z x e => ?_, fun z x e => ?_, by show S.made + 1 ≤ 3000; omega⟩
  · unfold PS.new at e ⊢
    dsimp only at e ⊢
    by_cases q : z = (S.made : Int) + 1
    · omega
    · rw [if_neg q] at e
      have := h.dom z x e
      omega
  · unfold PS.new at e
    dsimp only at e
    by_cases q : z = (S.made : Int) + 1
    · rw [if_pos q] at e
      cases e
      exact hb
    · rw [if_neg q] at e
      exact h.len z x e
theorem PS.Ok.hold {S : PS} (h : S.Ok) (z : Int) : (S.hold z).Ok := by
  have key : ∀ y x, (S.hold z).box y = some x → ∃ x', S.box y = some x' ∧ x'.1 = x.1 := fun y x e => by
    unfold PS.hold at e
    dsimp only at e
    by_cases q : y = z
    · rw [if_pos q] at e
      cases c : S.box y with
      | none => rw [c] at e; cases e
      | some v => rw [c] at e; cases e; exact ⟨v, rfl, rfl⟩
    · rw [if_neg q] at e
      exact ⟨x, e, rfl⟩
  refine ⟨fun y x e => ?_, fun y x e => ?_, h.big⟩
  · obtain ⟨x', e1, _⟩ := key y x e
    exact h.dom y x' e1
  · obtain ⟨x', e1, e2⟩ := key y x e
    rw [← e2]
    exact h.len y x' e1
theorem PS.Ok.lower {S : PS} (h : S.Ok) (z : Int) : (S.lower z).Ok := by
  have key : ∀ y x, (S.lower z).box y = some x → ∃ x', S.box y = some x' ∧ x'.1 = x.1 := fun y x e => by
    unfold PS.lower at e
    dsimp only at e
    by_cases q : y = z
    · rw [if_pos q] at e
      cases c : S.box y with
      | none => rw [c] at e; cases e
      | some v => rw [c] at e; cases e; exact ⟨v, rfl, rfl⟩
    · rw [if_neg q] at e
      exact ⟨x, e, rfl⟩
  refine ⟨fun y x e => ?_, fun y x e => ?_, h.big⟩
  · obtain ⟨x', e1, _⟩ := key y x e
    exact h.dom y x' e1
  · obtain ⟨x', e1, e2⟩ := key y x e
    rw [← e2]
    exact h.len y x' e1
theorem PS.Ok.drop {S : PS} (h : S.Ok) (z : Int) : (S.drop z).Ok := by
  have key : ∀ y x, (S.drop z).box y = some x → S.box y = some x := fun y x e => by
    unfold PS.drop at e
    dsimp only at e
    by_cases q : y = z
    · rw [if_pos q] at e; cases e
    · rw [if_neg q] at e; exact e
  exact ⟨fun y x e => h.dom y x (key y x e), fun y x e => h.len y x (key y x e), h.big⟩
theorem PS.Ok.holds {S : PS} (h : S.Ok) : ∀ zs : List Int, (S.holds zs).Ok := fun zs => by
  induction zs generalizing S with
  | nil => exact h
  | cons z zs ih => exact ih (h.hold z)
theorem PS.holds_made (S : PS) (zs : List Int) : (S.holds zs).made = S.made := by
  induction zs generalizing S with
  | nil => rfl
  | cons z zs ih => exact ih (S.hold z)
theorem PS.hold_some (S : PS) (z y : Int) : ((S.hold z).box y).isSome = (S.box y).isSome := by
  unfold PS.hold
  dsimp only
  by_cases q : y = z
  · rw [if_pos q]
    cases S.box y <;> rfl
  · rw [if_neg q]
theorem PS.holds_some (S : PS) (zs : List Int) (y : Int) : ((S.holds zs).box y).isSome = (S.box y).isSome := by
  induction zs generalizing S with
  | nil => rfl
  | cons z zs ih =>
    show ((PS.holds (S.hold z) zs).box y).isSome = _
    rw [ih, S.hold_some]
theorem PS.size_lower (S : PS) (z : Int) : (S.lower z).size = S.size := by
  unfold PS.size
  congr 1
  refine List.map_congr_left fun i _ => ?_
  unfold rowsAt PS.lower
  dsimp only
  by_cases q : (i : Int) + 1 = z
  · rw [if_pos q]
    cases S.box ((i : Int) + 1) <;> rfl
  · rw [if_neg q]
theorem PS.size_drop {S : PS} (h : S.Ok) {z : Int} {x : Bx × Nat} (e : S.box z = some x) : (S.drop z).size + x.1.rows.length = S.size := by
  obtain ⟨h1, h2⟩ := h.dom z x e
  have hz : ((z.toNat - 1 : Nat) : Int) + 1 = z := by omega
  have := sum_upd (rowsAt S) (rowsAt (S.drop z)) (z.toNat - 1) S.made (by omega) (fun i hi => ?_) ?_
  · have e2 : rowsAt S (z.toNat - 1) = x.1.rows.length := by
      unfold rowsAt
      rw [hz, e]
    rw [e2] at this
    exact this
  · unfold rowsAt PS.drop
    dsimp only
    rw [if_neg (by omega)]
  · unfold rowsAt PS.drop
    dsimp only
    rw [if_pos hz]
theorem PS.size_le {S : PS} (h : S.Ok) : S.size ≤ 15000000 := by
  have key : ∀ n, ((List.range n).map (rowsAt S)).sum ≤ n * 5000 := fun n => by
    induction n with
    | zero => exact Nat.le_refl _
    | succ n ih =>
      rw [List.range_succ, List.map_append, List.sum_append]
      have e : rowsAt S n ≤ 5000 := by
        unfold rowsAt
        cases e : S.box ((n : Int) + 1) with
        | none => exact Nat.zero_le _
        | some x => exact h.len _ _ e
      simp only [List.map_cons, List.map_nil, List.sum_cons, List.sum_nil]
      omega
  have h1 := key S.made
  have h2 := h.big
  unfold PS.size
  omega
theorem PS.drop_lower (S : PS) (z : Int) : (S.lower z).drop z = S.drop z := by
  unfold PS.lower PS.drop
  congr 1
  funext y
  dsimp only
  split <;> rfl
theorem PS.lower_at {S : PS} {z : Int} {b : Bx} {c : Nat} (e : S.box z = some (b, c)) : (S.lower z).box z = some (b, c - 1) := by
  unfold PS.lower
  dsimp only
  rw [if_pos rfl, e] <;> rfl
theorem PS.holds_snoc (S : PS) (zs : List Int) (z : Int) : S.holds (zs ++ [z]) = (S.holds zs).hold z := by
  unfold PS.holds
  rw [List.foldl_append] <;> rfl
/-- what is left to do -/
def PS.left (S : PS) (w : List Int) : Nat := w.length + S.size
theorem PS.step_left {S : PS} (h : S.Ok) (z : Int) (w : List Int) : (S.step z).1.left ((S.step z).2.1.reverse ++ w) + 1 = S.left (z :: w) ∧ (S.step z).1.Ok ∧ (S.step z).1.made = S.made := by
  unfold PS.step PS.left
  cases e : S.box z with
  | none => exact ⟨by simp only [List.reverse_nil, List.nil_append, List.length_cons]; omega, h, rfl⟩
  | some x =>
    obtain ⟨b, c⟩ := x
    dsimp only
    by_cases q : c - 1 = 0
    · rw [if_pos q]
      have := PS.size_drop h e
      refine ⟨?_, h.drop z, rfl⟩
      rw [List.length_append, List.length_reverse, List.length_map, List.length_cons]
      dsimp only at this ⊢
      omega
    · rw [if_neg q]
      refine ⟨?_, h.lower z, rfl⟩
      dsimp only
      rw [PS.size_lower, List.reverse_nil, List.nil_append, List.length_cons]
      omega
/-- the run doesn't hang on how much time is given, if it is enough -/
theorem PS.run_enough : ∀ (n : Nat) (S : PS) (w : List Int) (g : Nat), S.Ok → S.left w ≤ n → PS.run n S w g = PS.run (S.left w) S w g
  | 0, S, w, g, _, hl => by rw [Nat.le_zero.mp hl]
  | n + 1, S, [], g, _, _ => by
    show (S, g) = _
    cases S.left [] <;> rfl
  | n + 1, S, z :: w, g, h, hl => by
    obtain ⟨e, h2, _⟩ := PS.step_left h z w
    rw [← e]
    show PS.run n _ _ _ = PS.run _ _ _ _
    exact PS.run_enough n _ _ _ h2 (by omega)
theorem PS.run_cons {S : PS} (h : S.Ok) (z : Int) (w : List Int) (g : Nat) : PS.run (S.left (z :: w)) S (z :: w) g = PS.run ((S.step z).1.left ((S.step z).2.1.reverse ++ w)) (S.step z).1 ((S.step z).2.1.reverse ++ w) (g + (S.step z).2.2) := by
  obtain ⟨e, _, _⟩ := PS.step_left h z w
  rw [← e] <;> rfl
theorem PS.run_nil (S : PS) (n g : Nat) : PS.run n S [] g = (S, g) := by cases n <;> rfl
theorem PS.letGo_eq (S : PS) (z : Int) : S.letGo z = PS.run (S.left [z]) S [z] 0 := by
  unfold PS.letGo PS.left
  rw [List.length_singleton, Nat.add_comm]
theorem PS.run_ok : ∀ (n : Nat) (S : PS) (w : List Int) (g : Nat), S.Ok → (PS.run n S w g).1.Ok ∧ (PS.run n S w g).1.made = S.made
  | 0, S, w, g, h => ⟨h, rfl⟩
  | n + 1, S, [], g, h => ⟨h, rfl⟩
  | n + 1, S, z :: w, g, h => by
    obtain ⟨_, h2, h3⟩ := PS.step_left h z w
    obtain ⟨a, b⟩ := PS.run_ok n _ ((S.step z).2.1.reverse ++ w) (g + (S.step z).2.2) h2
    exact ⟨a, b.trans h3⟩
theorem PS.letGo_ok {S : PS} (h : S.Ok) (z : Int) : (S.letGo z).1.Ok ∧ (S.letGo z).1.made = S.made := PS.run_ok _ _ _ _ h
/-! ### the pile, as it stands in the heap -/
structure PA where
  p : Addr
  dx : Addr
  c : Addr
  n : Addr
  r : Addr
def PA.foot (A : PA) (b : Addr) : Prop := b = A.p ∨ b = A.c ∨ b = A.n ∨ b = A.r
def pfs (A : PA) (m : Int) : List (Str × V) := [("made", .int m), ("_counts", .ref A.c), ("_numbers", .ref A.n), ("_rows", .ref A.r)]
/-! ### tuples without a dict of their own -/
theorem GTm.sqT {K : PySem.W.Frag} {H : Hp} {t : Addr} {us : List V} (h : TG.GT H t us) : SqT K H t us := let ⟨o, _, e⟩ := h; .inl (.inr ⟨o, e⟩)
def Frz (H H' : Hp) : Prop := ∀ p o u, H p = some (.frz o u) → H' p = some (.frz o u)
theorem Frz.gt {H H' : Hp} (f : Frz H H') {t : Addr} {us : List V} (h : TG.GT H t us) : TG.GT H' t us := let ⟨o, n, e⟩ := h; ⟨o, n, f _ _ _ e⟩
theorem Frz.trans {H H' H2 : Hp} (f : Frz H H') (g : Frz H' H2) : Frz H H2 := fun p o u e => g p o u (f p o u e)
theorem Gr.frz {H H' : Hp} (g : Gr H H') : Frz H H' := fun p o u e => g.keep _ _ e (fun _ z => by cases z)
theorem Gx.frz {F : Addr → Prop} {H H' : Hp} (g : Gx F H H') : Frz H H' := fun p o u e => g.fix _ _ e True.intro
theorem frz_mut {H : Hp} {D : Addr} {o o' : HO} (e : H D = some o) (n : ∀ ob u, o ≠ .frz ob u) : Frz H (upd H D o') := fun p ob u h => by
  rw [upd_ne (ne_of h e fun z => n _ _ z.symm)]
  exact h
structure Dcts (K : PySem.W.Frag) (H : Hp) (S : PS) (kc kn kr : List (Key × V)) : Prop where
  ok : S.Ok
  vc : ∀ z : Int, valV kc (Sum.inl z) = (S.box z).map fun x => V.int x.2
  vn : ∀ z : Int, valV kn (Sum.inl z) = (S.box z).bind fun x => match x.1 with | .leaf n => some (V.int n) | .branch _ => none
  vr : ∀ z : Int, match S.box z with
    | some (.branch rs, _) => ∃ t us, valV kr (Sum.inl z) = some (.ref t) ∧ TG.GT H t us ∧ Prs K H us rs
    | _ => valV kr (Sum.inl z) = none
  ks : ∃ ks : List Int, kc.map (·.1) = ks.map Sum.inl ∧ ks.Nodup
  lc : kc.length ≤ S.made
  ln : kn.length ≤ S.made
  lr : kr.length ≤ S.made
structure PileAt (K : PySem.W.Frag) (C : Addr) (H : Hp) (A : PA) (S : PS) : Prop where
  ins : H A.p = some (.ins C A.dx (pfs A S.made))
  dcts : ∃ kc kn kr, H A.c = some (.dK kc) ∧ H A.n = some (.dK kn) ∧ H A.r = some (.dK kr) ∧ Dcts K H S kc kn kr
  ne : A.c ≠ A.n ∧ A.c ≠ A.r ∧ A.n ≠ A.r
theorem Dcts.move {K : PySem.W.Frag} {H H' : Hp} {S : PS} {kc kn kr : List (Key × V)} (d : Dcts K H S kc kn kr) (g : ∀ p xs, SqT K H p xs → SqT K H' p xs) (f : Frz H H') : Dcts K H' S kc kn kr :=
  ⟨d.ok, d.vc, d.vn, fun z => by
    have := d.vr z
    cases e : S.box z with
    | none => rw [e] at this; exact this
    | some x =>
      obtain ⟨b, c⟩ := x
      rw [e] at this
      cases b with
      | leaf n => exact this
      | branch rs =>
        obtain ⟨t, us, h1, h2, h3⟩ := this
        exact ⟨t, us, h1, f.gt h2, h3.imp g⟩, d.ks, d.lc, d.ln, d.lr⟩
theorem PileAt.gr {K : PySem.W.Frag} {C : Addr} {H H' : Hp} {A : PA} {S : PS} (h : PileAt K C H A S) (g : Gr H H') : PileAt K C H' A S := by
  obtain ⟨kc, kn, kr, e1, e2, e3, d⟩ := h.dcts
  exact ⟨g.keep _ _ h.ins (fun _ z => by cases z), ⟨kc, kn, kr, g.dK e1, g.dK e2, g.dK e3, d.move (fun _ _ => g.t) g.frz⟩, h.ne⟩
/-- what is done elsewhere leaves it as it is -/
theorem PileAt.gx {K : PySem.W.Frag} {C : Addr} {F : Addr → Prop} {H H' : Hp} {A : PA} {S : PS} (h : PileAt K C H A S) (g : Gx F H H') (hf : ∀ b, A.foot b → ¬ F b) : PileAt K C H' A S := by
  obtain ⟨kc, kn, kr, e1, e2, e3, d⟩ := h.dcts
  exact ⟨g.keep _ _ h.ins (hf _ (.inl rfl)) (fun _ z => by cases z), ⟨kc, kn, kr, g.keep _ _ e1 (hf _ (.inr (.inl rfl))) (fun _ z => by cases z), g.keep _ _ e2 (hf _ (.inr (.inr (.inl rfl)))) (fun _ z => by cases z), g.keep _ _ e3 (hf _ (.inr (.inr (.inr rfl)))) (fun _ z => by cases z), d.move (fun _ _ => g.t) g.frz⟩, h.ne⟩
theorem pfs_lk (A : PA) (m : Int) : (pfs A m).lookup ("made" : Str) = some (.int m) ∧ (pfs A m).lookup ("_counts" : Str) = some (.ref A.c) ∧ (pfs A m).lookup ("_numbers" : Str) = some (.ref A.n) ∧ (pfs A m).lookup ("_rows" : Str) = some (.ref A.r) := by
  have h1 : (("_counts" : Str) == "made") = false := by decide +kernel
  have h2 : (("_numbers" : Str) == "made") = false := by decide +kernel
  have h3 : (("_numbers" : Str) == "_counts") = false := by decide +kernel
  have h4 : (("_rows" : Str) == "made") = false := by decide +kernel
  have h5 : (("_rows" : Str) == "_counts") = false := by decide +kernel
  have h6 : (("_rows" : Str) == "_numbers") = false := by decide +kernel
  unfold pfs
  simp only [List.lookup, h1, h2, h3, h4, h5, h6, beq_self_eq_true, and_self]
theorem pfs_no (A : PA) (m : Int) {f : Str} (h1 : (f == ("made" : Str)) = false) (h2 : (f == ("_counts" : Str)) = false) (h3 : (f == ("_numbers" : Str)) = false) (h4 : (f == ("_rows" : Str)) = false) : (pfs A m).lookup f = none := by
  unfold pfs
  simp only [List.lookup, h1, h2, h3, h4]
theorem pfs_made (A : PA) (m k : Int) : putF "made" (.int k) (pfs A m) = pfs A k := by
  show (if ("made" : Str) = "made" then _ else _) = _
  rw [if_pos rfl] <;> rfl
/-! ### the dicts, changed -/
section
variable {κ : Type} [DecidableEq κ]
theorem valV_dropK (kvs : List (κ × V)) (k j : κ) : valV (dropK kvs k) j = if j = k then none else valV kvs j := by
  induction kvs with
  | nil => split <;> rfl
  | cons p r ih =>
    unfold dropK at ih ⊢
    rw [List.filter_cons]
    by_cases e : p.1 = k
    · rw [if_neg (by simp [e]), ih]
      by_cases q : j = k
      · rw [if_pos q, if_pos q]
      · rw [if_neg q, if_neg q, valV_neg fun z => q (z.symm.trans e)]
    · rw [if_pos (by simp [e])]
      by_cases q : p.1 = j
      · rw [valV_pos q, valV_pos q, if_neg fun z => e (q.trans z)]
      · rw [valV_neg q, valV_neg q, ih]
theorem putK_has {kvs : List (κ × V)} {k : κ} {v : V} (h : (valV kvs k).isSome = true) : putK kvs k v = kvs.map (fun kv => if kv.1 = k then (kv.1, v) else kv) := by
  unfold putK
  rw [valV_any, if_pos h]
theorem putK_has_len {kvs : List (κ × V)} {k : κ} {v : V} (h : (valV kvs k).isSome = true) : (putK kvs k v).length = kvs.length := by rw [putK_has h, List.length_map]
end
theorem keys_put {kc : List (Key × V)} {ks : List Int} (h : kc.map (·.1) = ks.map Sum.inl) (hn : ks.Nodup) (z : Int) (v : V) : ∃ ks' : List Int, (putK kc (Sum.inl z) v).map (·.1) = ks'.map Sum.inl ∧ ks'.Nodup := by
  cases e : valV kc (Sum.inl z) with
  | some u =>
    refine ⟨ks, ?_, hn⟩
    rw [putK_has (by rw [e] <;> rfl), List.map_map, ← h]
    refine List.map_congr_left fun p _ => ?_
    show (if p.1 = Sum.inl z then (p.1, v) else p).1 = p.1
    split <;> rfl
  | none =>
    refine ⟨ks ++ [z], by rw [putK_new v e, List.map_append, List.map_append, h] <;> rfl, List.nodup_append.mpr ⟨hn, List.nodup_cons.mpr ⟨by simp, List.nodup_nil⟩, fun a ha c hc q => ?_⟩⟩
    rw [List.mem_singleton.mp hc] at q
    rw [q] at ha
    have hm : (Sum.inl z : Key) ∈ kc.map (·.1) := by rw [h]; exact List.mem_map.mpr ⟨z, ha, rfl⟩
    obtain ⟨p, hp, ep⟩ := List.mem_map.mp hm
    have : (valV kc (Sum.inl z)).isSome = true := by
      rw [← valV_any, List.any_eq_true]
      exact ⟨p, hp, decide_eq_true ep⟩
    rw [e] at this
    cases this
theorem keys_drop {kc : List (Key × V)} {ks : List Int} (h : kc.map (·.1) = ks.map Sum.inl) (hn : ks.Nodup) (z : Int) : ∃ ks' : List Int, (dropK kc (Sum.inl z)).map (·.1) = ks'.map Sum.inl ∧ ks'.Nodup := by
  refine ⟨ks.filter fun k => decide (k ≠ z), ?_, hn.sublist List.filter_sublist⟩
  unfold dropK
  have e1 : (kc.filter fun kv => decide (kv.1 ≠ (Sum.inl z : Key))).map (·.1) = (kc.map (·.1)).filter fun k => decide (k ≠ (Sum.inl z : Key)) := by
    rw [List.filter_map] <;> rfl
  rw [e1, h, List.filter_map]
  congr 1
  refine List.filter_congr fun k _ => ?_
  show decide ((Sum.inl k : Key) ≠ Sum.inl z) = decide (k ≠ z)
  exact decide_eq_decide.mpr ⟨fun q w => q (by rw [w]), fun q w => q (Sum.inl.inj w)⟩
theorem mem_keys {kc : List (Key × V)} {ks : List Int} (h : kc.map (·.1) = ks.map Sum.inl) (z : Int) : z ∈ ks ↔ (valV kc (Sum.inl z)).isSome = true := by
  rw [← valV_any, List.any_eq_true]
  constructor
  · intro hm
    have : (Sum.inl z : Key) ∈ kc.map (·.1) := by rw [h]; exact List.mem_map.mpr ⟨z, hm, rfl⟩
    obtain ⟨p, hp, ep⟩ := List.mem_map.mp this
    exact ⟨p, hp, decide_eq_true ep⟩
  · rintro ⟨p, hp, ep⟩
    have : (Sum.inl z : Key) ∈ kc.map (·.1) := List.mem_map.mpr ⟨p, hp, of_decide_eq_true ep⟩
    rw [h] at this
    obtain ⟨y, hy, e⟩ := List.mem_map.mp this
    rw [← Sum.inl.inj e]
    exact hy
theorem inl_eq {a b : Int} : ((Sum.inl a : Key) = Sum.inl b) ↔ a = b := ⟨fun h => Sum.inl.inj h, fun h => by rw [h]⟩
section
variable {K : PySem.W.Frag} {H : Hp} {S : PS} {kc kn kr : List (Key × V)}
theorem Dcts.none_next (d : Dcts K H S kc kn kr) : S.box ((S.made : Int) + 1) = none := by
  cases e : S.box ((S.made : Int) + 1) with
  | none => rfl
  | some x =>
    have := d.ok.dom _ _ e
    omega
theorem Dcts.mkLeaf (d : Dcts K H S kc kn kr) (n : Int) (hm : S.made ≤ 2900) : Dcts K H (S.new (.leaf n)) (putK kc (Sum.inl ((S.made : Int) + 1)) (.int 0)) (putK kn (Sum.inl ((S.made : Int) + 1)) (.int n)) kr := by
  have h0 := d.none_next
  obtain ⟨ks, hk, hn⟩ := d.ks
  refine ⟨d.ok.new (Nat.zero_le _) hm, fun z => ?_, fun z => ?_, fun z => ?_, keys_put hk hn _ _, Nat.le_trans (length_putK _ _ _) (Nat.succ_le_succ d.lc), Nat.le_trans (length_putK _ _ _) (Nat.succ_le_succ d.ln), Nat.le_succ_of_le d.lr⟩
  · rw [valV_put]
    unfold PS.new
    dsimp only
    by_cases q : z = (S.made : Int) + 1
    · rw [if_pos (inl_eq.mpr q), if_pos q] <;> rfl
    · rw [if_neg fun w => q (inl_eq.mp w), if_neg q, d.vc]
  · rw [valV_put]
    unfold PS.new
    dsimp only
    by_cases q : z = (S.made : Int) + 1
    · rw [if_pos (inl_eq.mpr q), if_pos q] <;> rfl
    · rw [if_neg fun w => q (inl_eq.mp w), if_neg q, d.vn]
  · unfold PS.new
    dsimp only
    by_cases q : z = (S.made : Int) + 1
    · rw [if_pos q]
      have := d.vr z
      rw [q, h0] at this
      rw [q]
      exact this
    · rw [if_neg q]
      exact d.vr z
theorem Dcts.mkBranch (d : Dcts K H S kc kn kr) {rs : Rw} {t : Addr} {us : List V} (ht : TG.GT H t us) (hp : Prs K H us rs) (hl : rs.length ≤ 5000) (hm : S.made ≤ 2900) : Dcts K H (S.new (.branch rs)) (putK kc (Sum.inl ((S.made : Int) + 1)) (.int 0)) kn (putK kr (Sum.inl ((S.made : Int) + 1)) (.ref t)) := by
  have h0 := d.none_next
  obtain ⟨ks, hk, hn⟩ := d.ks
  refine ⟨d.ok.new hl hm, fun z => ?_, fun z => ?_, fun z => ?_, keys_put hk hn _ _, Nat.le_trans (length_putK _ _ _) (Nat.succ_le_succ d.lc), Nat.le_succ_of_le d.ln, Nat.le_trans (length_putK _ _ _) (Nat.succ_le_succ d.lr)⟩
  · rw [valV_put]
    unfold PS.new
    dsimp only
    by_cases q : z = (S.made : Int) + 1
    · rw [if_pos (inl_eq.mpr q), if_pos q] <;> rfl
    · rw [if_neg fun w => q (inl_eq.mp w), if_neg q, d.vc]
  · unfold PS.new
    dsimp only
    by_cases q : z = (S.made : Int) + 1
    · rw [if_pos q, d.vn, q, h0] <;> rfl
    · rw [if_neg q, d.vn]
  · unfold PS.new
    dsimp only
    by_cases q : z = (S.made : Int) + 1
    · rw [if_pos q]
      exact ⟨t, us, by rw [valV_put, if_pos (inl_eq.mpr q)], ht, hp⟩
    · rw [if_neg q]
      have := d.vr z
      have e : valV (putK kr (Sum.inl ((S.made : Int) + 1)) (.ref t)) (Sum.inl z) = valV kr (Sum.inl z) := by rw [valV_put, if_neg fun w => q (inl_eq.mp w)]
      rw [e]
      exact this
theorem Dcts.hold (d : Dcts K H S kc kn kr) {z : Int} {x : Bx × Nat} (e : S.box z = some x) : Dcts K H (S.hold z) (putK kc (Sum.inl z) (.int ((x.2 : Int) + 1))) kn kr := by
  obtain ⟨ks, hk, hn⟩ := d.ks
  have hs : (valV kc (Sum.inl z)).isSome = true := by rw [d.vc, e] <;> rfl
  refine ⟨d.ok.hold z, fun y => ?_, fun y => ?_, fun y => ?_, keys_put hk hn _ _, by rw [putK_has_len hs]; exact d.lc, d.ln, d.lr⟩
  · rw [valV_put]
    unfold PS.hold
    dsimp only
    by_cases q : y = z
    · rw [if_pos (inl_eq.mpr q), if_pos q, q, e] <;> rfl
    · rw [if_neg fun w => q (inl_eq.mp w), if_neg q, d.vc]
  · rw [d.vn]
    unfold PS.hold
    dsimp only
    by_cases q : y = z
    · rw [if_pos q]
      cases S.box y <;> rfl
    · rw [if_neg q]
  · have := d.vr y
    unfold PS.hold
    dsimp only
    by_cases q : y = z
    · rw [if_pos q]
      rw [q, e] at this ⊢
      obtain ⟨b, c⟩ := x
      cases b <;> exact this
    · rw [if_neg q]
      exact this
theorem Dcts.lower (d : Dcts K H S kc kn kr) {z : Int} {x : Bx × Nat} (e : S.box z = some x) : Dcts K H (S.lower z) (putK kc (Sum.inl z) (.int ((x.2 - 1 : Nat) : Int))) kn kr := by
  obtain ⟨ks, hk, hn⟩ := d.ks
  have hs : (valV kc (Sum.inl z)).isSome = true := by rw [d.vc, e] <;> rfl
  refine ⟨d.ok.lower z, fun y => ?_, fun y => ?_, fun y => ?_, keys_put hk hn _ _, by rw [putK_has_len hs]; exact d.lc, d.ln, d.lr⟩
  · rw [valV_put]
    unfold PS.lower
    dsimp only
    by_cases q : y = z
    · rw [if_pos (inl_eq.mpr q), if_pos q, q, e] <;> rfl
    · rw [if_neg fun w => q (inl_eq.mp w), if_neg q, d.vc]
  · rw [d.vn]
    unfold PS.lower
    dsimp only
    by_cases q : y = z
    · rw [if_pos q]
      cases S.box y <;> rfl
    · rw [if_neg q]
  · have := d.vr y
    unfold PS.lower
    dsimp only
    by_cases q : y = z
    · rw [if_pos q]
      rw [q, e] at this ⊢
      obtain ⟨b, c⟩ := x
      cases b <;> exact this
    · rw [if_neg q]
      exact this
theorem Dcts.drop (d : Dcts K H S kc kn kr) (z : Int) : Dcts K H (S.drop z) (dropK kc (Sum.inl z)) (dropK kn (Sum.inl z)) (dropK kr (Sum.inl z)) := by
  obtain ⟨ks, hk, hn⟩ := d.ks
  refine ⟨d.ok.drop z, fun y => ?_, fun y => ?_, fun y => ?_, keys_drop hk hn _, Nat.le_trans (dropK_le _ _) d.lc, Nat.le_trans (dropK_le _ _) d.ln, Nat.le_trans (dropK_le _ _) d.lr⟩
  · rw [valV_dropK]
    unfold PS.drop
    dsimp only
    by_cases q : y = z
    · rw [if_pos (inl_eq.mpr q), if_pos q] <;> rfl
    · rw [if_neg fun w => q (inl_eq.mp w), if_neg q, d.vc]
  · rw [valV_dropK]
    unfold PS.drop
    dsimp only
    by_cases q : y = z
    · rw [if_pos (inl_eq.mpr q), if_pos q] <;> rfl
    · rw [if_neg fun w => q (inl_eq.mp w), if_neg q, d.vn]
  · have := d.vr y
    unfold PS.drop
    dsimp only
    by_cases q : y = z
    · rw [if_pos q]
      rw [valV_dropK, if_pos (inl_eq.mpr q)]
    · rw [if_neg q]
      have e : valV (dropK kr (Sum.inl z)) (Sum.inl y) = valV kr (Sum.inl y) := by rw [valV_dropK, if_neg fun w => q (inl_eq.mp w)]
      rw [e]
      exact this
theorem dropK_none {kvs : List (Key × V)} {k : Key} (h : valV kvs k = none) : dropK kvs k = kvs := by
  unfold dropK
  rw [List.filter_eq_self]
  intro p hp
  refine decide_eq_true fun q => ?_
  have : (valV kvs k).isSome = true := by
    rw [← valV_any, List.any_eq_true]
    exact ⟨p, hp, decide_eq_true q⟩
  rw [h] at this
  cases this
end
theorem upd_self {H : Hp} {a : Addr} {o : HO} (e : H a = some o) : upd H a o = H := by
  funext b
  by_cases q : b = a
  · rw [q, upd_same, e]
  · rw [upd_ne q]
theorem lf_pop {H : Hp} {a : Addr} {kvs : List (Key × V)} {k : Key} {R : Hp → Prop} (h : H a = some (.dK kvs)) (q : R (upd H a (.dK (dropK kvs k)))) :
    ∃ kvs' k', H a = some (.dK kvs') ∧ kV k = kV k' ∧ (∀ v, valV kvs' k' = some v → R (upd H a (.dK (dropK kvs' k')))) ∧ (valV kvs' k' = none → R H) :=
  ⟨kvs, k, h, rfl, fun _ _ => q, fun e => by rw [dropK_none e, upd_self h] at q; exact q⟩
theorem lf_popV {H : Hp} {a : Addr} {kvs : List (Key × V)} {k : Key} {x : V} {R : V → Hp → Prop} (h : H a = some (.dK kvs)) (q : R ((valV kvs k).getD x) (upd H a (.dK (dropK kvs k)))) :
    ∃ kvs' k', H a = some (.dK kvs') ∧ kV k = kV k' ∧ (∀ v, valV kvs' k' = some v → R v (upd H a (.dK (dropK kvs' k')))) ∧ (valV kvs' k' = none → R x H) :=
  ⟨kvs, k, h, rfl, fun v e => by rw [e] at q; exact q, fun e => by rw [e, dropK_none e, upd_self h] at q; exact q⟩
theorem pfs_init (A : PA) : putF "_rows" (.ref A.r) (putF "_numbers" (.ref A.n) (putF "_counts" (.ref A.c) (putF "made" (.int 0) []))) = pfs A 0 := by
  have h1 : ¬ (("made" : Str) = "_counts") := by decide +kernel
  have h2 : ¬ (("made" : Str) = "_numbers") := by decide +kernel
  have h3 : ¬ (("_counts" : Str) = "_numbers") := by decide +kernel
  have h4 : ¬ (("made" : Str) = "_rows") := by decide +kernel
  have h5 : ¬ (("_counts" : Str) = "_rows") := by decide +kernel
  have h6 : ¬ (("_numbers" : Str) = "_rows") := by decide +kernel
  simp only [putF, h1, h2, h3, h4, h5, h6, if_false]
  rfl
theorem Dcts.empty (K : PySem.W.Frag) (H : Hp) : Dcts K H PS.empty [] [] [] :=
  ⟨⟨fun _ _ h => (nomatch h), fun _ _ h => (nomatch h), Nat.zero_le _⟩, fun _ => rfl, fun _ => rfl, fun _ => rfl, ⟨[], rfl, List.nodup_nil⟩, Nat.le_refl _, Nat.le_refl _, Nat.le_refl _⟩
end My
namespace My
open PySem PySem.Spec PyProof.Rows L2
/-! ### pairs walked by two names -/
def g2 (K : PySem.W.Frag) (i j : Nat) : TG := gTup K 2 (gCons (gName i) (gCons (gName j) gNil))
theorem st_g2 {K : PySem.W.Frag} {i j : Nat} {p : Addr} {x y : V} {σ : L2.St} {H : Hp} {Q : L2.St → Hp → Prop} (h : SqT K H p [x, y]) (q : Q ((σ.set i (some x)).set j (some y)) H) : gTup K 2 (gCons (gName i) (gCons (gName j) gNil)) (.ref p) σ H Q :=
  ⟨p, [x, y], rfl, h, rfl, x, [y], rfl, y, [], rfl, rfl, q⟩
theorem st_loop2 {K : PySem.W.Frag} {J : It} {ws : List V} {rs : List (V × V)} {G : Hp → Prop} {i j : Nat} {tb : TS} {n : L2.St → Hp → Prop} {rt : VK} {b c : L2.St → Hp → Prop} {σ : L2.St} {H : Hp} (w : Walk J ws.length G (fun k H x H' => H' = H ∧ ws[k]? = some x)) (hl : ws.length = rs.length)
    (Pv : Nat → L2.St → Hp → Prop) (h0 : Pv 0 σ H) (hG : ∀ k σ H, k ≤ rs.length → Pv k σ H → G H ∧ PrV K H ws rs)
    (hs : ∀ (k : Nat) r σ H, rs[k]? = some r → Pv k σ H → tb ⟨Pv (k + 1), rt, n, Pv (k + 1)⟩ ((σ.set i (some r.1)).set j (some r.2)) H) (hd : ∀ σ H, Pv rs.length σ H → n σ H) : LF (gTup K 2 (gCons (gName i) (gCons (gName j) gNil))) tb ⟨n, rt, b, c⟩ σ J H := by
  refine for_it w Pv h0 (fun k σ H hk p => (hG k σ H (by omega) p).1) (fun k x σ H H' hk p y => ?_) (fun σ H p => hd σ H (by rw [← hl]; exact p))
  obtain ⟨rfl, y⟩ := y
  obtain ⟨_, pr⟩ := hG k σ H' (by omega) p
  obtain ⟨r, er⟩ : ∃ r, rs[k]? = some r := ⟨rs[k]'(by omega), List.getElem?_eq_getElem _⟩
  obtain ⟨q, eq, hq⟩ := pr.at er
  rw [eq] at y
  cases y
  exact st_g2 hq (hs k r σ H' er p)
/-- [f(a, b) for a, b in pairs], nothing made by a turn -/
theorem lc_2 {K : PySem.W.Frag} {J : It} {ws : List V} {rs : List (V × V)} {G : Hp → Prop} {i j : Nat} {te : TE} {vs : List Nat} {σ : L2.St} {H1 : Hp} {Q : VK} (w : Walk J ws.length G (fun k H x H' => H' = H ∧ ws[k]? = some x)) (pr : PrV K H1 ws rs) (hG : ∀ H', Gr H1 H' → G H') (f : V × V → V)
    (hs : ∀ (r : V × V) H2, r ∈ rs → Gr H1 H2 → ∀ Qy : VK, Qy (f r) H2 → te (((wipe σ vs).set i (some r.1)).set j (some r.2)) H2 Qy)
    (hq : ∀ D H2, H1 D = none → Gr H1 H2 → H2 D = some (.lst (rs.map f)) → Q (.ref D) H2)
    (hn : rs.length ≤ 1000000) (hw : ∀ a b, wipe (((wipe σ vs).set i (some a)).set j (some b)) vs = wipe σ vs) : LC (gTup K 2 (gCons (gName i) (gCons (gName j) gNil))) tYes te vs σ Q J H1 := by
  intro D hD
  have hl := pr.len
  refine lc_it w (fun k H' => Gr H1 H' ∧ H' D = some (.lst ((rs.take k).map f))) ⟨Gr.new hD, by rw [List.take_zero]; exact upd_same⟩ (fun k H' _ p => hG H' p.1) ?_ (fun H' p => hq D H' hD p.1 (by rw [hl, List.take_length] at p; exact p.2))
  rintro k x H' H'' hk ⟨g, e⟩ ⟨rfl, y⟩
  obtain ⟨r, er⟩ : ∃ r, rs[k]? = some r := ⟨rs[k]'(by omega), List.getElem?_eq_getElem _⟩
  obtain ⟨q, eq, hq2⟩ := (pr.gr g).at er
  rw [eq] at y
  cases y
  refine st_g2 hq2 ⟨hw _ _, ?_⟩
  refine iteT (B := Gr H1 H'' ∧ H'' D = some (HO.lst (List.map f (List.take (k + 1) rs)))) (hs r H'' (List.mem_of_getElem? er) g _ ⟨(rs.take k).map f, e, sz_lt ?_, g.mut hD, ?_⟩)
  · rw [List.length_map, List.length_take]
    omega
  · obtain ⟨hk2, ek⟩ := List.getElem?_eq_some_iff.mp er
    rw [List.take_succ_eq_append_getElem hk2, ek, List.map_append]
    exact upd_same
theorem st_truL {K : PySem.W.Frag} {H : Hp} {p : Addr} {xs : List V} {P : Bool → Prop} (h : SqL K H p xs) (q : P (!xs.isEmpty)) : ∃ k, TruV K (.ref p) H k ∧ P k := ⟨_, .inl ⟨xs, h, rfl⟩, q⟩
theorem st_pop {H : Hp} {Q : VK} {l : Addr} {xs : List V} {y : V} (h : H l = some (.lst (xs ++ [y]))) (q : Q y (upd H l (.lst xs))) : rPop (.ref l) [] H Q :=
  ⟨l, xs ++ [y], y, rfl, rfl, h, by rw [List.length_append, List.length_singleton, Nat.add_sub_cancel, List.getElem?_append_right (Nat.le_refl _), Nat.sub_self] <;> rfl, by rw [List.dropLast_concat]; exact q⟩
theorem st_max {H : Hp} {Q : VK} {i j : Int} (q : Q (.int (if j > i then j else i)) H) : ∃ i' j', [V.int i, V.int j] = [V.int i', V.int j'] ∧ Q (.int (if j' > i' then j' else i')) H := ⟨i, j, rfl, q⟩
theorem st_tupG {K : PySem.W.Frag} {P : Addr} {te : TE} {σ : L2.St} {H : Hp} {Q : VK} (h : te σ H fun v H1 => ∃ (yl : Addr) (vs : List V) (rs : List (V × V)), v = .ref yl ∧ SqL K H1 yl vs ∧ PrV K H1 vs rs ∧ GxR.TabG H1 P ∧ rs.length ≤ sizeLine ∧
  ∀ (t : Addr) (us : List V) (H2 : Hp), H1 t = none → Gr H1 H2 → TG.GT H2 t us → PrV K H2 us rs → Q (.ref t) H2) : TG.tTupG K P te σ H Q := h
theorem st_tupZ {σ : L2.St} {H : Hp} {Q : VK} (h : ∀ t H1, H t = none → Gr H H1 → TG.GT H1 t [] → Q (.ref t) H1) : TG.tTupZ σ H Q := h
theorem st_make {C : Addr} {sp : Sp} {E : XK} {σ : L2.St} {H : Hp} {Q : VK} (h : ∀ x dx, H x = none → H dx = none → dx ≠ x → sp [.ref x] (upd (upd H dx (.own x)) x (.ins C dx [])) (fun v H2 => v = .non ∧ Q (.ref x) H2) E) : tMake C sp [] E tNil σ H Q := h
theorem st_extend {K : PySem.W.Frag} {H : Hp} {Q : VK} {l m : Addr} {xs ys : List V} (h1 : H l = some (.lst xs)) (h2 : H m = some (.lst ys)) (hz : xs.length + ys.length ≤ sizeLine) (q : Q .non (upd H l (.lst (xs ++ ys)))) : rExtend (.ref l) [.ref m] H Q := ⟨l, m, xs, ys, rfl, rfl, h1, h2, hz, q⟩
theorem st_aug {i : Nat} {te : TE} {ti : TIp} {σ : L2.St} {H : Hp} {v : V} {n : L2.St → Hp → Prop} {rt : VK} {b c : L2.St → Hp → Prop} (e : σ[i]? = some (some v)) (h : te σ H fun y H1 => ti v y H1 fun z H2 => n (σ.set i (some z)) H2) : tAug i te ti ⟨n, rt, b, c⟩ σ H := ⟨v, e, h⟩
theorem st_ipI {g : Int → Int → Int} {i j : Int} {H : Hp} {Q : VK} (q : Q (.int (g i j)) H) : ipI g (.int i) (.int j) H Q := ⟨i, j, rfl, rfl, q⟩
theorem st_bm0 {K : PySem.W.Frag} {T : String} {rm : V → List V → Hp → VK → Prop} {ta : TE} {σ : L2.St} {H : Hp} {Q : VK} (h : ta σ H fun x H1 => tyV K T x H1 ∧ rm x [] H1 Q) : tBM0 K T rm ta σ H Q := h
end My
namespace My
open PySem PySem.Spec PyProof.Rows L2
/-! ### lists of numbers and of pairs, held against each other -/
theorem dp_ints {K : PySem.W.Frag} {H : Hp} : ∀ ys : List Int, DpAll K H (ys.map V.int) (ys.map PyData.int)
  | [] => .nil
  | y :: r => .cons (.int y) (dp_ints r)
theorem lay_ints : ∀ ys : List Int, PyData.canLayAll0 (ys.map PyData.int) = true
  | [] => rfl
  | y :: r => by rw [List.map_cons, PyData.canLayAll0, lay_ints r] <;> rfl
theorem depth_ints : ∀ ys : List Int, PyData.depthAll (ys.map PyData.int) = 0
  | [] => rfl
  | y :: r => by
    rw [List.map_cons, PyData.depthAll, depth_ints r]
    rfl
theorem shaped_ints (ys : List Int) : SeqAt.shaped (.list (ys.map PyData.int)) = true := by
  unfold SeqAt.shaped
  rw [PyData.depth, depth_ints]
  show (PyData.canLayAll0 _ && _) = true
  rw [lay_ints] <;> rfl
theorem eqv_ints : ∀ xs ys : List Int, PyData.eqvAll (xs.map PyData.int) (ys.map PyData.int) = decide (xs = ys)
  | [], [] => rfl
  | [], _ :: _ => rfl
  | _ :: _, [] => rfl
  | x :: xs, y :: ys => by
    rw [List.map_cons, List.map_cons, PyData.eqvAll, eqv_ints xs ys, PyData.eqv]
    by_cases h : x = y
    · by_cases h2 : xs = ys <;> simp [h, h2]
    · simp [h]
theorem st_eqI {K : PySem.W.Frag} {H : Hp} {Q : VK} {p q : Addr} {xs ys : List Int} (h : SqL K H p (xs.map V.int)) (h2 : SqL K H q (ys.map V.int)) (k : Q (.bl (decide (xs = ys))) H) : rEqD K (.ref p) (.ref q) H Q := by
  refine ⟨.list (xs.map PyData.int), .list (ys.map PyData.int), .lst h (dp_ints xs), .lst h2 (dp_ints ys), shaped_ints xs, shaped_ints ys, ?_⟩
  rw [PyData.eqv, eqv_ints]
  exact k
theorem st_neI {K : PySem.W.Frag} {H : Hp} {Q : VK} {p q : Addr} {xs ys : List Int} (h : SqL K H p (xs.map V.int)) (h2 : SqL K H q (ys.map V.int)) (k : Q (.bl (!decide (xs = ys))) H) : rNeD K (.ref p) (.ref q) H Q := by
  refine ⟨.list (xs.map PyData.int), .list (ys.map PyData.int), .lst h (dp_ints xs), .lst h2 (dp_ints ys), shaped_ints xs, shaped_ints ys, ?_⟩
  rw [PyData.eqv, eqv_ints]
  exact k
theorem st_neRR {K : PySem.W.Frag} {H : Hp} {Q : VK} {p q : Addr} {us vs : List V} {rs : Rw} (h : SqL K H p us) (pu : Prs K H us rs) (h2 : SqL K H q vs) (pv : Prs K H vs rs) (hok : lowR rs) (k : Q (.bl false) H) : rNeD K (.ref p) (.ref q) H Q := by
  refine ⟨.list (rs.map rowD), .list (rs.map rowD), .lst h (dp_rows pu), .lst h2 (dp_rows pv), shaped_rows hok, shaped_rows hok, ?_⟩
  rw [PyData.eqv, SeqAt.eqvAll_refl _ (lay_rows hok)]
  exact k
theorem lay_row {r : Str × Int} (h : lowS r.1 = true) : PyData.canLay0 (rowD r) = true := by
  show PyData.canLayAll0 [.str r.1, .int r.2] = true
  rw [PyData.canLayAll0, PyData.canLay0, lowS_ok h] <;> rfl
theorem shaped_row {r : Str × Int} (h : lowS r.1 = true) : SeqAt.shaped (rowD r) = true := by
  unfold SeqAt.shaped
  rw [lay_row h] <;> rfl
theorem st_nePair {K : PySem.W.Frag} {H : Hp} {Q : VK} {p q : Addr} {r : Str × Int} (h : SqT K H p [.str r.1, .int r.2]) (h2 : SqT K H q [.str r.1, .int r.2]) (hok : lowS r.1 = true) (k : Q (.bl false) H) : rNeD K (.ref p) (.ref q) H Q := by
  refine ⟨rowD r, rowD r, .tup h (.cons (.str _) (.cons (.int _) .nil)), .tup h2 (.cons (.str _) (.cons (.int _) .nil)), shaped_row hok, shaped_row hok, ?_⟩
  rw [SeqAt.eqv_refl _ (lay_row hok)]
  exact k
/-! ### heaps -/
theorem Gx.gr {F : Addr → Prop} {H H1 H2 : Hp} (hf : ∀ b, F b → H b = none) (g : Gr H H1) (x : Gx F H1 H2) : Gr H H2 :=
  ⟨fun b o e n => x.keep b o (g.keep b o e n) (fun z => by rw [hf b z] at e; cases e) n, fun b t => x.tab b (g.tab b t), fun b o e => by
    obtain ⟨o1, e1⟩ := g.there b o e
    exact x.there b o1 e1⟩
def F2 (i c b : Addr) : Prop := b = i ∨ b = c
def F3 (A : PA) (i c b : Addr) : Prop := A.foot b ∨ F2 i c b
theorem ints_ext {xs ys : List Int} (hx : xs.Pairwise (· < ·)) (hy : ys.Pairwise (· < ·)) (h : ∀ z, z ∈ xs ↔ z ∈ ys) : xs = ys :=
  List.Perm.eq_of_pairwise (le := (· < ·)) (fun a b _ _ h1 h2 => by omega) hx hy ((List.perm_ext_iff_of_nodup (hx.imp fun {a b} h => by omega) (hy.imp fun {a b} h => by omega)).mpr h)
theorem upto (a : Nat) : ((List.range a).map fun (i : Nat) => (i : Int) + 1).Pairwise (· < ·) ∧ ∀ z : Int, z ∈ ((List.range a).map fun (i : Nat) => (i : Int) + 1) ↔ 1 ≤ z ∧ z ≤ a := by
  refine ⟨List.pairwise_map.mpr (List.pairwise_lt_range.imp fun {x y} h => by omega), fun z => ?_⟩
  rw [List.mem_map]
  constructor
  · rintro ⟨i, hi, rfl⟩
    have := List.mem_range.mp hi
    omega
  · intro h
    exact ⟨z.toNat - 1, List.mem_range.mpr (by omega), by omega⟩
/-- rising and each once -/
theorem lt_of_perm {ys ks : List Int} (hp : ys.Perm ks) (hn : ks.Nodup) (hs : ys.Pairwise (· ≤ ·)) : ys.Pairwise (· < ·) := by
  have h2 : ys.Nodup := hp.nodup_iff.mpr hn
  exact (List.pairwise_and_iff.mpr ⟨hs, h2⟩).imp fun {a b} h => by
    obtain ⟨h1, h3⟩ := h
    omega
/-! ### a pile whose boxes stand one above the other -/
theorem PS.holds_rep (S : PS) (z : Int) : ∀ (m : Nat) (y : Int), (S.holds (List.replicate m z)).box y = if y = z then (S.box y).map (fun x => (x.1, x.2 + m)) else S.box y
  | 0, y => by
    show S.box y = _
    split
    · cases S.box y <;> rfl
    · rfl
  | m + 1, y => by
    rw [List.replicate_succ', PS.holds_snoc]
    unfold PS.hold
    dsimp only
    by_cases q : y = z
    · rw [if_pos q, if_pos q, PS.holds_rep S z m y, if_pos q]
      cases S.box y <;> rfl
    · rw [if_neg q, if_neg q, PS.holds_rep S z m y, if_neg q]
structure Ch (S : PS) (j m c : Nat) : Prop where
  out : ∀ z : Int, ¬ (1 ≤ z ∧ z ≤ j) → S.box z = none
  each : ∀ z : Int, 1 ≤ z → z ≤ j → ∃ b : Bx, S.box z = some (b, if z = j then c else m) ∧ b.rows.map (·.2) = if z = 1 then [] else List.replicate m (z - 1)
theorem Ch.lower {S : PS} {j m c : Nat} (h : Ch S j m c) : Ch (S.lower j) j m (c - 1) := by
  refine ⟨fun z hz => ?_, fun z h1 h2 => ?_⟩
  · unfold PS.lower
    dsimp only
    rw [h.out z hz]
    split <;> rfl
  · obtain ⟨b, e1, e2⟩ := h.each z h1 h2
    refine ⟨b, ?_, e2⟩
    unfold PS.lower
    dsimp only
    by_cases q : z = (j : Int)
    · rw [if_pos q, e1, if_pos q, if_pos q] <;> rfl
    · rw [if_neg q, e1, if_neg q, if_neg q]
theorem Ch.drop {S : PS} {j m c : Nat} (h : Ch S (j + 1) m c) : Ch (S.drop ((j + 1 : Nat) : Int)) j m m := by
  refine ⟨fun z hz => ?_, fun z h1 h2 => ?_⟩
  · unfold PS.drop
    dsimp only
    by_cases q : z = ((j + 1 : Nat) : Int)
    · rw [if_pos q]
    · rw [if_neg q]
      exact h.out z (by omega)
  · obtain ⟨b, e1, e2⟩ := h.each z h1 (by omega)
    refine ⟨b, ?_, e2⟩
    unfold PS.drop
    dsimp only
    rw [if_neg (by omega), e1, if_neg (by omega)]
    split <;> rfl
theorem Ch.top {m j c : Nat} {S : PS} (ok : S.Ok) (h : Ch S (j + 1) m c) (hc : c ≤ 1) (g : Nat) : PS.run (S.left [((j + 1 : Nat) : Int)]) S [((j + 1 : Nat) : Int)] g = PS.run ((S.drop ((j + 1 : Nat) : Int)).left (if j = 0 then [] else List.replicate m (j : Int))) (S.drop ((j + 1 : Nat) : Int)) (if j = 0 then [] else List.replicate m (j : Int)) (g + 1) := by
  obtain ⟨b, e1, e2⟩ := h.each ((j + 1 : Nat) : Int) (by omega) (Int.le_refl _)
  rw [if_pos rfl] at e1
  rw [PS.run_cons ok]
  unfold PS.step
  rw [e1]
  dsimp only
  rw [if_pos (by omega : c - 1 = 0), e2]
  dsimp only
  by_cases q : j = 0
  · rw [if_pos q, if_pos (by omega)] <;> rfl
  · rw [if_neg q, if_neg (by omega), List.reverse_replicate, List.append_nil, show ((j + 1 : Nat) : Int) - 1 = (j : Int) by omega] <;> rfl
theorem Ch.more {m j c : Nat} {S : PS} (ok : S.Ok) (h : Ch S (j + 1) m (c + 2)) (g : Nat) : PS.run (S.left (List.replicate (c + 2) ((j + 1 : Nat) : Int))) S (List.replicate (c + 2) ((j + 1 : Nat) : Int)) g = PS.run ((S.lower ((j + 1 : Nat) : Int)).left (List.replicate (c + 1) ((j + 1 : Nat) : Int))) (S.lower ((j + 1 : Nat) : Int)) (List.replicate (c + 1) ((j + 1 : Nat) : Int)) g := by
  obtain ⟨b, e1, e2⟩ := h.each ((j + 1 : Nat) : Int) (by omega) (Int.le_refl _)
  rw [if_pos rfl] at e1
  rw [List.replicate_succ, PS.run_cons ok]
  unfold PS.step
  rw [e1]
  dsimp only
  rw [if_neg (by omega : ¬ c + 2 - 1 = 0)] <;> rfl
theorem Ch.run {m : Nat} (hm : 1 ≤ m) : ∀ (j c : Nat) (S : PS) (n g : Nat), S.Ok → Ch S (j + 1) m c → n = max 1 c →
    (∀ z, (PS.run (S.left (List.replicate n ((j + 1 : Nat) : Int))) S (List.replicate n ((j + 1 : Nat) : Int)) g).1.box z = none) ∧ (PS.run (S.left (List.replicate n ((j + 1 : Nat) : Int))) S (List.replicate n ((j + 1 : Nat) : Int)) g).2 = g + (j + 1) := by
  intro j
  induction j with
  | zero =>
    have low : ∀ (c : Nat) (S : PS) (g : Nat), c ≤ 1 → S.Ok → Ch S (0 + 1) m c → (∀ z, (PS.run (S.left [((0 + 1 : Nat) : Int)]) S [((0 + 1 : Nat) : Int)] g).1.box z = none) ∧ (PS.run (S.left [((0 + 1 : Nat) : Int)]) S [((0 + 1 : Nat) : Int)] g).2 = g + (0 + 1) := fun c S g hc ok h => by
      rw [h.top ok hc, if_pos rfl, PS.run_nil]
      exact ⟨fun z => h.drop.out z (by omega), rfl⟩
    intro c
    induction c with
    | zero => intro S n g ok h hn; rw [hn]; exact low 0 S g (by omega) ok h
    | succ c ih =>
      intro S n g ok h hn
      cases c with
      | zero => rw [hn]; exact low 1 S g (by omega) ok h
      | succ c =>
        rw [show n = c + 2 by omega, h.more ok]
        exact ih _ _ _ (ok.lower _) h.lower (by omega)
  | succ j ihj =>
    have low : ∀ (c : Nat) (S : PS) (g : Nat), c ≤ 1 → S.Ok → Ch S (j + 1 + 1) m c → (∀ z, (PS.run (S.left [((j + 1 + 1 : Nat) : Int)]) S [((j + 1 + 1 : Nat) : Int)] g).1.box z = none) ∧ (PS.run (S.left [((j + 1 + 1 : Nat) : Int)]) S [((j + 1 + 1 : Nat) : Int)] g).2 = g + (j + 1 + 1) := fun c S g hc ok h => by
      rw [h.top ok hc, if_neg (by omega)]
      obtain ⟨k1, k2⟩ := ihj m _ m (g + 1) (ok.drop _) h.drop (by omega)
      exact ⟨k1, by rw [k2]; omega⟩
    intro c
    induction c with
    | zero => intro S n g ok h hn; rw [hn]; exact low 0 S g (by omega) ok h
    | succ c ih =>
      intro S n g ok h hn
      cases c with
      | zero => rw [hn]; exact low 1 S g (by omega) ok h
      | succ c =>
        rw [show n = c + 2 by omega, h.more ok]
        exact ih _ _ _ (ok.lower _) h.lower (by omega)
theorem Ch.letGo {m j : Nat} {S : PS} (hm : 1 ≤ m) (ok : S.Ok) (h : Ch S (j + 1) m 0) : (∀ z, (S.letGo ((j : Int) + 1)).1.box z = none) ∧ (S.letGo ((j : Int) + 1)).2 = j + 1 := by
  obtain ⟨h1, h2⟩ := h.run hm j 0 S 1 0 ok rfl
  rw [PS.letGo_eq]
  exact ⟨h1, by rw [Nat.zero_add] at h2; exact h2⟩
/-- one more on top -/
theorem Ch.new {m j : Nat} {S : PS} (h : Ch S (j + 1) m 0) (hmade : S.made = j + 1) {b : Bx} (hb : b.rows.map (·.2) = List.replicate m ((j : Int) + 1)) : Ch ((S.holds (List.replicate m ((j : Int) + 1))).new b) (j + 2) m 0 := by
  have em : (S.holds (List.replicate m ((j : Int) + 1))).made = j + 1 := by rw [PS.holds_made, hmade]
  refine ⟨fun z hz => ?_, fun z h1 h2 => ?_⟩
  · unfold PS.new
    dsimp only
    rw [em, if_neg (by omega), PS.holds_rep, h.out z (by omega)]
    split <;> rfl
  · unfold PS.new
    dsimp only
    rw [em]
    by_cases q : z = ((j + 1 : Nat) : Int) + 1
    · refine ⟨b, by rw [if_pos q, if_pos (by omega)], ?_⟩
      rw [hb, if_neg (by omega), show z - 1 = (j : Int) + 1 by omega]
    · obtain ⟨b', e1, e2⟩ := h.each z h1 (by omega)
      refine ⟨b', ?_, e2⟩
      rw [if_neg q, PS.holds_rep, e1, if_neg (show ¬ z = ((j + 2 : Nat) : Int) by omega)]
      by_cases q2 : z = (j : Int) + 1
      · rw [if_pos q2, if_pos (by omega)]
        show some (b', 0 + m) = _
        rw [Nat.zero_add]
      · rw [if_neg q2, if_neg (by omega)]
section
variable {X : Cx}
theorem cMax {K : PySem.W.Frag} (h : X.K = K) (hc : X.calm = true) : CallR X (.builtin "max") (rMax K) := h ▸ cr_max hc
theorem cSetX {K : PySem.W.Frag} (h : X.K = K) (hc : X.calm = true) : CallR X (.type "set") (rSetX K X.w) := h ▸ cr_setX hc
end
/-! ### a text so many times -/
def repS (z : Str) (k : Nat) : Str := ⟨(List.replicate k z.cps).foldl (· ++ ·) #[]⟩
theorem fold_tl (a : Array Nat) : ∀ (k : Nat) (b : Array Nat), ((List.replicate k a).foldl (· ++ ·) b).toList = b.toList ++ (List.replicate k a.toList).flatten
  | 0, b => by simp
  | k + 1, b => by
    rw [List.replicate_succ, List.foldl_cons, fold_tl a k, List.replicate_succ, List.flatten_cons]
    simp
theorem repS_tl (z : Str) (k : Nat) : (repS z k).cps.toList = (List.replicate k z.cps.toList).flatten := by
  unfold repS
  rw [fold_tl]
  simp
theorem repS_len (z : Str) (k : Nat) : (repS z k).length = k * z.length := by
  rw [len_tl, repS_tl, len_tl]
  simp
theorem repS_low {z : Str} (h : lowS z = true) (k : Nat) : lowS (repS z k) = true := by
  unfold lowS at h ⊢
  rw [repS_tl, List.all_eq_true]
  intro c hc
  obtain ⟨l, hl, hc⟩ := List.mem_flatten.mp hc
  rw [(List.mem_replicate.mp hl).2] at hc
  exact List.all_eq_true.mp h c hc
def rMulS : R2 := fun x y H Q => ∃ (z : Str) (k : Nat), x = .str z ∧ y = .int (k : Int) ∧ 1 ≤ z.length ∧ z.length ≤ 16 ∧ k ≤ 1000 ∧ Q (.str (repS z k)) H
theorem oMulS {X : Cx} : OpR X (binaryOp .Mult) rMulS := by
  intro pins s σ H x y v u Q I rx ry h
  obtain ⟨z, k, rfl, rfl, h1, h2, hk, q⟩ := h
  obtain ⟨t, rfl⟩ := rx
  obtain ⟨t', rfl⟩ := ry
  have hlen : ((z.length : Nat) : Int) ≤ 16 := by omega
  have hk63 : (decide ((k : Int) < -(2 ^ 63 : Int)) || decide ((k : Int) ≥ 2 ^ 63)) = false := by
    rw [decide_eq_false (by omega), decide_eq_false (by omega)] <;> rfl
  have small : z.length * k ≤ 16000 := Nat.mul_le_mul h2 hk
  have notlong : PySem.Builtin.Str.tooLong (z.length * k) = false := decide_eq_false (by have : z.length * k ≤ 16000 := small; show ¬ z.length * k > 16777216; omega)
  refine P.mul_str (n := (k : Int)) hk63 (fun hn _ => ?_) (fun _ _ => by rw [Int.toNat_natCast]; exact notlong) ?_
  · have h3 : (1000 : Int) * 16 ≤ 2 ^ 63 - 1 := by decide
    have : (16 : Int) ≤ (2 ^ 63 - 1) / (k : Int) := (Int.le_ediv_iff_mul_le (by omega)).mpr (by omega)
    omega
  · have z0 : (z.length == 0) = false := by
      rw [beq_eq_false_iff_ne]
      omega
    by_cases hn : (k : Int) < 1
    · rw [if_pos hn]
      have ek : k = 0 := by omega
      subst ek
      refine ⟨by decide, ⟨.str (repS z 0), H, I.tok _, ⟨_, rfl⟩, q⟩⟩
    · rw [if_neg hn]
      by_cases h11 : ((k : Int) == 1 || z.length == 0) = true
      · rw [if_pos h11]
        rw [z0, Bool.or_false, beq_iff_eq] at h11
        have ek : k = 1 := by omega
        subst ek
        have e1 : repS z 1 = z := str_ext (by rw [repS_tl]; simp)
        rw [e1] at q
        exact ⟨.str z, H, I, ⟨_, rfl⟩, q⟩
      · rw [if_neg h11, Int.toNat_natCast]
        refine ⟨?_, ⟨.str (repS z k), H, I.tok _, ⟨_, rfl⟩, q⟩⟩
        show (repS z k).length ≤ sizeLine
        rw [repS_len, Nat.mul_comm, sizeLine_eq]
        omega
theorem st_mulS {H : Hp} {Q : VK} {z : Str} {k : Nat} (h1 : 1 ≤ z.length) (h2 : z.length ≤ 16) (hk : k ≤ 1000) (q : Q (.str (repS z k)) H) : rMulS (.str z) (.int (k : Int)) H Q := ⟨z, k, rfl, rfl, h1, h2, hk, q⟩
end My
namespace My
open PySem PySem.Spec PyProof.Rows L2
/-! ### d.get(x, y) where x may be None -/
def tDGetN (td ty tx : TE) : TE := fun σ H Q => td σ H fun x H1 => ∃ a, x = .ref a ∧ IsD H1 a ∧ ty σ H1 fun y H2 => tx σ H2 fun z H3 => (∃ o, DGet H3 a y o ∧ Q (o.getD z) H3) ∨ (∃ kvs, y = .non ∧ Rd H3 a (.dK kvs) ∧ Q z H3)
section
variable {X : Cx} {o e f : Expr} {apos cpos : Pos} {td ty tx : TE} {pins : List (Addr × Obj)} {σ : L2.St} {H : Hp} {s : Shared} {a : Addr} {kvs : List (Key × V)} {A : Around} {E : Value → Shared → Prop} {d : V} {r : Value}
theorem d_getNone {Q : Value → Shared → Prop} (I : Inv X pins σ H s) (e : Rd H a (.dK kvs)) (rd : RelV d r) (h : ∀ w' s', Inv X pins σ H s' → RelV d w' → Q w' s') : wpAny (model X.prog X.w) A (call (.builtin "dict.get") [.ref a, .none, r]) Q E s := by
  obtain ⟨_, hd, vs, _, dd⟩ := dk_rd I.hok e
  obtain ⟨g, hm, hg⟩ := none_map dd
  refine call_meetsIn PySem.F.slot_dict_get dd.typeIs PySem.F.entry_dict_get (PySem.F.args_dict_get_3 _ _ _) (meets_dict_get_default (noneKind X.prog X.w) (k := none) (key := .none) a rfl hd r) ⟨_, hm, h _ _ (I.tok _) ?_⟩
  rw [hg]
  exact rd
theorem pe_dgetN (hu : X.A.units + 1 < cLine) (ho : PE X o td) (he : PE X e ty) (hf : PE X f tx) (m : M2 X o "get" apos e f cpos) : PE X (.Call (.Attribute o "get" apos) [e, f] [] cpos) (tDGetN td ty tx) := by
  refine ⟨fun pins s σ H Q I h => ?_⟩
  refine wpAny_Call_method m.base m.few m.line PySem.F.plainAttrs_dict PySem.F.slot_dict_get PySem.F.type_dict_get (thn (ho.run pins s σ H _ I h) fun u s1 ⟨x, H1, I1, rx, a, ex, d, q1⟩ => ?_)
  subst ex
  obtain rfl : u = Value.ref a := rx
  obtain ⟨t1, t2, _⟩ := isD_at I1 d
  refine ⟨t1, t2, ?_⟩
  rw [m.trees]
  refine Calls.callWith_builtin rfl (Calls.evalArgs_plain (Calls.spliced_cons (thn (he.run pins s1 σ H1 _ I1 q1) fun iv s2 ⟨y, H2, I2, ry, q2⟩ =>
    Calls.spliced_cons (thn (hf.run pins s2 σ H2 _ I2 q2) fun fv s3 ⟨z, H3, I3, rz, q3⟩ => Calls.spliced_nil ?_))))
  rcases q3 with ⟨ov, g, q3⟩ | ⟨kvs, ey, g, q3⟩
  · exact d_get2 hu I3 g ry rz fun w' s4 I4 rw' => ⟨_, H3, I4, rw', q3⟩
  · subst ey
    obtain rfl : iv = Value.none := ry
    exact d_getNone I3 g rz fun w' s4 I4 rw' => ⟨z, H3, I4, rw', q3⟩
end
section
variable {td ty tx : TE} {σ : L2.St} {H : Hp} {Q : VK} {P : Bool → Hp → Prop}
theorem st_dgetN (h : td σ H fun x H1 => ∃ a, x = .ref a ∧ IsD H1 a ∧ ty σ H1 fun y H2 => tx σ H2 fun z H3 => (∃ o, DGet H3 a y o ∧ Q (o.getD z) H3) ∨ (∃ kvs, y = .non ∧ Rd H3 a (.dK kvs) ∧ Q z H3)) : tDGetN td ty tx σ H Q := h
theorem st_dinN (h : ty σ H fun y H1 => td σ H1 fun x H2 => (∃ a o, x = .ref a ∧ DGet H2 a y o ∧ Q (.bl o.isSome) H2) ∨ ∃ a kvs, x = .ref a ∧ y = .non ∧ Rd H2 a (.dK kvs) ∧ Q (.bl false) H2) : tDInN ty td σ H Q := h
/-- a box's number, or None -/
def oV : Option Int → V
  | some z => .int z
  | none => .non
theorem lf_dgetN {a : Addr} {kvs : List (Key × V)} {x : Option Int} {d : V} {P : V → Prop} (h : H a = some (.dK kvs)) (q : P ((match x with | some z => valV kvs (Sum.inl z) | none => none).getD d)) :
    (∃ o, DGet H a (oV x) o ∧ P (o.getD d)) ∨ (∃ kvs, oV x = .non ∧ Rd H a (.dK kvs) ∧ P d) := by
  cases x with
  | some z => exact .inl ⟨_, DGet.k (k := .inl z) h, q⟩
  | none => exact .inr ⟨kvs, rfl, .inl h, q⟩
theorem lf_dinN {a : Addr} {kvs : List (Key × V)} {x : Option Int} {P : V → Prop} (h : H a = some (.dK kvs)) (q : P (.bl (match x with | some z => valV kvs (Sum.inl z) | none => none).isSome)) :
    (∃ a' o, V.ref a = .ref a' ∧ DGet H a' (oV x) o ∧ P (.bl o.isSome)) ∨ ∃ a' kvs, V.ref a = .ref a' ∧ oV x = .non ∧ Rd H a' (.dK kvs) ∧ P (.bl false) := by
  cases x with
  | some z => exact .inl ⟨a, _, rfl, DGet.k (k := .inl z) h, q⟩
  | none => exact .inr ⟨a, kvs, rfl, rfl, .inl h, q⟩
end
end My
namespace My
open PySem PySem.Spec PyProof.Rows L2
/-! ### what is below a box; counts that are exact -/
def rowsO (S : PS) : Option Int → Rw
  | none => []
  | some z => match S.box z with
    | some x => x.1.rows
    | none => []
/-- how often the box (i + 1) leads to z -/
def cntAt (S : PS) (z : Int) (i : Nat) : Nat := ((rowsO S (some ((i : Int) + 1))).map (·.2)).count z
def refs (S : PS) (z : Int) : Nat := ((List.range S.made).map (cntAt S z)).sum
structure TInv (S : PS) (R : List Int) : Prop where
  ok : S.Ok
  rows : ∀ z b c, S.box z = some (b, c) → SrR b.rows ∧ (∀ r ∈ b.rows, okN r.1 = true) ∧ ∀ r ∈ b.rows, r.2 < z ∧ (S.box r.2).isSome = true
  cnt : ∀ z b c, S.box z = some (b, c) → c = refs S z + R.count z
  there : ∀ z ∈ R, (S.box z).isSome = true
theorem rowsO_none {S : PS} {z : Int} (h : S.box z = none) : rowsO S (some z) = [] := by
  unfold rowsO
  dsimp only
  rw [h]
theorem rowsO_some {S : PS} {z : Int} {b : Bx} {c : Nat} (h : S.box z = some (b, c)) : rowsO S (some z) = b.rows := by
  unfold rowsO
  dsimp only
  rw [h]
theorem cnt_lt {S : PS} {R : List Int} (h : TInv S R) (z y : Int) (hy : ((rowsO S (some y)).map (·.2)).count z ≠ 0) : z < y ∧ (S.box z).isSome = true := by
  have hm := List.count_pos_iff.mp (Nat.pos_of_ne_zero hy)
  obtain ⟨r, hr, rfl⟩ := List.mem_map.mp hm
  cases e : S.box y with
  | none => rw [rowsO_none e] at hr; cases hr
  | some x =>
    obtain ⟨b, c⟩ := x
    rw [rowsO_some e] at hr
    exact (h.rows y b c e).2.2 r hr
theorem refs_zero {S : PS} {z : Int} (h : ∀ i, i < S.made → cntAt S z i = 0) : refs S z = 0 := by
  unfold refs
  have key : ∀ n, n ≤ S.made → ((List.range n).map (cntAt S z)).sum = 0 := fun n => by
    induction n with
    | zero => intro _; rfl
    | succ n ih =>
      intro hn
      rw [List.range_succ, List.map_append, List.sum_append, ih (by omega)]
      simp only [List.map_cons, List.map_nil, List.sum_cons, List.sum_nil, Nat.add_zero, Nat.zero_add]
      exact h n (by omega)
  exact key _ (Nat.le_refl _)
theorem refs_none {S : PS} {R : List Int} (h : TInv S R) {z : Int} (e : S.box z = none) : refs S z = 0 := refs_zero fun i _ => by
  refine Decidable.byContradiction fun q => ?_
  have := (cnt_lt h z _ q).2
  rw [e] at this
  cases this
theorem cntAt_le (S : PS) (z : Int) (i : Nat) (hi : i < S.made) : cntAt S z i ≤ refs S z := by
  unfold refs
  have : ∀ n, i < n → cntAt S z i ≤ ((List.range n).map (cntAt S z)).sum := fun n => by
    induction n with
    | zero => intro h; exact absurd h (Nat.not_lt_zero _)
    | succ n ih =>
      intro h
      rw [List.range_succ, List.map_append, List.sum_append]
      simp only [List.map_cons, List.map_nil, List.sum_cons, List.sum_nil, Nat.add_zero]
      by_cases q : i = n
      · rw [q]; omega
      · have := ih (by omega)
        omega
  exact this _ hi
theorem rowsO_hold (S : PS) (z : Int) (y : Option Int) : rowsO (S.hold z) y = rowsO S y := by
  cases y with
  | none => rfl
  | some y =>
    unfold rowsO PS.hold
    dsimp only
    by_cases q : y = z
    · rw [if_pos q]
      cases S.box y <;> rfl
    · rw [if_neg q]
theorem rowsO_holds (S : PS) (zs : List Int) (y : Option Int) : rowsO (S.holds zs) y = rowsO S y := by
  induction zs generalizing S with
  | nil => rfl
  | cons z zs ih =>
    show rowsO ((S.hold z).holds zs) y = _
    rw [ih, rowsO_hold]
theorem rowsO_lower (S : PS) (z : Int) (y : Option Int) : rowsO (S.lower z) y = rowsO S y := by
  cases y with
  | none => rfl
  | some y =>
    unfold rowsO PS.lower
    dsimp only
    by_cases q : y = z
    · rw [if_pos q]
      cases S.box y <;> rfl
    · rw [if_neg q]
theorem rowsO_drop (S : PS) (z y : Int) : rowsO (S.drop z) (some y) = if y = z then [] else rowsO S (some y) := by
  unfold rowsO PS.drop
  dsimp only
  by_cases q : y = z
  · rw [if_pos q, if_pos q]
  · rw [if_neg q, if_neg q]
theorem rowsO_new (S : PS) (b : Bx) (y : Int) : rowsO (S.new b) (some y) = if y = (S.made : Int) + 1 then b.rows else rowsO S (some y) := by
  unfold rowsO PS.new
  dsimp only
  by_cases q : y = (S.made : Int) + 1
  · rw [if_pos q, if_pos q]
  · rw [if_neg q, if_neg q]
theorem refs_congr {S S' : PS} (hm : S'.made = S.made) (h : ∀ y, rowsO S' (some y) = rowsO S (some y)) (z : Int) : refs S' z = refs S z := by
  unfold refs cntAt
  rw [hm]
  congr 1
  exact List.map_congr_left fun i _ => by rw [h]
theorem refs_hold (S : PS) (y z : Int) : refs (S.hold y) z = refs S z := refs_congr (S := S) (S' := S.hold y) rfl (fun _ => rowsO_hold S y _) z
theorem refs_lower (S : PS) (y z : Int) : refs (S.lower y) z = refs S z := refs_congr (S := S) (S' := S.lower y) rfl (fun _ => rowsO_lower S y _) z
theorem refs_new (S : PS) (b : Bx) (z : Int) : refs (S.new b) z = refs S z + (b.rows.map (·.2)).count z := by
  unfold refs
  show ((List.range (S.made + 1)).map (cntAt (S.new b) z)).sum = _
  rw [List.range_succ, List.map_append, List.sum_append]
  have e1 : (List.range S.made).map (cntAt (S.new b) z) = (List.range S.made).map (cntAt S z) := List.map_congr_left fun i hi => by
    have := List.mem_range.mp hi
    unfold cntAt
    rw [rowsO_new, if_neg (by omega)]
  rw [e1]
  simp only [List.map_cons, List.map_nil, List.sum_cons, List.sum_nil, Nat.add_zero]
  unfold cntAt
  rw [rowsO_new, if_pos rfl]
theorem refs_drop {S : PS} {y : Int} (h1 : 1 ≤ y) (h2 : y ≤ S.made) (z : Int) : refs (S.drop y) z + ((rowsO S (some y)).map (·.2)).count z = refs S z := by
  have hz : ((y.toNat - 1 : Nat) : Int) + 1 = y := by omega
  have := sum_upd (cntAt S z) (cntAt (S.drop y) z) (y.toNat - 1) S.made (by omega) (fun i hi => ?_) ?_
  · have e2 : cntAt S z (y.toNat - 1) = ((rowsO S (some y)).map (·.2)).count z := by
      unfold cntAt
      rw [hz]
    rw [e2] at this
    exact this
  · unfold cntAt
    rw [rowsO_drop, if_neg (by omega)]
  · unfold cntAt
    rw [hz, rowsO_drop, if_pos rfl]
    rfl
theorem TInv.none_next {S : PS} {R : List Int} (h : TInv S R) : S.box ((S.made : Int) + 1) = none := by
  cases e : S.box ((S.made : Int) + 1) with
  | none => rfl
  | some x =>
    have := h.ok.dom _ _ e
    omega
theorem box_new (S : PS) (b : Bx) (y : Int) : (S.new b).box y = if y = (S.made : Int) + 1 then some (b, 0) else S.box y := rfl
theorem box_hold (S : PS) (z y : Int) : (S.hold z).box y = if y = z then (S.box y).map (fun x => (x.1, x.2 + 1)) else S.box y := rfl
theorem box_lower (S : PS) (z y : Int) : (S.lower z).box y = if y = z then (S.box y).map (fun x => (x.1, x.2 - 1)) else S.box y := rfl
theorem box_drop (S : PS) (z y : Int) : (S.drop z).box y = if y = z then none else S.box y := rfl
/-- one more root -/
theorem TInv.hold {S : PS} {R : List Int} (h : TInv S R) {z : Int} (hz : (S.box z).isSome = true) : TInv (S.hold z) (z :: R) := by
  have back : ∀ {y b c}, (S.hold z).box y = some (b, c) → ∃ c', S.box y = some (b, c') ∧ c = c' + if y = z then 1 else 0 := fun {y b c} e => by
    rw [box_hold] at e
    by_cases q : y = z
    · rw [if_pos q] at e ⊢
      obtain ⟨x, e1, e2⟩ := Option.map_eq_some_iff.mp e
      cases e2
      exact ⟨x.2, e1, rfl⟩
    · rw [if_neg q] at e ⊢
      exact ⟨c, e, rfl⟩
  refine ⟨h.ok.hold z, fun y b c e => ?_, fun y b c e => ?_, fun y hy => ?_⟩
  · obtain ⟨c', e1, _⟩ := back e
    obtain ⟨k1, k2, k3⟩ := h.rows y b c' e1
    exact ⟨k1, k2, fun r hr => ⟨(k3 r hr).1, by rw [S.hold_some]; exact (k3 r hr).2⟩⟩
  · obtain ⟨c', e1, e2⟩ := back e
    rw [e2, h.cnt y b c' e1, refs_hold, List.count_cons]
    by_cases q : y = z
    · rw [if_pos q, q, beq_self_eq_true]; simp only [if_true]; omega
    · rw [if_neg q, beq_false_of_ne (Ne.symm q)]; simp
  · rw [S.hold_some]
    rcases List.mem_cons.mp hy with rfl | hy
    · exact hz
    · exact h.there y hy
theorem TInv.holds {S : PS} : ∀ {zs R : List Int}, TInv S R → (∀ z ∈ zs, (S.box z).isSome = true) → TInv (S.holds zs) (zs.reverse ++ R) := fun {zs} => by
  induction zs generalizing S with
  | nil => intro R h _; exact h
  | cons z zs ih =>
    intro R h hz
    show TInv ((S.hold z).holds zs) _
    rw [List.reverse_cons, List.append_assoc]
    exact ih (h.hold (hz z List.mem_cons_self)) fun y hy => by rw [S.hold_some]; exact hz y (List.mem_cons_of_mem _ hy)
/-- a new box -/
theorem TInv.newLeaf {S : PS} {R : List Int} (h : TInv S R) (n : Int) (hm : S.made ≤ 2900) : TInv (S.new (.leaf n)) R := by
  have hn := h.none_next
  have some' : ∀ {y}, (S.box y).isSome = true → ((S.new (.leaf n)).box y).isSome = true := fun {y} e => by
    rw [box_new]
    by_cases q : y = (S.made : Int) + 1
    · rw [if_pos q] <;> rfl
    · rw [if_neg q]; exact e
  refine ⟨h.ok.new (Nat.zero_le _) hm, fun y b c e => ?_, fun y b c e => ?_, fun y hy => some' (h.there y hy)⟩
  · rw [box_new] at e
    by_cases q : y = (S.made : Int) + 1
    · rw [if_pos q] at e
      cases e
      exact ⟨List.Pairwise.nil, (fun r hr => by cases hr), (fun r hr => by cases hr)⟩
    · rw [if_neg q] at e
      obtain ⟨k1, k2, k3⟩ := h.rows y b c e
      exact ⟨k1, k2, fun r hr => ⟨(k3 r hr).1, some' (k3 r hr).2⟩⟩
  · rw [refs_new]
    show c = refs S y + ([] : List Int).count y + _
    rw [List.count_nil, Nat.add_zero]
    rw [box_new] at e
    by_cases q : y = (S.made : Int) + 1
    · rw [if_pos q] at e
      cases e
      rw [q, refs_none h hn, List.count_eq_zero_of_not_mem fun hy => by have := h.there _ hy; rw [hn] at this; cases this]
    · rw [if_neg q] at e
      exact h.cnt y b c e
theorem TInv.newBranch {S : PS} {R : List Int} (h : TInv S R) {rs : Rw} (hs : SrR rs) (ho : ∀ r ∈ rs, okN r.1 = true) (hr : ∀ r ∈ rs, (S.box r.2).isSome = true) (hl : rs.length ≤ 5000) (hm : S.made ≤ 2900) : TInv ((S.holds (rs.map (·.2))).new (.branch rs)) R := by
  have h2 := h.holds (zs := rs.map (·.2)) fun z hz => by
    obtain ⟨r, hr', rfl⟩ := List.mem_map.mp hz
    exact hr r hr'
  have hmade : (S.holds (rs.map (·.2))).made = S.made := PS.holds_made _ _
  have hn := h2.none_next
  have below : ∀ r ∈ rs, r.2 < (S.made : Int) + 1 := fun r hr' => by
    obtain ⟨x, ex⟩ := Option.isSome_iff_exists.mp (hr r hr')
    have := h.ok.dom _ _ ex
    omega
  have some' : ∀ {y}, ((S.holds (rs.map (·.2))).box y).isSome = true → (((S.holds (rs.map (·.2))).new (.branch rs)).box y).isSome = true := fun {y} e => by
    rw [box_new]
    by_cases q : y = ((S.holds (rs.map (·.2))).made : Int) + 1
    · rw [if_pos q] <;> rfl
    · rw [if_neg q]; exact e
  refine ⟨h2.ok.new hl (by rw [hmade]; exact hm), fun y b c e => ?_, fun y b c e => ?_, fun y hy => some' (h2.there y (List.mem_append_right _ hy))⟩
  · rw [box_new] at e
    by_cases q : y = ((S.holds (rs.map (·.2))).made : Int) + 1
    · rw [if_pos q] at e
      cases e
      refine ⟨hs, ho, fun r hr' => ⟨?_, some' ?_⟩⟩
      · rw [q, hmade]
        exact below r hr'
      · rw [PS.holds_some]
        exact hr r hr'
    · rw [if_neg q] at e
      obtain ⟨k1, k2, k3⟩ := h2.rows y b c e
      exact ⟨k1, k2, fun r hr => ⟨(k3 r hr).1, some' (k3 r hr).2⟩⟩
  · rw [refs_new]
    show c = refs _ y + (rs.map (·.2)).count y + R.count y
    rw [box_new] at e
    by_cases q : y = ((S.holds (rs.map (·.2))).made : Int) + 1
    · rw [if_pos q] at e
      cases e
      have z1 : (rs.map (·.2)).count y = 0 := List.count_eq_zero_of_not_mem fun hy => by
        obtain ⟨r, hr', e'⟩ := List.mem_map.mp hy
        have := below r hr'
        rw [hmade] at q
        omega
      have z2 : R.count y = 0 := List.count_eq_zero_of_not_mem fun hy => by
        have := h2.there y (List.mem_append_right _ hy)
        rw [q, hn] at this
        cases this
      rw [z1, z2, q, refs_none h2 hn]
    · rw [if_neg q] at e
      rw [h2.cnt y b c e, List.count_append, List.count_reverse, Nat.add_assoc]
/-- a box that waits is let go -/
theorem TInv.step {S : PS} {z : Int} {w R : List Int} (h : TInv S (z :: (w ++ R))) : TInv (S.step z).1 ((S.step z).2.1.reverse ++ w ++ R) := by
  obtain ⟨x, ex⟩ := Option.isSome_iff_exists.mp (h.there z List.mem_cons_self)
  obtain ⟨b, c⟩ := x
  have hc := h.cnt z b c ex
  rw [List.count_cons_self] at hc
  obtain ⟨d1, d2⟩ := h.ok.dom _ _ ex
  unfold PS.step
  rw [ex]
  dsimp only
  by_cases q : c - 1 = 0
  · rw [if_pos q]
    have hr0 : refs S z = 0 := by omega
    have hw0 : (w ++ R).count z = 0 := by omega
    have hw : ∀ y ∈ w ++ R, y ≠ z := fun y hy e => by
      rw [e] at hy
      have := List.count_pos_iff.mpr hy
      omega
    have nor : ∀ {y b' c'}, S.box y = some (b', c') → ∀ r ∈ b'.rows, r.2 ≠ z := fun {y b' c'} e r hr hz => by
      obtain ⟨y1, y2⟩ := h.ok.dom _ _ e
      have hi : y.toNat - 1 < S.made := by omega
      have hle := cntAt_le S z _ hi
      unfold cntAt at hle
      rw [show ((y.toNat - 1 : Nat) : Int) + 1 = y by omega, rowsO_some e] at hle
      have : 0 < (b'.rows.map (·.2)).count z := List.count_pos_iff.mpr (List.mem_map.mpr ⟨r, hr, hz⟩)
      omega
    have keep : ∀ {y}, y ≠ z → (S.box y).isSome = true → ((S.drop z).box y).isSome = true := fun {y} hy e => by
      rw [box_drop, if_neg hy]
      exact e
    refine ⟨h.ok.drop z, fun y b' c' e => ?_, fun y b' c' e => ?_, fun y hy => ?_⟩
    · rw [box_drop] at e
      by_cases qy : y = z
      · rw [if_pos qy] at e; cases e
      · rw [if_neg qy] at e
        obtain ⟨k1, k2, k3⟩ := h.rows y b' c' e
        exact ⟨k1, k2, fun r hr => ⟨(k3 r hr).1, keep (nor e r hr) (k3 r hr).2⟩⟩
    · rw [box_drop] at e
      by_cases qy : y = z
      · rw [if_pos qy] at e; cases e
      · rw [if_neg qy] at e
        have e1 := h.cnt y b' c' e
        have e2 := refs_drop (S := S) d1 d2 y
        rw [rowsO_some ex] at e2
        rw [List.count_cons_of_ne (Ne.symm qy)] at e1
        show c' = refs (S.drop z) y + ((b.rows.map (·.2)).reverse ++ w ++ R).count y
        rw [List.append_assoc, List.count_append, List.count_reverse]
        omega
    · rw [List.append_assoc] at hy
      rcases List.mem_append.mp hy with hy | hy
      · obtain ⟨r, hr, rfl⟩ := List.mem_map.mp (List.mem_reverse.mp hy)
        exact keep (nor ex r hr) ((h.rows z b c ex).2.2 r hr).2
      · exact keep (hw y hy) (h.there y (List.mem_cons_of_mem _ hy))
  · rw [if_neg q]
    have back : ∀ {y b' c'}, (S.lower z).box y = some (b', c') → ∃ c0, S.box y = some (b', c0) ∧ c' = c0 - if y = z then 1 else 0 := fun {y b' c'} e => by
      rw [box_lower] at e
      by_cases qy : y = z
      · rw [if_pos qy] at e ⊢
        obtain ⟨x, e1, e2⟩ := Option.map_eq_some_iff.mp e
        cases e2
        exact ⟨x.2, e1, rfl⟩
      · rw [if_neg qy] at e ⊢
        exact ⟨c', e, rfl⟩
    have keep : ∀ {y}, (S.box y).isSome = true → ((S.lower z).box y).isSome = true := fun {y} e => by
      rw [box_lower]
      by_cases qy : y = z
      · rw [if_pos qy, Option.isSome_map]; exact e
      · rw [if_neg qy]; exact e
    refine ⟨h.ok.lower z, fun y b' c' e => ?_, fun y b' c' e => ?_, fun y hy => ?_⟩
    · obtain ⟨c0, e1, _⟩ := back e
      obtain ⟨k1, k2, k3⟩ := h.rows y b' c0 e1
      exact ⟨k1, k2, fun r hr => ⟨(k3 r hr).1, keep (k3 r hr).2⟩⟩
    · obtain ⟨c0, e1, e2⟩ := back e
      have e3 := h.cnt y b' c0 e1
      rw [refs_lower, List.reverse_nil, List.nil_append]
      by_cases qy : y = z
      · rw [if_pos qy] at e2
        rw [qy, List.count_cons_self] at e3
        rw [qy]
        omega
      · rw [if_neg qy] at e2
        rw [List.count_cons_of_ne (Ne.symm qy)] at e3
        omega
    · rw [List.reverse_nil, List.nil_append] at hy
      exact keep (h.there y (List.mem_cons_of_mem _ hy))
theorem TInv.run : ∀ (n : Nat) (S : PS) (w R : List Int) (g : Nat), S.left w ≤ n → TInv S (w ++ R) → TInv (PS.run n S w g).1 R
  | 0, S, w, R, g, hl, h => by
    have : w = [] := List.length_eq_zero_iff.mp (by unfold PS.left at hl; omega)
    rw [this] at h
    exact h
  | n + 1, S, [], R, g, _, h => h
  | n + 1, S, z :: w, R, g, hl, h => by
    obtain ⟨e, _, _⟩ := PS.step_left h.ok z w
    exact TInv.run n _ _ _ _ (by omega) h.step
theorem TInv.letGo {S : PS} {z : Int} {R : List Int} (h : TInv S (z :: R)) : TInv (S.letGo z).1 R := by
  rw [PS.letGo_eq]
  exact TInv.run _ _ [z] R 0 (Nat.le_refl _) h
end My
namespace My
open PySem PySem.Spec PyProof.Rows L2
/-! ### ways down a tree -/
def bxO (S : PS) : Option Int → Option Bx
  | none => none
  | some z => (S.box z).map (·.1)
def rowsB : Option Bx → Rw
  | some b => b.rows
  | none => []
def kindB : Option Bx → V
  | some (.branch _) => .str "branch"
  | some (.leaf _) => .str "leaf"
  | none => .non
def numB : Option Bx → V
  | some (.leaf n) => .int n
  | _ => .non
theorem rowsO_bx (S : PS) (o : Option Int) : rowsO S o = rowsB (bxO S o) := by
  cases o with
  | none => rfl
  | some z =>
    unfold rowsO bxO
    dsimp only
    cases S.box z <;> rfl
theorem bxO_some {S : PS} {z : Int} {b : Bx} {c : Nat} (h : S.box z = some (b, c)) : bxO S (some z) = some b := by
  unfold bxO
  dsimp only
  rw [h] <;> rfl
theorem bxO_at {S : PS} {z : Int} {b : Bx} (h : bxO S (some z) = some b) : ∃ c, S.box z = some (b, c) := by
  unfold bxO at h
  dsimp only at h
  cases e : S.box z with
  | none => rw [e] at h; cases h
  | some x =>
    rw [e] at h
    have : x.1 = b := by simpa using h
    exact ⟨x.2, by rw [← this]⟩
theorem bxO_is (S : PS) (z : Int) : (bxO S (some z)).isSome = (S.box z).isSome := by
  unfold bxO
  dsimp only
  rw [Option.isSome_map]
def nextF (S : PS) (o : Option Int) (n : Str) : Option Int := findR (rowsO S o) n
def walkF (S : PS) (o : Option Int) (ns : List Str) : Option Int := ns.foldl (nextF S) o
def wayF (S : PS) : Option Int → List Str → List (Option Int)
  | o, [] => [o]
  | o, n :: ns => o :: wayF S (nextF S o n) ns
def pairsF (S : PS) : Option Int → List Str → List (Option Int × Str)
  | _, [] => []
  | o, n :: ns => (o, n) :: pairsF S (nextF S o n) ns
theorem nextF_none (S : PS) (n : Str) : nextF S none n = none := rfl
theorem walkF_none (S : PS) : ∀ ns : List Str, walkF S none ns = none
  | [] => rfl
  | _ :: ns => walkF_none S ns
theorem walkF_nil (S : PS) (o : Option Int) : walkF S o [] = o := rfl
theorem walkF_cons (S : PS) (o : Option Int) (n : Str) (ns : List Str) : walkF S o (n :: ns) = walkF S (nextF S o n) ns := rfl
theorem walkF_app (S : PS) (o : Option Int) (a b : List Str) : walkF S o (a ++ b) = walkF S (walkF S o a) b := by
  unfold walkF
  rw [List.foldl_append]
theorem walkF_snoc (S : PS) (o : Option Int) (a : List Str) (n : Str) : walkF S o (a ++ [n]) = nextF S (walkF S o a) n := walkF_app S o a [n]
theorem wayF_len (S : PS) : ∀ (o : Option Int) (ns : List Str), (wayF S o ns).length = ns.length + 1
  | _, [] => rfl
  | o, n :: ns => by
    show (wayF S (nextF S o n) ns).length + 1 = _
    rw [wayF_len S _ ns] <;> rfl
theorem wayF_snoc (S : PS) : ∀ (o : Option Int) (ns : List Str) (n : Str), wayF S o (ns ++ [n]) = wayF S o ns ++ [walkF S o (ns ++ [n])]
  | _, [], _ => rfl
  | o, m :: ns, n => by
    show o :: wayF S (nextF S o m) (ns ++ [n]) = o :: (wayF S (nextF S o m) ns ++ [walkF S (nextF S o m) (ns ++ [n])])
    rw [wayF_snoc S _ ns n]
theorem wayF_split (S : PS) : ∀ (o : Option Int) (ns : List Str), wayF S o ns = (pairsF S o ns).map (·.1) ++ [walkF S o ns]
  | _, [] => rfl
  | o, m :: ns => by
    show o :: wayF S (nextF S o m) ns = _
    rw [wayF_split S _ ns] <;> rfl
theorem pairsF_snd (S : PS) : ∀ (o : Option Int) (ns : List Str), (pairsF S o ns).map (·.2) = ns
  | _, [] => rfl
  | o, m :: ns => congrArg (m :: ·) (pairsF_snd S (nextF S o m) ns)
theorem pairsF_len (S : PS) (o : Option Int) (ns : List Str) : (pairsF S o ns).length = ns.length := by
  have := congrArg List.length (pairsF_snd S o ns)
  rw [List.length_map] at this
  exact this
theorem pairsF_snoc (S : PS) : ∀ (o : Option Int) (ns : List Str) (n : Str), pairsF S o (ns ++ [n]) = pairsF S o ns ++ [(walkF S o ns, n)]
  | _, [], _ => rfl
  | o, m :: ns, n => congrArg ((o, m) :: ·) (pairsF_snoc S (nextF S o m) ns n)
theorem pairsF_get (S : PS) : ∀ (o : Option Int) (ns : List Str) (i : Nat) (n : Str), ns[i]? = some n → (pairsF S o ns)[i]? = some (walkF S o (ns.take i), n)
  | _, [], _, _, h => by simp at h
  | o, m :: ns, 0, n, h => by
    have : m = n := by simpa using h
    subst this
    rfl
  | o, m :: ns, i + 1, n, h => by
    show (pairsF S (nextF S o m) ns)[i]? = _
    rw [pairsF_get S _ ns i n (by simpa using h)] <;> rfl
/-- a branch made with rows -/
def mkB (S : PS) (rs : Rw) : PS := (S.holds (rs.map (·.2))).new (.branch rs)
theorem mkB_made (S : PS) (rs : Rw) : (mkB S rs).made = S.made + 1 := by
  show (S.holds _).made + 1 = _
  rw [PS.holds_made]
def leadF (ps : List (Option Int × Str)) (S : PS) (z : Int) : PS × Int := ps.foldr (fun p a => (mkB a.1 (putR (rowsO a.1 p.1) p.2 a.2), (a.1.made : Int) + 1)) (S, z)
theorem leadF_cons (p : Option Int × Str) (ps : List (Option Int × Str)) (S : PS) (z : Int) : leadF (p :: ps) S z = (mkB (leadF ps S z).1 (putR (rowsO (leadF ps S z).1 p.1) p.2 (leadF ps S z).2), ((leadF ps S z).1.made : Int) + 1) := rfl
theorem leadF_made (S : PS) (z : Int) : ∀ ps : List (Option Int × Str), (leadF ps S z).1.made = S.made + ps.length
  | [] => rfl
  | p :: ps => by
    rw [leadF_cons]
    dsimp only
    rw [mkB_made, leadF_made S z ps] <;> rfl
theorem leadF_top (S : PS) (z : Int) {ps : List (Option Int × Str)} (h : ps ≠ []) : (leadF ps S z).2 = (S.made : Int) + ps.length := by
  cases ps with
  | nil => exact absurd rfl h
  | cons p ps =>
    rw [leadF_cons]
    dsimp only
    rw [leadF_made]
    simp only [List.length_cons]
    omega
/-! ### a pile that has grown: what was there has the same in it -/
structure Ext (S S' : PS) : Prop where
  made : S.made ≤ S'.made
  same : ∀ z : Int, z ≤ S.made → bxO S' (some z) = bxO S (some z)
theorem Ext.refl (S : PS) : Ext S S := ⟨Nat.le_refl _, fun _ _ => rfl⟩
theorem Ext.trans {S S1 S2 : PS} (a : Ext S S1) (b : Ext S1 S2) : Ext S S2 := ⟨Nat.le_trans a.made b.made, fun z hz => by
  have := a.made
  rw [b.same z (by omega), a.same z hz]⟩
theorem bxO_hold (S : PS) (y : Int) (o : Option Int) : bxO (S.hold y) o = bxO S o := by
  cases o with
  | none => rfl
  | some z =>
    unfold bxO
    dsimp only
    rw [box_hold]
    by_cases q : z = y
    · rw [if_pos q]
      cases S.box z <;> rfl
    · rw [if_neg q]
theorem bxO_holds (S : PS) (zs : List Int) (o : Option Int) : bxO (S.holds zs) o = bxO S o := by
  induction zs generalizing S with
  | nil => rfl
  | cons z zs ih =>
    show bxO ((S.hold z).holds zs) o = _
    rw [ih, bxO_hold]
theorem bxO_new (S : PS) (b : Bx) (z : Int) : bxO (S.new b) (some z) = if z = (S.made : Int) + 1 then some b else bxO S (some z) := by
  unfold bxO
  dsimp only
  rw [box_new]
  by_cases q : z = (S.made : Int) + 1
  · rw [if_pos q, if_pos q] <;> rfl
  · rw [if_neg q, if_neg q]
theorem Ext.hold (S : PS) (y : Int) : Ext S (S.hold y) := ⟨Nat.le_refl _, fun z _ => bxO_hold S y (some z)⟩
theorem Ext.new (S : PS) (b : Bx) : Ext S (S.new b) := ⟨Nat.le_succ _, fun z hz => by rw [bxO_new, if_neg (by omega)]⟩
theorem bxO_mkB (S : PS) (rs : Rw) (z : Int) : bxO (mkB S rs) (some z) = if z = (S.made : Int) + 1 then some (.branch rs) else bxO S (some z) := by
  unfold mkB
  rw [bxO_new, PS.holds_made, bxO_holds]
theorem Ext.mkB (S : PS) (rs : Rw) : Ext S (mkB S rs) := ⟨by rw [mkB_made]; omega, fun z hz => by rw [bxO_mkB, if_neg (by omega)]⟩
theorem Ext.lead (S : PS) (z : Int) : ∀ ps : List (Option Int × Str), Ext S (leadF ps S z).1
  | [] => Ext.refl S
  | p :: ps => (Ext.lead S z ps).trans (Ext.mkB _ _)
theorem Ext.rows {S S' : PS} (e : Ext S S') {o : Option Int} (ho : ∀ z, o = some z → z ≤ S.made) : rowsO S' o = rowsO S o := by
  rw [rowsO_bx, rowsO_bx]
  cases o with
  | none => rfl
  | some z => rw [e.same z (ho z rfl)]
/-! ### what is there at all -/
structure TOk (S : PS) (R : List Int) : Prop extends TInv S R where
  held : ∀ z b c, S.box z = some (b, c) → 1 ≤ c
  few : ∀ z b c, S.box z = some (b, c) → b.rows.length ≤ S.made
theorem TInv.low {S : PS} {R : List Int} (h : TInv S R) {o : Option Int} {n : Str} {z : Int} (e : nextF S o n = some z) : (S.box z).isSome = true ∧ z ≤ S.made ∧ 1 ≤ z ∧ ∀ y, o = some y → z < y := by
  unfold nextF findR at e
  obtain ⟨r, er, rfl⟩ := Option.map_eq_some_iff.mp e
  have hm := List.mem_of_find?_eq_some er
  cases o with
  | none => cases hm
  | some y =>
    unfold rowsO at hm
    dsimp only at hm
    cases ey : S.box y with
    | none => rw [ey] at hm; cases hm
    | some x =>
      rw [ey] at hm
      obtain ⟨h1, h2⟩ := (h.rows y x.1 x.2 ey).2.2 r hm
      obtain ⟨x2, e2⟩ := Option.isSome_iff_exists.mp h2
      have := h.ok.dom _ _ e2
      exact ⟨h2, this.2, this.1, fun y' q => by cases q; exact h1⟩
/-- a place is a box that is there, or nothing -/
def Fit (S : PS) (o : Option Int) : Prop := ∀ z, o = some z → (S.box z).isSome = true
theorem Fit.none (S : PS) : Fit S none := fun _ e => nomatch e
theorem Fit.le {S : PS} {R : List Int} (h : TInv S R) {o : Option Int} (f : Fit S o) : ∀ z, o = some z → z ≤ S.made := fun z e => by
  obtain ⟨x, ex⟩ := Option.isSome_iff_exists.mp (f z e)
  exact (h.ok.dom z x ex).2
theorem TInv.next {S : PS} {R : List Int} (h : TInv S R) (o : Option Int) (n : Str) : Fit S (nextF S o n) := fun z e => (h.low e).1
theorem TInv.walk {S : PS} {R : List Int} (h : TInv S R) : ∀ (ns : List Str) {o : Option Int}, Fit S o → Fit S (walkF S o ns)
  | [], _, f => f
  | n :: ns, o, _ => h.walk ns (h.next o n)
theorem TInv.pairs {S : PS} {R : List Int} (h : TInv S R) : ∀ (ns : List Str) {o : Option Int}, Fit S o → ∀ p ∈ pairsF S o ns, Fit S p.1 ∧ p.2 ∈ ns
  | [], _, _, p, hp => by cases hp
  | n :: ns, o, f, p, hp => by
    rcases List.mem_cons.mp hp with e | hp
    · rw [e]; exact ⟨f, List.mem_cons_self⟩
    · obtain ⟨a, b⟩ := h.pairs ns (h.next o n) p hp
      exact ⟨a, List.mem_cons_of_mem _ b⟩
theorem rowsO_srt {S : PS} {R : List Int} (h : TInv S R) (o : Option Int) : SrR (rowsO S o) ∧ (∀ r ∈ rowsO S o, okN r.1 = true) ∧ ∀ r ∈ rowsO S o, (S.box r.2).isSome = true := by
  cases o with
  | none => exact ⟨List.Pairwise.nil, (fun r hr => nomatch hr), (fun r hr => nomatch hr)⟩
  | some z =>
    cases e : S.box z with
    | none =>
      rw [rowsO_none e]
      exact ⟨List.Pairwise.nil, (fun r hr => nomatch hr), (fun r hr => nomatch hr)⟩
    | some x =>
      rw [rowsO_some (b := x.1) (c := x.2) e]
      obtain ⟨a, b, c⟩ := h.rows z x.1 x.2 e
      exact ⟨a, b, fun r hr => (c r hr).2⟩
theorem mem_putR {rs : Rw} {n : Str} {b : Int} {r : Str × Int} (h : r ∈ putR rs n b) : r ∈ rs ∨ r = (n, b) := by
  unfold putR at h
  rcases List.mem_append.mp h with h | h
  · exact .inl (List.mem_filter.mp h).1
  · rcases List.mem_cons.mp h with h | h
    · exact .inr h
    · exact .inl (List.mem_filter.mp h).1
theorem mem_delR {rs : Rw} {n : Str} {r : Str × Int} (h : r ∈ delR rs n) : r ∈ rs := by
  unfold delR at h
  rcases List.mem_append.mp h with h | h
  · exact (List.mem_filter.mp h).1
  · exact (List.mem_filter.mp h).1
theorem delR_len (rs : Rw) (n : Str) : (delR rs n).length ≤ rs.length := by
  have := putR_len rs n 0
  unfold putR at this
  unfold delR
  rw [List.length_append] at this ⊢
  rw [List.length_cons] at this
  omega
theorem TOk.rowsLen {S : PS} {R : List Int} (h : TOk S R) (o : Option Int) : (rowsO S o).length ≤ S.made := by
  cases o with
  | none => exact Nat.zero_le _
  | some z =>
    cases e : S.box z with
    | none => rw [rowsO_none e]; exact Nat.zero_le _
    | some x => rw [rowsO_some (b := x.1) (c := x.2) e]; exact h.few z x.1 x.2 e
/-! ### a pile under way: the box made last may be held by nobody yet -/
structure TMid (S : PS) (R : List Int) (t : Int) : Prop extends TInv S R where
  heldM : ∀ z b c, S.box z = some (b, c) → z ≠ t → 1 ≤ c
  few : ∀ z b c, S.box z = some (b, c) → b.rows.length ≤ S.made
  is : (S.box t).isSome = true
theorem TMid.rowsLen {S : PS} {R : List Int} {t : Int} (h : TMid S R t) (o : Option Int) : (rowsO S o).length ≤ S.made := by
  cases o with
  | none => exact Nat.zero_le _
  | some z =>
    cases e : S.box z with
    | none => rw [rowsO_none e]; exact Nat.zero_le _
    | some x => rw [rowsO_some (b := x.1) (c := x.2) e]; exact h.few z x.1 x.2 e
theorem holds_count (S : PS) : ∀ (zs : List Int) (y : Int) (b : Bx) (c : Nat), (S.holds zs).box y = some (b, c) → ∃ c', S.box y = some (b, c') ∧ c = c' + zs.count y := fun zs => by
  induction zs generalizing S with
  | nil => intro y b c e; exact ⟨c, e, rfl⟩
  | cons z zs ih =>
    intro y b c e
    obtain ⟨c1, e1, k1⟩ := ih (S.hold z) y b c e
    rw [box_hold] at e1
    by_cases q : y = z
    · rw [if_pos q] at e1
      obtain ⟨x, e2, e3⟩ := Option.map_eq_some_iff.mp e1
      cases e3
      refine ⟨x.2, e2, ?_⟩
      rw [k1, q, List.count_cons_self]
      omega
    · rw [if_neg q] at e1
      refine ⟨c1, e1, ?_⟩
      rw [k1, List.count_cons_of_ne (Ne.symm q)]
/-- a branch above the box made last, and others -/
theorem TMid.mkB {S : PS} {R : List Int} {t : Int} (h : TMid S R t) {rs : Rw} (hs : SrR rs) (ho : ∀ r ∈ rs, okN r.1 = true) (hr : ∀ r ∈ rs, (S.box r.2).isSome = true) (ht : t ∈ rs.map (·.2)) (hl : rs.length ≤ S.made + 1) (hm : S.made ≤ 2900) : TMid (mkB S rs) R ((S.made : Int) + 1) := by
  have hn := h.toTInv.none_next
  refine ⟨h.toTInv.newBranch hs ho hr (by omega) hm, fun z b c e q => ?_, fun z b c e => ?_, ?_⟩
  · unfold My.mkB at e
    rw [box_new, PS.holds_made, if_neg q] at e
    obtain ⟨c', e1, e2⟩ := holds_count S _ z b c e
    by_cases qt : z = t
    · have : 0 < (rs.map (·.2)).count z := List.count_pos_iff.mpr (by rw [qt]; exact ht)
      omega
    · have := h.heldM z b c' e1 qt
      omega
  · have := mkB_made S rs
    unfold My.mkB at e
    rw [box_new, PS.holds_made] at e
    by_cases q : z = (S.made : Int) + 1
    · rw [if_pos q] at e
      cases e
      show rs.length ≤ _
      omega
    · rw [if_neg q] at e
      obtain ⟨c', e1, _⟩ := holds_count S _ z b c e
      have := h.few z b c' e1
      omega
  · unfold My.mkB
    rw [box_new, PS.holds_made, if_pos rfl] <;> rfl
theorem TOk.leaf {S : PS} {R : List Int} (h : TOk S R) (n : Int) (hm : S.made ≤ 2900) : TMid (S.new (.leaf n)) R ((S.made : Int) + 1) := by
  refine ⟨h.toTInv.newLeaf n hm, fun z b c e q => ?_, fun z b c e => ?_, ?_⟩
  · rw [box_new, if_neg q] at e
    exact h.held z b c e
  · show _ ≤ S.made + 1
    rw [box_new] at e
    by_cases q : z = (S.made : Int) + 1
    · rw [if_pos q] at e
      cases e
      exact Nat.zero_le _
    · rw [if_neg q] at e
      have := h.few z b c e
      omega
  · rw [box_new, if_pos rfl] <;> rfl
/-- a branch alone -/
theorem TOk.mkB {S : PS} {R : List Int} (h : TOk S R) {rs : Rw} (hs : SrR rs) (ho : ∀ r ∈ rs, okN r.1 = true) (hr : ∀ r ∈ rs, (S.box r.2).isSome = true) (hl : rs.length ≤ S.made + 1) (hm : S.made ≤ 2900) : TMid (mkB S rs) R ((S.made : Int) + 1) := by
  refine ⟨h.toTInv.newBranch hs ho hr (by omega) hm, fun z b c e q => ?_, fun z b c e => ?_, ?_⟩
  · unfold My.mkB at e
    rw [box_new, PS.holds_made, if_neg q] at e
    obtain ⟨c', e1, e2⟩ := holds_count S _ z b c e
    have := h.held z b c' e1
    omega
  · have := mkB_made S rs
    unfold My.mkB at e
    rw [box_new, PS.holds_made] at e
    by_cases q : z = (S.made : Int) + 1
    · rw [if_pos q] at e
      cases e
      show rs.length ≤ _
      omega
    · rw [if_neg q] at e
      obtain ⟨c', e1, _⟩ := holds_count S _ z b c e
      have := h.few z b c' e1
      omega
  · unfold My.mkB
    rw [box_new, PS.holds_made, if_pos rfl] <;> rfl
/-- the way led to it -/
theorem TMid.lead {S : PS} {R : List Int} {t : Int} (h : TMid S R t) : ∀ (ps : List (Option Int × Str)), (∀ p ∈ ps, Fit S p.1 ∧ okN p.2 = true) → S.made + ps.length ≤ 2900 → TMid (leadF ps S t).1 R (leadF ps S t).2
  | [], _, _ => h
  | p :: ps, hp, hm => by
    rw [List.length_cons] at hm
    have ih := h.lead ps (fun q hq => hp q (List.mem_cons_of_mem _ hq)) (by omega)
    have e := leadF_made S t ps
    obtain ⟨f, ok⟩ := hp p List.mem_cons_self
    rw [leadF_cons]
    obtain ⟨k1, k2, k3⟩ := rowsO_srt ih.toTInv p.1
    have kl := putR_len (rowsO (leadF ps S t).1 p.1) p.2 (leadF ps S t).2
    have kl2 := ih.rowsLen p.1
    refine ih.mkB (k1.put _ _) (fun r hr => ?_) (fun r hr => ?_) ?_ (by omega) (by omega)
    · rcases mem_putR hr with hr | rfl
      · exact k2 r hr
      · exact ok
    · rcases mem_putR hr with hr | rfl
      · exact k3 r hr
      · exact ih.is
    · refine List.mem_map.mpr ⟨(p.2, (leadF ps S t).2), ?_, rfl⟩
      unfold putR
      exact List.mem_append_right _ List.mem_cons_self
/-- made the tree's top -/
theorem TMid.hold {S : PS} {R : List Int} {t : Int} (h : TMid S R t) : TOk (S.hold t) (t :: R) := by
  refine ⟨h.toTInv.hold h.is, fun z b c e => ?_, fun z b c e => ?_⟩
  · rw [box_hold] at e
    by_cases q : z = t
    · rw [if_pos q] at e
      obtain ⟨x, e2, e3⟩ := Option.map_eq_some_iff.mp e
      cases e3
      exact Nat.succ_le_succ (Nat.zero_le _)
    · rw [if_neg q] at e
      exact h.heldM z b c e q
  · rw [box_hold] at e
    show _ ≤ S.made
    by_cases q : z = t
    · rw [if_pos q] at e
      obtain ⟨x, e2, e3⟩ := Option.map_eq_some_iff.mp e
      cases e3
      exact h.few z x.1 x.2 e2
    · rw [if_neg q] at e
      exact h.few z b c e
theorem TOk.mid {S : PS} {R : List Int} (h : TOk S R) {t : Int} (ht : (S.box t).isSome = true) : TMid S R t := ⟨h.toTInv, fun z b c e _ => h.held z b c e, h.few, ht⟩
theorem TOk.hold {S : PS} {R : List Int} (h : TOk S R) {t : Int} (ht : (S.box t).isSome = true) : TOk (S.hold t) (t :: R) := (h.mid ht).hold
/-! ### let go: what is left is what was there -/
structure Les (S S' : PS) : Prop where
  made : S'.made = S.made
  sub : ∀ z b c, S'.box z = some (b, c) → ∃ c', S.box z = some (b, c')
theorem Les.refl (S : PS) : Les S S := ⟨rfl, fun _ _ c e => ⟨c, e⟩⟩
theorem Les.trans {S S1 S2 : PS} (a : Les S S1) (b : Les S1 S2) : Les S S2 := ⟨b.made.trans a.made, fun z x c e => by
  obtain ⟨c1, e1⟩ := b.sub z x c e
  exact a.sub z x c1 e1⟩
theorem Les.step (S : PS) (z : Int) : Les S (S.step z).1 := by
  unfold PS.step
  cases e : S.box z with
  | none => exact Les.refl S
  | some x =>
    obtain ⟨b, c⟩ := x
    dsimp only
    by_cases q : c - 1 = 0
    · rw [if_pos q]
      refine ⟨rfl, fun y b' c' e' => ?_⟩
      rw [box_drop] at e'
      by_cases qy : y = z
      · rw [if_pos qy] at e'; cases e'
      · rw [if_neg qy] at e'; exact ⟨c', e'⟩
    · rw [if_neg q]
      refine ⟨rfl, fun y b' c' e' => ?_⟩
      rw [box_lower] at e'
      by_cases qy : y = z
      · rw [if_pos qy] at e'
        obtain ⟨x, e2, e3⟩ := Option.map_eq_some_iff.mp e'
        cases e3
        exact ⟨x.2, e2⟩
      · rw [if_neg qy] at e'; exact ⟨c', e'⟩
theorem Les.run : ∀ (n : Nat) (S : PS) (w : List Int) (g : Nat), Les S (PS.run n S w g).1
  | 0, S, _, _ => Les.refl S
  | _ + 1, S, [], _ => Les.refl S
  | n + 1, S, z :: w, _ => (Les.step S z).trans (Les.run n _ _ _)
theorem Les.letGo (S : PS) (z : Int) : Les S (S.letGo z).1 := Les.run _ _ _ _
theorem held_step {S : PS} (h : ∀ z b c, S.box z = some (b, c) → 1 ≤ c) (z : Int) : ∀ y b c, (S.step z).1.box y = some (b, c) → 1 ≤ c := by
  unfold PS.step
  cases e : S.box z with
  | none => exact h
  | some x =>
    obtain ⟨b, c⟩ := x
    dsimp only
    by_cases q : c - 1 = 0
    · rw [if_pos q]
      intro y b' c' e'
      rw [box_drop] at e'
      by_cases qy : y = z
      · rw [if_pos qy] at e'; cases e'
      · rw [if_neg qy] at e'; exact h y b' c' e'
    · rw [if_neg q]
      intro y b' c' e'
      rw [box_lower] at e'
      by_cases qy : y = z
      · rw [if_pos qy, qy, e] at e'
        have e2 : (b, c - 1) = (b', c') := Option.some.inj e'
        cases e2
        omega
      · rw [if_neg qy] at e'; exact h y b' c' e'
theorem held_run : ∀ (n : Nat) (S : PS) (w : List Int) (g : Nat), (∀ z b c, S.box z = some (b, c) → 1 ≤ c) → ∀ y b c, (PS.run n S w g).1.box y = some (b, c) → 1 ≤ c
  | 0, _, _, _, h => h
  | _ + 1, _, [], _, h => h
  | n + 1, _, _ :: _, _, h => held_run n _ _ _ (held_step h _)
theorem TOk.letGo {S : PS} {z : Int} {R : List Int} (h : TOk S (z :: R)) : TOk (S.letGo z).1 R := by
  have l := Les.letGo S z
  refine ⟨h.toTInv.letGo, held_run _ _ _ _ h.held, fun y b c e => ?_⟩
  obtain ⟨c', e'⟩ := l.sub y b c e
  rw [l.made]
  exact h.few y b c' e'
theorem TInv.perm {S : PS} {R R' : List Int} (h : TInv S R) (p : R.Perm R') : TInv S R' := ⟨h.ok, h.rows, fun z b c e => by rw [h.cnt z b c e, p.count_eq], fun z hz => h.there z (p.mem_iff.mpr hz)⟩
theorem TOk.perm {S : PS} {R R' : List Int} (h : TOk S R) (p : R.Perm R') : TOk S R' := ⟨h.toTInv.perm p, h.held, h.few⟩
/-- how many are there -/
def PS.keys (S : PS) : List Int := ((List.range S.made).map fun (i : Nat) => (i : Int) + 1).filter fun z => (S.box z).isSome
theorem PS.mem_keys {S : PS} (h : S.Ok) (z : Int) : z ∈ S.keys ↔ (S.box z).isSome = true := by
  unfold PS.keys
  rw [List.mem_filter]
  refine ⟨fun q => q.2, fun q => ⟨?_, q⟩⟩
  obtain ⟨x, ex⟩ := Option.isSome_iff_exists.mp q
  exact ((upto S.made).2 z).mpr (h.dom z x ex)
theorem PS.keys_lt (S : PS) : S.keys.Pairwise (· < ·) := (upto S.made).1.sublist List.filter_sublist
theorem filter_one {l : List Int} {p q : Int → Bool} {z : Int} (hn : l.Nodup) (hz : z ∈ l) (hp : p z = true) (hq : q z = false) (h : ∀ y, y ≠ z → q y = p y) : (l.filter q).length + 1 = (l.filter p).length := by
  induction l with
  | nil => cases hz
  | cons y l ih =>
    obtain ⟨h1, h2⟩ := List.nodup_cons.mp hn
    rcases List.mem_cons.mp hz with e | e
    · subst e
      have : l.filter q = l.filter p := List.filter_congr fun x hx => h x fun e => h1 (e ▸ hx)
      rw [List.filter_cons_of_pos hp, List.filter_cons_of_neg (by rw [hq]; exact Bool.false_ne_true), this] <;> rfl
    · have ne : y ≠ z := fun q => h1 (q ▸ e)
      rw [List.filter_cons, List.filter_cons, h y ne]
      have := ih h2 e
      split
      · rw [List.length_cons, List.length_cons]; omega
      · exact this
theorem PS.step_keys {S : PS} (h : S.Ok) (z : Int) : (S.step z).1.keys.length + (S.step z).2.2 = S.keys.length := by
  unfold PS.step
  cases e : S.box z with
  | none => rfl
  | some x =>
    obtain ⟨b, c⟩ := x
    dsimp only
    by_cases q : c - 1 = 0
    · rw [if_pos q]
      dsimp only
      unfold PS.keys
      refine filter_one (z := z) (((upto S.made).1).imp fun {a b} h => by omega) (((upto S.made).2 z).mpr (h.dom z _ e)) (by rw [e] <;> rfl) (by rw [box_drop, if_pos rfl] <;> rfl) fun y hy => by rw [box_drop, if_neg hy]
    · rw [if_neg q]
      dsimp only
      unfold PS.keys
      rw [Nat.add_zero]
      congr 1
      refine List.filter_congr fun y _ => ?_
      rw [box_lower]
      split
      · rw [Option.isSome_map]
      · rfl
theorem PS.run_keys : ∀ (n : Nat) (S : PS) (w : List Int) (g : Nat), S.Ok → (PS.run n S w g).1.keys.length + (PS.run n S w g).2 = S.keys.length + g
  | 0, _, _, _, _ => rfl
  | _ + 1, _, [], _, _ => rfl
  | n + 1, S, z :: w, g, h => by
    have e := PS.step_keys h z
    show (PS.run n _ _ _).1.keys.length + (PS.run n _ _ _).2 = _
    rw [PS.run_keys n _ _ _ (PS.step_left h z w).2.1]
    omega
theorem PS.letGo_keys {S : PS} (h : S.Ok) (z : Int) : (S.letGo z).1.keys.length + (S.letGo z).2 = S.keys.length := PS.run_keys _ _ _ _ h
/-! ### the same is read where the same lies -/
theorem walk_same {S S' : PS} {R R' : List Int} (h : TInv S R) (h' : TInv S' R') (sub : ∀ (z : Int) b c, z ≤ S.made → S'.box z = some (b, c) → ∃ c', S.box z = some (b, c')) : ∀ (ns : List Str) (o : Option Int), Fit S' o → (∀ z, o = some z → z ≤ S.made) → walkF S' o ns = walkF S o ns ∧ bxO S' (walkF S' o ns) = bxO S (walkF S o ns)
  | [], o, f, hl => by
    refine ⟨rfl, ?_⟩
    show bxO S' o = bxO S o
    cases o with
    | none => rfl
    | some z =>
      obtain ⟨x, ex⟩ := Option.isSome_iff_exists.mp (f z rfl)
      obtain ⟨c', e'⟩ := sub z x.1 x.2 (hl z rfl) ex
      rw [bxO_some (b := x.1) (c := x.2) ex, bxO_some e']
  | n :: ns, o, f, hl => by
    have e : nextF S' o n = nextF S o n := by
      cases o with
      | none => rfl
      | some z =>
        obtain ⟨x, ex⟩ := Option.isSome_iff_exists.mp (f z rfl)
        obtain ⟨c', e'⟩ := sub z x.1 x.2 (hl z rfl) ex
        unfold nextF
        rw [rowsO_some (b := x.1) (c := x.2) ex, rowsO_some e']
    rw [walkF_cons, walkF_cons, e]
    refine walk_same h h' sub ns _ (by rw [← e]; exact h'.next o n) fun z q => (h.low q).2.1
end My
namespace My
open PySem PySem.Spec PyProof.Rows L2
/-! ### things: names, other things -/
def isS : V → Bool
  | .str _ => true
  | _ => false
def kinds : List String := ["int", "NoneType", "bool", "list", "tuple", "dict"]
/-- a thing that a law hands in: a text, or a thing of another built-in kind -/
def Itm (K : PySem.W.Frag) (H : Hp) (x : V) : Prop := (∃ z : Str, x = .str z ∧ z.length ≤ 1000) ∨ (∃ m, isS x = false ∧ TyX K H x (.type m) ∧ m ∈ kinds)
theorem kit_no {m : String} (h : m ∈ kinds) : kitB m "str" = some false := by
  simp only [kinds, List.mem_cons, List.not_mem_nil, or_false] at h
  rcases h with h | h | h | h | h | h <;> subst h <;> decide +kernel
theorem kit_yes : kitB "str" "str" = some true := by decide +kernel
theorem Gr.itm {K : PySem.W.Frag} {H H' : Hp} {x : V} (g : Gr H H') (h : Itm K H x) : Itm K H' x := by
  rcases h with h | ⟨m, a, b, c⟩
  · exact .inl h
  · exact .inr ⟨m, a, g.ty b, c⟩
theorem st_isStr {K : PySem.W.Frag} {H : Hp} {Q : VK} {x : V} (h : Itm K H x) (q : Q (.bl (isS x)) H) : rIsi K [x, .ty "str"] H Q := by
  rcases h with ⟨z, rfl, _⟩ | ⟨m, a, b, c⟩
  · exact st_isi (.base (.str z)) kit_yes q
  · rw [a] at q
    exact st_isi b (kit_no c) q
def okC (c : Nat) : Bool := decide (97 ≤ c) && decide (c ≤ 122)
/-- is_name -/
def isNm : V → Bool
  | .str z => decide (1 ≤ z.length) && decide (z.length ≤ 8) && z.cps.toList.all okC
  | _ => false
theorem isNm_not {x : V} (h : isS x = false) : isNm x = false := by
  cases x <;> first | rfl | (cases h)
theorem isNm_okN (z : Str) : isNm (.str z) = okN z := rfl
theorem lt_one (a b : Nat) : decide ([a] < [b]) = decide (a < b) := by
  rw [Bool.eq_iff_iff, decide_eq_true_iff, decide_eq_true_iff, List.cons_lt_cons_iff]
  simp
theorem tl_a : (Str.ofString "a").cps.toList = [97] := by decide +kernel
theorem tl_z : (Str.ofString "z").cps.toList = [122] := by decide +kernel
theorem pb_eq (c : Nat) : (!decide ([c] < (Str.ofString "a").cps.toList) && !decide ((Str.ofString "z").cps.toList < [c])) = okC c := by
  rw [tl_a, tl_z, lt_one, lt_one]
  unfold okC
  rw [Bool.eq_iff_iff]
  simp only [Bool.and_eq_true, Bool.not_eq_true', decide_eq_false_iff_not, decide_eq_true_eq]
  omega
/-- a <= x <= b over the signs of a text -/
theorem elt_range {prog : Program} {w : World} {scope : Scope} {x lo hi : Str} {j1 j2 : Nat} {p1 p2 p3 p4 : Pos} (hk : scope.kind = .function) (hl : scope.names.lookup x = some .local) (hd : (x == ("__debug__" : Str)) = false := by decide)
    (hm : lastMarks [.LtE, .LtE] [.Name x p2, .Constant (.str hi) j2 p3] = false := by with_unfolding_all rfl) :
    GxR.EltP prog w scope x (.Compare (.Constant (.str lo) j1 p1) [.LtE, .LtE] [.Name x p2, .Constant (.str hi) j2 p3] p4) (fun c => !decide ([c] < lo.cps.toList) && !decide (hi.cps.toList < [c])) := by
  intro cenv A' E' c t s₂ m₂ hs hn hmx
  refine Compare_chain (Calls.Constant_str ?_) hm
  refine chain_link ?_
  refine wpAny_Name (wpAny_loadName_local (by rw [hs]; exact hk) (show cenv.scope.names.lookup x = some .local by rw [hs]; exact hl) hn hmx ?_) hd
  refine PySem.P.le_str ?_
  refine wpAny_truthy_bool ?_
  by_cases h : [c] < lo.cps.toList
  · have e : (!decide ([c] < lo.cps.toList)) = false := by rw [decide_eq_true h] <;> rfl
    show if (!decide ((⟨#[c]⟩ : Str).cps.toList < lo.cps.toList)) = true then _ else _
    rw [show (!decide ((⟨#[c]⟩ : Str).cps.toList < lo.cps.toList)) = false from e, if_neg Bool.false_ne_true]
    refine ⟨?_, GxR.keeps_tok _ _⟩
    show Value.bool false = Value.bool (!decide ([c] < lo.cps.toList) && !decide (hi.cps.toList < [c]))
    rw [e] <;> rfl
  · have e : (!decide ([c] < lo.cps.toList)) = true := by rw [decide_eq_false h] <;> rfl
    show if (!decide ((⟨#[c]⟩ : Str).cps.toList < lo.cps.toList)) = true then _ else _
    rw [show (!decide ((⟨#[c]⟩ : Str).cps.toList < lo.cps.toList)) = true from e, if_pos rfl]
    refine chain_last (Calls.Constant_str ?_)
    refine PySem.P.le_str ⟨?_, GxR.keeps_tok _ _⟩
    show Value.bool (!decide (hi.cps.toList < [c])) = Value.bool (!decide ([c] < lo.cps.toList) && !decide (hi.cps.toList < [c]))
    rw [e] <;> rfl
def spIsName (K : PySem.W.Frag) (Pt : Addr) : Sp := fun vs H Q _ => ∃ x, vs = [x] ∧ Itm K H x ∧ GxR.TabG H Pt ∧ ∀ H', Gr H H' → Q (.bl (isNm x)) H'
/-! ### paths -/
def namesOk (xs : List V) : Bool := decide (xs.length ≤ 8) && xs.all isNm
def odds : List String := ["int", "NoneType", "bool", "str", "dict"]
/-- what is handed in as a path: a list or a tuple of xs, or another thing -/
def PathIn (K : PySem.W.Frag) (H : Hp) (x : V) : Option (List V) → Prop
  | some xs => ∃ p, x = .ref p ∧ (SqL K H p xs ∨ SqT K H p xs) ∧ (∀ v ∈ xs, Itm K H v) ∧ xs.length ≤ 2000
  | none => ∃ m, TyX K H x (.type m) ∧ m ∈ odds
theorem Gr.path {K : PySem.W.Frag} {H H' : Hp} {x : V} {o : Option (List V)} (g : Gr H H') (h : PathIn K H x o) : PathIn K H' x o := by
  cases o with
  | none =>
    obtain ⟨m, a, b⟩ := h
    exact ⟨m, g.ty a, b⟩
  | some xs =>
    obtain ⟨p, a, b, c, d⟩ := h
    exact ⟨p, a, b.elim (fun z => .inl (g.l z)) (fun z => .inr (g.t z)), fun v hv => g.itm (c v hv), d⟩
theorem any_list {K : PySem.W.Frag} : PySem.W.kitAny K (.type "list") [.type "list", .type "tuple"] = some true :=
  kitAny_cons (b := true) (kit_ty (by decide +kernel)) (fun z => by cases z) (fun _ => rfl)
theorem any_tuple {K : PySem.W.Frag} : PySem.W.kitAny K (.type "tuple") [.type "list", .type "tuple"] = some true :=
  kitAny_cons (b := false) (kit_ty (by decide +kernel)) (fun _ => kitAny_cons (b := true) (kit_ty (by decide +kernel)) (fun z => by cases z) (fun _ => rfl)) (fun z => by cases z)
theorem any_odd {K : PySem.W.Frag} {m : String} (h : m ∈ odds) : PySem.W.kitAny K (.type m) [.type "list", .type "tuple"] = some false := by
  have h1 : kitB m "list" = some false := by
    simp only [odds, List.mem_cons, List.not_mem_nil, or_false] at h
    rcases h with h | h | h | h | h <;> subst h <;> decide +kernel
  have h2 : kitB m "tuple" = some false := by
    simp only [odds, List.mem_cons, List.not_mem_nil, or_false] at h
    rcases h with h | h | h | h | h <;> subst h <;> decide +kernel
  exact kitAny_cons (b := false) (kit_ty h1) (fun _ => kitAny_cons (b := false) (kit_ty h2) (fun _ => kitAny_nil) (fun z => by cases z)) (fun z => by cases z)
theorem st_isiLT {K : PySem.W.Frag} {H : Hp} {Q : VK} {x : V} {tp : Addr} {o : Option (List V)} (hT : H tp = some (.tup [.ty "list", .ty "tuple"])) (h : PathIn K H x o) (q : Q (.bl o.isSome) H) : rIsiT K [x, .ref tp] H Q := by
  have pc : Paired ClsV [.ty "list", .ty "tuple"] [.type "list", .type "tuple"] := .cons (.ty _) (.cons (.ty _) .nil)
  cases o with
  | none =>
    obtain ⟨m, a, b⟩ := h
    exact ⟨x, tp, _, _, _, false, rfl, hT, pc, a, any_odd b, q⟩
  | some xs =>
    obtain ⟨p, rfl, b, _⟩ := h
    rcases b with b | b
    · exact ⟨.ref p, tp, _, _, _, true, rfl, hT, pc, tyL b, any_list, q⟩
    · exact ⟨.ref p, tp, _, _, _, true, rfl, hT, pc, tyT b, any_tuple, q⟩
def strOf : V → Option Str
  | .str z => some z
  | _ => none
def txts (xs : List V) : List Str := xs.filterMap strOf
theorem strs_map (ys : List Str) : txts (ys.map V.str) = ys := by
  unfold txts
  induction ys with
  | nil => rfl
  | cons y r ih => rw [List.map_cons, List.filterMap_cons_some (f := strOf) (b := y) rfl, ih]
theorem isNm_str {x : V} (h : isNm x = true) : ∃ z : Str, x = .str z ∧ okN z = true := by
  cases x with
  | str z => exact ⟨z, rfl, h⟩
  | _ => cases h
theorem all_strs : ∀ {xs : List V}, xs.all isNm = true → xs = (txts xs).map V.str ∧ ∀ y ∈ txts xs, okN y = true
  | [], _ => ⟨rfl, fun _ h => by cases h⟩
  | x :: r, h => by
    rw [List.all_cons, Bool.and_eq_true] at h
    obtain ⟨z, rfl, hz⟩ := isNm_str h.1
    obtain ⟨e, k⟩ := all_strs h.2
    have es : txts (V.str z :: r) = z :: txts r := List.filterMap_cons_some rfl
    rw [es, List.map_cons, ← e]
    refine ⟨rfl, fun y hy => ?_⟩
    rcases List.mem_cons.mp hy with q | q
    · rw [q]
      exact hz
    · exact k y q
/-- the names of what is handed in as a path -/
def pathOf : Option (List V) → Option (List Str)
  | some xs => if namesOk xs = true then some (txts xs) else none
  | none => none
theorem pathOf_at {o : Option (List V)} {ns : List Str} (h : pathOf o = some ns) : o = some (ns.map V.str) ∧ ns.length ≤ 8 ∧ ∀ n ∈ ns, okN n = true := by
  cases o with
  | none => cases h
  | some xs =>
    unfold pathOf at h
    dsimp only at h
    by_cases q : namesOk xs = true
    · rw [if_pos q] at h
      have h : txts xs = ns := Option.some.inj h
      subst h
      unfold namesOk at q
      rw [Bool.and_eq_true, decide_eq_true_eq] at q
      obtain ⟨e, k⟩ := all_strs q.2
      have e2 : xs.length = (txts xs).length := by
        have := congrArg List.length e
        rw [List.length_map] at this
        exact this
      exact ⟨congrArg some e, by omega, k⟩
    · rw [if_neg q] at h
      cases h
theorem pathOf_ok {ns : List Str} (h8 : ns.length ≤ 8) (h : ∀ n ∈ ns, okN n = true) : pathOf (some (ns.map V.str)) = some ns := by
  have : namesOk (ns.map V.str) = true := by
    unfold namesOk
    rw [List.length_map, decide_eq_true h8, Bool.true_and, List.all_map, List.all_eq_true]
    exact h
  unfold pathOf
  dsimp only
  rw [if_pos this, strs_map]
theorem path_in {K : PySem.W.Frag} {H : Hp} {p : Addr} {ns : List Str} (h : SqQ K H p (ns.map V.str)) (h8 : ns.length ≤ 8) (ok : ∀ n ∈ ns, okN n = true) : PathIn K H (.ref p) (some (ns.map V.str)) :=
  ⟨p, rfl, h, fun v hv => by
    obtain ⟨n, hn, rfl⟩ := List.mem_map.mp hv
    have := okN_le (ok n hn)
    exact .inl ⟨n, rfl, by omega⟩, by rw [List.length_map]; omega⟩
def NewL (H : Hp) (Q : VK) (xs : List V) : Prop := ∀ l H', H l = none → Gr H H' → H' l = some (.lst xs) → Q (.ref l) H'
def spChecked (K : PySem.W.Frag) (Pt B : Addr) : Sp := fun vs H Q E => ∃ x o, vs = [x] ∧ PathIn K H x o ∧ GxR.TabG H Pt ∧ (∀ ns, pathOf o = some ns → NewL H Q (ns.map V.str)) ∧ (pathOf o = none → ∀ H', Gr H H' → E (.ref B) none H')
def spNamesBelow (K : PySem.W.Frag) (Pt B : Addr) : Sp := fun vs H Q E => ∃ x o, vs = [x] ∧ PathIn K H x o ∧ GxR.TabG H Pt ∧ (∀ ns, pathOf o = some ns → ns ≠ [] → NewL H Q (ns.map V.str)) ∧ (pathOf o = none ∨ pathOf o = some [] → ∀ H', Gr H H' → E (.ref B) none H')
/-! ### rows.py: the promises -/
def spPlace (K : PySem.W.Frag) : Sp := fun vs H Q _ => ∃ (a : Addr) (xs : List V) (rs : Rw) (n : Str), vs = [.ref a, .str n] ∧ SqQ K H a xs ∧ Prs K H xs rs ∧ SrR rs ∧ rs.length ≤ 1000000 ∧ Q (.int (place rs n : Nat)) H
def spIsAt (K : PySem.W.Frag) : Sp := fun vs H Q _ => ∃ (a : Addr) (xs : List V) (rs : Rw) (n : Str) (k : Nat), vs = [.ref a, .str n, .int (k : Nat)] ∧ SqQ K H a xs ∧ Prs K H xs rs ∧ rs.length ≤ 1000000 ∧ Q (.bl (isAt rs n k)) H
def spBoxOf (K : PySem.W.Frag) : Sp := fun vs H Q _ => ∃ (a : Addr) (xs : List V) (rs : Rw) (n : Str), vs = [.ref a, .str n] ∧ SqQ K H a xs ∧ Prs K H xs rs ∧ SrR rs ∧ rs.length ≤ 1000000 ∧ Q (oV (findR rs n)) H
def newRows (K : PySem.W.Frag) (H : Hp) (Q : VK) (rs : Rw) : Prop := ∀ (l : Addr) (ys : List V) (H' : Hp), H l = none → Gr H H' → H' l = some (.lst ys) → Prs K H' ys rs → Q (.ref l) H'
def spPlaced (K : PySem.W.Frag) : Sp := fun vs H Q _ => ∃ (a : Addr) (xs : List V) (rs : Rw) (n : Str) (b : Int), vs = [.ref a, .str n, .int b] ∧ SqQ K H a xs ∧ Prs K H xs rs ∧ SrR rs ∧ rs.length ≤ 999999 ∧ newRows K H Q (putR rs n b)
def spWithout (K : PySem.W.Frag) : Sp := fun vs H Q _ => ∃ (a : Addr) (xs : List V) (rs : Rw) (n : Str), vs = [.ref a, .str n] ∧ SqQ K H a xs ∧ Prs K H xs rs ∧ SrR rs ∧ rs.length ≤ 999999 ∧ newRows K H Q (delR rs n)
/-! ### whole.py, pile.py: the promises -/
def Odd (K : PySem.W.Frag) (H : Hp) (x : V) : Prop := ∃ (m : String) (b1 b2 : Bool), TyX K H x (.type m) ∧ kitB m "int" = some b1 ∧ kitB m "bool" = some b2 ∧ (b1 && !b2) = false
def spIsWhole (K : PySem.W.Frag) : Sp := fun vs H Q _ => ∃ x, vs = [x] ∧ ((∃ z, x = .int z ∧ Q (.bl true) H) ∨ (Odd K H x ∧ Q (.bl false) H))
/-- a box is asked for -/
def Ask (K : PySem.W.Frag) (H : Hp) (S : PS) (x : V) (ok : Int → Bx → Nat → Prop) (bad : Prop) : Prop := (∃ z, x = .int z ∧ (∀ b c, S.box z = some (b, c) → ok z b c) ∧ (S.box z = none → bad)) ∨ (Odd K H x ∧ bad)
def spRefuse (K : PySem.W.Frag) (C B : Addr) : Sp := fun vs H Q E => ∃ (A : PA) (S : PS) (x : V), vs = [.ref A.p, x] ∧ PileAt K C H A S ∧ Ask K H S x (fun _ _ _ => Q .non H) (E (.ref B) none H)
def spNext (C : Addr) : Sp := fun vs H Q _ => ∃ (A : PA) (m : Nat) (kc : List (Key × V)), vs = [.ref A.p] ∧ H A.p = some (.ins C A.dx (pfs A m)) ∧ H A.c = some (.dK kc) ∧ kc.length ≤ 500000 ∧
  Q (.int ((m : Int) + 1)) (upd (upd H A.p (.ins C A.dx (pfs A ((m : Int) + 1)))) A.c (.dK (putK kc (Sum.inl ((m : Int) + 1)) (.int 0))))
/-- a deed that leaves the pile as S' -/
def Did (K : PySem.W.Frag) (C : Addr) (H : Hp) (A : PA) (S' : PS) (k : Hp → Prop) : Prop := ∀ H', Gx A.foot H H' → PileAt K C H' A S' → k H'
def spLeaf (K : PySem.W.Frag) (C : Addr) : Sp := fun vs H Q _ => ∃ (A : PA) (S : PS) (n : Int), vs = [.ref A.p, .int n] ∧ PileAt K C H A S ∧ S.made ≤ 2900 ∧ Did K C H A (S.new (.leaf n)) (Q (.int ((S.made : Int) + 1)))
/-- a row's box that is there; one that is not -/
def There (S : PS) (x : V) : Prop := ∃ z b, x = .int z ∧ S.box z = some b
def Gone (K : PySem.W.Frag) (H : Hp) (S : PS) (x : V) : Prop := (∃ z, x = .int z ∧ S.box z = none) ∨ Odd K H x
def spBranch (K : PySem.W.Frag) (C B Pt : Addr) : Sp := fun vs H Q E => ∃ (A : PA) (S : PS) (l : Addr) (us : List V) (ps : List (V × V)), vs = [.ref A.p, .ref l] ∧ PileAt K C H A S ∧ SqL K H l us ∧ PrV K H us ps ∧ ps.length ≤ 5000 ∧ S.made ≤ 2900 ∧ GxR.TabG H Pt ∧
  ((∃ rs : Rw, ps = rs.map rwV ∧ (∀ r ∈ rs, There S (.int r.2)) ∧ Did K C H A ((S.holds (rs.map (·.2))).new (.branch rs)) (Q (.int ((S.made : Int) + 1)))) ∨
   ((∃ p ∈ ps, Gone K H S p.2) ∧ (∀ p ∈ ps, There S p.2 ∨ Gone K H S p.2) ∧ ∀ H', Gr H H' → E (.ref B) none H'))
/-- what is told of a box -/
def Told (K : PySem.W.Frag) (H : Hp) (b : Bx) (t : Addr) : Prop := match b with
  | .leaf n => H t = some (.tup [.str "leaf", .int n])
  | .branch rs => ∃ l us, H t = some (.tup [.str "branch", .ref l]) ∧ H l = some (.lst us) ∧ Prs K H us rs
def spContent (K : PySem.W.Frag) (C B : Addr) : Sp := fun vs H Q E => ∃ (A : PA) (S : PS) (x : V), vs = [.ref A.p, x] ∧ PileAt K C H A S ∧
  Ask K H S x (fun _ b _ => ∀ t H', H t = none → Gr H H' → Told K H' b t → (∀ l us rs, b = .branch rs → H' t = some (.tup [.str "branch", .ref l]) → H' l = some (.lst us) → H l = none) → Q (.ref t) H') (E (.ref B) none H)
def spHold (K : PySem.W.Frag) (C B : Addr) : Sp := fun vs H Q E => ∃ (A : PA) (S : PS) (x : V), vs = [.ref A.p, x] ∧ PileAt K C H A S ∧ Ask K H S x (fun z _ _ => Did K C H A (S.hold z) (Q .non)) (E (.ref B) none H)
def spHolders (K : PySem.W.Frag) (C B : Addr) : Sp := fun vs H Q E => ∃ (A : PA) (S : PS) (x : V), vs = [.ref A.p, x] ∧ PileAt K C H A S ∧ Ask K H S x (fun _ _ c => Q (.int c) H) (E (.ref B) none H)
def spLetGo (K : PySem.W.Frag) (C B : Addr) : Sp := fun vs H Q E => ∃ (A : PA) (S : PS) (x : V), vs = [.ref A.p, x] ∧ PileAt K C H A S ∧ Ask K H S x (fun z _ _ => Did K C H A (S.letGo z).1 (Q (.int (S.letGo z).2))) (E (.ref B) none H)
def spKept (K : PySem.W.Frag) (C : Addr) : Sp := fun vs H Q _ => ∃ (A : PA) (S : PS), vs = [.ref A.p] ∧ PileAt K C H A S ∧
  ∀ (l : Addr) (zs : List Int) H', H l = none → Gr H H' → H' l = some (.lst (zs.map V.int)) → zs.Pairwise (· < ·) → (∀ z, z ∈ zs ↔ (S.box z).isSome = true) → Q (.ref l) H'
def spLowered (K : PySem.W.Frag) (C : Addr) : Sp := fun vs H Q _ => ∃ (A : PA) (S : PS) (z : Int) (b : Bx) (c : Nat), vs = [.ref A.p, .int z] ∧ PileAt K C H A S ∧ S.box z = some (b, c) ∧ Did K C H A (S.lower z) (Q (.int ((c - 1 : Nat) : Int)))
def spTaken (K : PySem.W.Frag) (C : Addr) : Sp := fun vs H Q _ => ∃ (A : PA) (S : PS) (z : Int) (b : Bx) (c : Nat), vs = [.ref A.p, .int z] ∧ PileAt K C H A S ∧ S.box z = some (b, c) ∧
  ∀ (l : Addr) H', H l = none → Gx A.foot H H' → PileAt K C H' A (S.drop z) → H' l = some (.lst ((b.rows.map (·.2)).map V.int)) → Q (.ref l) H'
def spInit (K : PySem.W.Frag) (C : Addr) : Sp := fun vs H Q _ => ∃ (p dx : Addr), vs = [.ref p] ∧ H p = some (.ins C dx []) ∧
  ∀ (A : PA) H', A.p = p → H A.c = none → H A.n = none → H A.r = none → Gx (fun b => b = p) H H' → PileAt K C H' A PS.empty → Q .non H'
/-- a pile made -/
def PNew (K : PySem.W.Frag) (C : Addr) (H : Hp) (Q : VK) : Prop := ∀ (A : PA) H', (∀ b, A.foot b → H b = none) → Gr H H' → PileAt K C H' A PS.empty → Q (.ref A.p) H'
theorem PileAt.fm {K : PySem.W.Frag} {C : Addr} {H : Hp} {A : PA} {S : PS} (h : PileAt K C H A S) {m : Str} (h1 : (m == ("made" : Str)) = false) (h2 : (m == ("_counts" : Str)) = false) (h3 : (m == ("_numbers" : Str)) = false) (h4 : (m == ("_rows" : Str)) = false) {P : Prop} (q : P) :
    ∃ a dx fs, V.ref A.p = .ref a ∧ H a = some (.ins C dx fs) ∧ fs.lookup m = none ∧ P := lf_meth h.ins (pfs_no A _ h1 h2 h3 h4) q
theorem There.none {S : PS} {z : Int} (h : There S (.int z)) (e : S.box z = none) : False := by
  obtain ⟨y, b, q, e2⟩ := h
  cases q
  rw [e] at e2
  cases e2
/-- the counts alone are changed -/
theorem PileAt.cnt {K : PySem.W.Frag} {C : Addr} {H : Hp} {A : PA} {S S' : PS} {kc kn kr kc' : List (Key × V)} (h : PileAt K C H A S) (e1 : H A.c = some (.dK kc)) (e2 : H A.n = some (.dK kn)) (e3 : H A.r = some (.dK kr)) (hm : S'.made = S.made) (d : Dcts K H S' kc' kn kr) : PileAt K C (upd H A.c (.dK kc')) A S' := by
  have ncp : A.c ≠ A.p := ne_of e1 h.ins (by intro z; cases z)
  exact ⟨by rw [upd_ne ncp.symm, hm]; exact h.ins, ⟨kc', kn, kr, upd_same, by rw [upd_ne h.ne.1.symm]; exact e2, by rw [upd_ne h.ne.2.1.symm]; exact e3, d.move (fun _ _ q => sqT_mutD e1 q) (frz_mut e1 (fun _ _ z => by cases z))⟩, h.ne⟩
theorem st_holds {S : PS} {rs : Rw} {i : Nat} {r : Str × Int} (h : rs[i]? = some r) : S.holds ((rs.take (i + 1)).map (·.2)) = (S.holds ((rs.take i).map (·.2))).hold r.2 := by
  obtain ⟨hi, e⟩ := List.getElem?_eq_some_iff.mp h
  rw [List.take_succ_eq_append_getElem hi, e, List.map_append]
  exact PS.holds_snoc _ _ _
theorem Gone.gr {K : PySem.W.Frag} {H H' : Hp} {S : PS} {x : V} (h : Gone K H S x) (g : Gr H H') : Gone K H' S x := by
  rcases h with h | ⟨m, b1, b2, ty, q⟩
  · exact .inl h
  · exact .inr ⟨m, b1, b2, g.ty ty, q⟩
theorem Odd.gr {K : PySem.W.Frag} {H H' : Hp} {x : V} (h : Odd K H x) (g : Gr H H') : Odd K H' x := by
  obtain ⟨m, b1, b2, ty, q⟩ := h
  exact ⟨m, b1, b2, g.ty ty, q⟩
/-! ### the pile is read: kinds, numbers, rows -/
def spKindOf (K : PySem.W.Frag) (C : Addr) : Sp := fun vs H Q _ => ∃ (A : PA) (S : PS) (o : Option Int), vs = [.ref A.p, oV o] ∧ PileAt K C H A S ∧ Q (kindB (bxO S o)) H
def spNumberOf (K : PySem.W.Frag) (C : Addr) : Sp := fun vs H Q _ => ∃ (A : PA) (S : PS) (o : Option Int), vs = [.ref A.p, oV o] ∧ PileAt K C H A S ∧ Q (numB (bxO S o)) H
def spRowsOf (K : PySem.W.Frag) (C : Addr) : Sp := fun vs H Q _ => ∃ (A : PA) (S : PS) (o : Option Int), vs = [.ref A.p, oV o] ∧ PileAt K C H A S ∧ ∀ (t : Addr) (us : List V) (H' : Hp), Gr H H' → SqT K H' t us → Prs K H' us (rowsO S o) → TG.GT H' t us → Q (.ref t) H'
def spBoxesOn (K : PySem.W.Frag) (C : Addr) : Sp := fun vs H Q _ => ∃ (A : PA) (S : PS) (R : List Int) (z : Int) (l : Addr) (ns : List Str), vs = [.ref A.p, .int z, .ref l] ∧ PileAt K C H A S ∧ TInv S R ∧ SqL K H l (ns.map V.str) ∧ ns.length ≤ 1000 ∧ NewL H Q ((wayF S (some z) ns).map oV)
/-! ### numbers, views -/
def lim : Int := 1000000000000000000000000000000
def isNum (z : Int) : Bool := decide (-lim < z) && decide (z < lim)
def spIsLeafNumber (K : PySem.W.Frag) : Sp := fun vs H Q _ => ∃ x, vs = [x] ∧ ((∃ z, x = .int z ∧ Q (.bl (isNum z)) H) ∨ (Odd K H x ∧ Q (.bl false) H))
/-! ### the store, as it is told -/
structure TS where
  S : PS
  top : Int
  shots : List (Int × Int)
  taken : Nat
def kvI (m : List (Int × Int)) : List (Key × V) := m.map fun r => ((Sum.inl r.1 : Key), V.int r.2)
def findI (m : List (Int × Int)) (k : Int) : Option Int := (m.find? fun r => decide (r.1 = k)).map (·.2)
def delI (m : List (Int × Int)) (k : Int) : List (Int × Int) := m.filter fun r => decide (r.1 ≠ k)
theorem kvI_val (m : List (Int × Int)) (k : Int) : valV (kvI m) (Sum.inl k) = (findI m k).map V.int := by
  induction m with
  | nil => rfl
  | cons r m ih =>
    unfold findI at ih ⊢
    by_cases e : r.1 = k
    · rw [List.find?_cons_of_pos (by simp [e])]
      exact valV_pos (p := ((Sum.inl r.1 : Key), V.int r.2)) (r := kvI m) (inl_eq.mpr e)
    · rw [List.find?_cons_of_neg (by simp [e]), ← ih]
      exact valV_neg (p := ((Sum.inl r.1 : Key), V.int r.2)) (r := kvI m) fun q => e (inl_eq.mp q)
theorem kvI_new {m : List (Int × Int)} {k b : Int} (h : findI m k = none) : putK (kvI m) (Sum.inl k) (V.int b) = kvI (m ++ [(k, b)]) := by
  rw [putK_new _ (by rw [kvI_val, h] <;> rfl)]
  unfold kvI
  rw [List.map_append] <;> rfl
theorem kvI_drop (m : List (Int × Int)) (k : Int) : dropK (kvI m) (Sum.inl k) = kvI (delI m k) := by
  unfold dropK kvI delI
  rw [List.filter_map]
  congr 1
  refine List.filter_congr fun r _ => ?_
  show decide ((Sum.inl r.1 : Key) ≠ Sum.inl k) = decide (r.1 ≠ k)
  exact decide_eq_decide.mpr ⟨fun q w => q (by rw [w]), fun q w => q (Sum.inl.inj w)⟩
theorem findI_mem {m : List (Int × Int)} {k z : Int} (h : findI m k = some z) : (k, z) ∈ m := by
  unfold findI at h
  obtain ⟨r, er, rfl⟩ := Option.map_eq_some_iff.mp h
  have e : r.1 = k := by
    have := List.find?_some (p := fun r : Int × Int => decide (r.1 = k)) er
    simpa using this
  have hm := List.mem_of_find?_eq_some er
  rw [← e]
  exact hm
theorem findI_no {m : List (Int × Int)} {k : Int} (h : ∀ p ∈ m, p.1 ≠ k) : findI m k = none := by
  unfold findI
  rw [List.find?_eq_none.mpr fun p hp => by simp [h p hp]] <;> rfl
structure TS.Ok (X : TS) : Prop where
  t : TOk X.S (X.top :: X.shots.map (·.2))
  br : ∀ z ∈ X.top :: X.shots.map (·.2), ∃ rs c, X.S.box z = some (.branch rs, c)
  ks : (X.shots.map (·.1)).Pairwise (· < ·)
  kb : ∀ p ∈ X.shots, 1 ≤ p.1 ∧ p.1 ≤ X.taken
  tk : X.taken ≤ 100000
def TS.shot (X : TS) (k : Int) : Option Int := findI X.shots k
/-- why something is refused -/
inductive Rf
  | path | number | nothing | leaf | branch | shot
def exA (path number nothing leaf branch shot : Addr) : Rf → Addr
  | .path => path
  | .number => number
  | .nothing => nothing
  | .leaf => leaf
  | .branch => branch
  | .shot => shot
def TS.turn (X : TS) (S : PS) (t : Int) : TS × Nat := (⟨((S.hold t).letGo X.top).1, t, X.shots, X.taken⟩, ((S.hold t).letGo X.top).2)
def isLf : Option Bx → Bool
  | some (.leaf _) => true
  | _ => false
def isBr : Option Bx → Bool
  | some (.branch _) => true
  | _ => false
def TS.leafOn (X : TS) (ns : List Str) : Bool := (pairsF X.S (some X.top) ns).any fun p => isLf (bxO X.S p.1)
def TS.putN (X : TS) (ns : List Str) (n : Int) : TS × Nat := X.turn (leadF (pairsF X.S (some X.top) ns) (X.S.new (.leaf n)) ((X.S.made : Int) + 1)).1 (leadF (pairsF X.S (some X.top) ns) (X.S.new (.leaf n)) ((X.S.made : Int) + 1)).2
def TS.putF (X : TS) (ns : List Str) (n : Int) : Except Rf (TS × Nat) :=
  if X.leafOn ns = true then .error .leaf
  else if isBr (bxO X.S (walkF X.S (some X.top) ns)) = true then .error .branch
  else if numB (bxO X.S (walkF X.S (some X.top) ns)) = .int n then .ok (X, 0) else .ok (X.putN ns n)
def TS.cutN (X : TS) (i : List Str) (l : Str) : TS × Nat :=
  X.turn (leadF (pairsF X.S (some X.top) i) (mkB X.S (delR (rowsO X.S (walkF X.S (some X.top) i)) l)) ((X.S.made : Int) + 1)).1 (leadF (pairsF X.S (some X.top) i) (mkB X.S (delR (rowsO X.S (walkF X.S (some X.top) i)) l)) ((X.S.made : Int) + 1)).2
def TS.cutF (X : TS) (ns : List Str) : Except Rf (TS × Nat) := match walkF X.S (some X.top) ns with
  | none => .error .nothing
  | some _ => .ok (X.cutN ns.dropLast (ns.getLastD (Str.ofString "")))
def TS.dropN (X : TS) (k z : Int) : TS × Nat := (⟨(X.S.letGo z).1, X.top, delI X.shots k, X.taken⟩, (X.S.letGo z).2)
def TS.snapF (X : TS) : TS := ⟨X.S.hold X.top, X.top, X.shots ++ [((X.taken : Int) + 1, X.top)], X.taken + 1⟩
def TS.topF (X : TS) : Option Int → Option Int
  | none => some X.top
  | some k => X.shot k
def TS.new : TS := ⟨(mkB PS.empty []).hold 1, 1, [], 0⟩
/-! ### the store, as it stands in the heap -/
structure SA where
  p : Addr
  dx : Addr
  d : Addr
  A : PA
def SA.foot (B : SA) (b : Addr) : Prop := b = B.p ∨ b = B.d ∨ B.A.foot b
def sfs (B : SA) (top taken : Int) : List (Str × V) := [("pile", .ref B.A.p), ("_top", .int top), ("_shot_tops", .ref B.d), ("_shots_taken", .int taken)]
structure StAt (K : PySem.W.Frag) (CS CP : Addr) (H : Hp) (B : SA) (X : TS) : Prop where
  ins : H B.p = some (.ins CS B.dx (sfs B X.top X.taken))
  pl : PileAt K CP H B.A X.S
  sd : H B.d = some (.dK (kvI X.shots))
  ne : B.p ≠ B.A.p ∧ B.d ≠ B.A.c ∧ B.d ≠ B.A.n ∧ B.d ≠ B.A.r
theorem sfs_lk (B : SA) (m k : Int) : (sfs B m k).lookup ("pile" : Str) = some (.ref B.A.p) ∧ (sfs B m k).lookup ("_top" : Str) = some (.int m) ∧ (sfs B m k).lookup ("_shot_tops" : Str) = some (.ref B.d) ∧ (sfs B m k).lookup ("_shots_taken" : Str) = some (.int k) := by
  have h1 : (("_top" : Str) == "pile") = false := by decide +kernel
  have h2 : (("_shot_tops" : Str) == "pile") = false := by decide +kernel
  have h3 : (("_shot_tops" : Str) == "_top") = false := by decide +kernel
  have h4 : (("_shots_taken" : Str) == "pile") = false := by decide +kernel
  have h5 : (("_shots_taken" : Str) == "_top") = false := by decide +kernel
  have h6 : (("_shots_taken" : Str) == "_shot_tops") = false := by decide +kernel
  unfold sfs
  simp only [List.lookup, h1, h2, h3, h4, h5, h6, beq_self_eq_true, and_self]
theorem sfs_no (B : SA) (m k : Int) {f : Str} (h1 : (f == ("pile" : Str)) = false) (h2 : (f == ("_top" : Str)) = false) (h3 : (f == ("_shot_tops" : Str)) = false) (h4 : (f == ("_shots_taken" : Str)) = false) : (sfs B m k).lookup f = none := by
  unfold sfs
  simp only [List.lookup, h1, h2, h3, h4]
theorem StAt.fm {K : PySem.W.Frag} {CS CP : Addr} {H : Hp} {B : SA} {X : TS} (h : StAt K CS CP H B X) {m : Str} (h1 : (m == ("pile" : Str)) = false) (h2 : (m == ("_top" : Str)) = false) (h3 : (m == ("_shot_tops" : Str)) = false) (h4 : (m == ("_shots_taken" : Str)) = false) {P : Prop} (q : P) :
    ∃ a dx fs, V.ref B.p = .ref a ∧ H a = some (.ins CS dx fs) ∧ fs.lookup m = none ∧ P := lf_meth h.ins (sfs_no B _ _ h1 h2 h3 h4) q
section
variable {K : PySem.W.Frag} {CS CP : Addr} {H H' : Hp} {B : SA} {X : TS}
theorem SA.foot_A {B : SA} {b : Addr} (h : B.A.foot b) : B.foot b := .inr (.inr h)
theorem StAt.gr (h : StAt K CS CP H B X) (g : Gr H H') : StAt K CS CP H' B X := ⟨g.keep _ _ h.ins (fun _ z => by cases z), h.pl.gr g, g.dK h.sd, h.ne⟩
theorem StAt.gx {F : Addr → Prop} (h : StAt K CS CP H B X) (g : Gx F H H') (hf : ∀ b, B.foot b → ¬ F b) : StAt K CS CP H' B X :=
  ⟨g.keep _ _ h.ins (hf _ (.inl rfl)) (fun _ z => by cases z), h.pl.gx g fun b hb => hf b (SA.foot_A hb), g.keep _ _ h.sd (hf _ (.inr (.inl rfl))) (fun _ z => by cases z), h.ne⟩
/-- the pile is changed -/
theorem StAt.pile (h : StAt K CS CP H B X) {S' : PS} (g : Gx B.A.foot H H') (pl : PileAt K CP H' B.A S') : StAt K CS CP H' B ⟨S', X.top, X.shots, X.taken⟩ := by
  have hp : ¬ B.A.foot B.p := by
    obtain ⟨kc, kn, kr, e1, e2, e3, _⟩ := h.pl.dcts
    rintro (q | q | q | q)
    · exact h.ne.1 q
    · have := h.ins; rw [q, e1] at this; cases this
    · have := h.ins; rw [q, e2] at this; cases this
    · have := h.ins; rw [q, e3] at this; cases this
  have hd : ¬ B.A.foot B.d := by
    rintro (q | q | q | q)
    · have := h.sd; rw [q, h.pl.ins] at this; cases this
    · exact h.ne.2.1 q
    · exact h.ne.2.2.1 q
    · exact h.ne.2.2.2 q
  exact ⟨g.keep _ _ h.ins hp (fun _ z => by cases z), pl, g.keep _ _ h.sd hd (fun _ z => by cases z), h.ne⟩
theorem Gx.sa {B : SA} (g : Gx B.A.foot H H') : Gx B.foot H H' := g.mono fun _ h => SA.foot_A h
theorem Dcts.ins {S : PS} {kc kn kr : List (Key × V)} {p : Addr} {C dx : Addr} {fs : List (Str × V)} {o : HO} (d : Dcts K H S kc kn kr) (e : H p = some (.ins C dx fs)) : Dcts K (upd H p o) S kc kn kr := d.move (f := frz_mut e (fun _ _ z => by cases z)) fun q xs hp => by
  rcases hp with (hp | ⟨o, hp⟩) | hp
  · exact .inl (.inl (by rw [upd_ne (ne_of hp e (by intro z; cases z))]; exact hp))
  · exact .inl (.inr ⟨o, by rw [upd_ne (ne_of hp e (by intro z; cases z))]; exact hp⟩)
  · exact .inr hp
/-- a field of the store is changed -/
theorem StAt.fld (h : StAt K CS CP H B X) (t : Int) (k : Nat) : StAt K CS CP (upd H B.p (.ins CS B.dx (sfs B t k))) B ⟨X.S, t, X.shots, k⟩ ∧ Gx B.foot H (upd H B.p (.ins CS B.dx (sfs B t k))) := by
  obtain ⟨kc, kn, kr, e1, e2, e3, d⟩ := h.pl.dcts
  refine ⟨⟨upd_same, ⟨by rw [upd_ne h.ne.1.symm]; exact h.pl.ins, ⟨kc, kn, kr, by rw [upd_ne (ne_of e1 h.ins (by intro z; cases z))]; exact e1, by rw [upd_ne (ne_of e2 h.ins (by intro z; cases z))]; exact e2, by rw [upd_ne (ne_of e3 h.ins (by intro z; cases z))]; exact e3, d.ins h.ins⟩, h.pl.ne⟩, by rw [upd_ne (ne_of h.sd h.ins (by intro z; cases z))]; exact h.sd, h.ne⟩, (Gx.refl H).put (.inl rfl) h.ins (by intro z; exact z) (by intro _ z; cases z)⟩
/-- the snapshots are changed -/
theorem StAt.sh (h : StAt K CS CP H B X) (m : List (Int × Int)) : StAt K CS CP (upd H B.d (.dK (kvI m))) B ⟨X.S, X.top, m, X.taken⟩ ∧ Gx B.foot H (upd H B.d (.dK (kvI m))) := by
  obtain ⟨kc, kn, kr, e1, e2, e3, d⟩ := h.pl.dcts
  refine ⟨⟨by rw [upd_ne (ne_of h.ins h.sd (by intro z; cases z))]; exact h.ins, ⟨by rw [upd_ne (ne_of h.pl.ins h.sd (by intro z; cases z))]; exact h.pl.ins, ⟨kc, kn, kr, by rw [upd_ne h.ne.2.1.symm]; exact e1, by rw [upd_ne h.ne.2.2.1.symm]; exact e2, by rw [upd_ne h.ne.2.2.2.symm]; exact e3, d.move (fun _ _ q => sqT_mutD h.sd q) (frz_mut h.sd (fun _ _ z => by cases z))⟩, h.pl.ne⟩, upd_same, h.ne⟩, (Gx.refl H).put (.inr (.inl rfl)) h.sd (by intro z; exact z) (by intro _ z; cases z)⟩
theorem putF_top (B : SA) (m k j : Int) : putF "_top" (.int j) (sfs B m k) = sfs B j k := by
  have h1 : ¬ (("pile" : Str) = "_top") := by decide +kernel
  unfold sfs
  simp only [putF, h1, if_false, if_true]
theorem putF_taken (B : SA) (m k j : Int) : putF "_shots_taken" (.int j) (sfs B m k) = sfs B m j := by
  have h1 : ¬ (("pile" : Str) = "_shots_taken") := by decide +kernel
  have h2 : ¬ (("_top" : Str) = "_shots_taken") := by decide +kernel
  have h3 : ¬ (("_shot_tops" : Str) = "_shots_taken") := by decide +kernel
  unfold sfs
  simp only [putF, h1, h2, h3, if_false, if_true]
end
/-- a deed that leaves the store as X' -/
def SDid (K : PySem.W.Frag) (CS CP : Addr) (H : Hp) (B : SA) (X' : TS) (k : Hp → Prop) : Prop := ∀ H', Gx B.foot H H' → StAt K CS CP H' B X' → k H'
def Out (K : PySem.W.Frag) (CS CP : Addr) (ex : Rf → Addr) (H : Hp) (B : SA) (Q : VK) (E : XK) : Except Rf (TS × Nat) → Prop
  | .error r => ∀ H', Gr H H' → E (.ref (ex r)) none H'
  | .ok x => SDid K CS CP H B x.1 (Q (.int x.2))
def spTurnTo (K : PySem.W.Frag) (CS CP : Addr) : Sp := fun vs H Q _ => ∃ (B : SA) (X : TS) (t : Int), vs = [.ref B.p, .int t] ∧ StAt K CS CP H B X ∧ (X.S.box t).isSome = true ∧ (X.S.box X.top).isSome = true ∧ SDid K CS CP H B (X.turn X.S t).1 (Q (.int (X.turn X.S t).2))
def spLeadTo (K : PySem.W.Frag) (CS CP Pt : Addr) : Sp := fun vs H Q _ => ∃ (B : SA) (X : TS) (R : List Int) (l1 l2 : Addr) (ps : List (Option Int × Str)) (z : Int), vs = [.ref B.p, .ref l1, .ref l2, .int z] ∧ StAt K CS CP H B X ∧
  SqL K H l1 (ps.map fun p => oV p.1) ∧ SqL K H l2 (ps.map fun p => V.str p.2) ∧ ps.length ≤ 100 ∧ TMid X.S R z ∧ (∀ p ∈ ps, Fit X.S p.1 ∧ okN p.2 = true) ∧ X.S.made + ps.length ≤ 2900 ∧ (X.S.box X.top).isSome = true ∧ GxR.TabG H Pt ∧
  SDid K CS CP H B (X.turn (leadF ps X.S z).1 (leadF ps X.S z).2).1 (Q (.int (X.turn (leadF ps X.S z).1 (leadF ps X.S z).2).2))
/-- a leaf's number, as it is handed in -/
def NumIn (K : PySem.W.Frag) (H : Hp) (x : V) : Option Int → Prop
  | some z => x = .int z ∧ isNum z = true
  | none => (∃ z, x = .int z ∧ isNum z = false) ∨ Odd K H x
/-- a view, as it is handed in: none for what is no number -/
inductive Vw
  | tree
  | shot (k : Int)
  | odd
def VwIn (K : PySem.W.Frag) (H : Hp) (x : V) : Vw → Prop
  | .tree => x = .non
  | .shot k => x = .int k
  | .odd => Odd K H x ∧ x ≠ .non
def ShIn (K : PySem.W.Frag) (H : Hp) (x : V) : Option Int → Prop
  | some k => x = .int k
  | none => Odd K H x
def TS.vw (X : TS) : Vw → Option Int
  | .tree => some X.top
  | .shot k => X.shot k
  | .odd => none
def putO (X : TS) (o : Option (List V)) (n : Option Int) : Except Rf (TS × Nat) := match pathOf o with
  | none => .error .path
  | some [] => .error .path
  | some (m :: ns) => match n with
    | none => .error .number
    | some z => X.putF (m :: ns) z
def cutO (X : TS) (o : Option (List V)) : Except Rf (TS × Nat) := match pathOf o with
  | none => .error .path
  | some [] => .error .path
  | some (m :: ns) => X.cutF (m :: ns)
def spPut (K : PySem.W.Frag) (CS CP : Addr) (ex : Rf → Addr) (Pb Pn : Addr) : Sp := fun vs H Q E => ∃ (B : SA) (X : TS) (x y : V) (o : Option (List V)) (n : Option Int), vs = [.ref B.p, x, y] ∧ StAt K CS CP H B X ∧ X.Ok ∧ PathIn K H x o ∧ NumIn K H y n ∧ X.S.made ≤ 2880 ∧ GxR.TabG H Pb ∧ GxR.TabG H Pn ∧
  Out K CS CP ex H B Q E (putO X o n)
def spCut (K : PySem.W.Frag) (CS CP : Addr) (ex : Rf → Addr) (Pb Pn : Addr) : Sp := fun vs H Q E => ∃ (B : SA) (X : TS) (x : V) (o : Option (List V)), vs = [.ref B.p, x] ∧ StAt K CS CP H B X ∧ X.Ok ∧ PathIn K H x o ∧ X.S.made ≤ 2880 ∧ GxR.TabG H Pb ∧ GxR.TabG H Pn ∧
  Out K CS CP ex H B Q E (cutO X o)
def spShotTop (K : PySem.W.Frag) (CS CP : Addr) (ex : Rf → Addr) : Sp := fun vs H Q E => ∃ (B : SA) (X : TS) (x : V) (s : Option Int), vs = [.ref B.p, x] ∧ StAt K CS CP H B X ∧ ShIn K H x s ∧ match s.bind X.shot with
  | some t => Q (.int t) H
  | none => E (.ref (ex .shot)) none H
def dropO (X : TS) (s : Option Int) : Except Rf (TS × Nat) := match s with
  | none => .error .shot
  | some k => match X.shot k with
    | none => .error .shot
    | some z => .ok (X.dropN k z)
def backO (X : TS) (s : Option Int) : Except Rf (TS × Nat) := match s with
  | none => .error .shot
  | some k => match X.shot k with
    | none => .error .shot
    | some z => .ok (X.turn X.S z)
def spDrop (K : PySem.W.Frag) (CS CP : Addr) (ex : Rf → Addr) : Sp := fun vs H Q E => ∃ (B : SA) (X : TS) (x : V) (s : Option Int), vs = [.ref B.p, x] ∧ StAt K CS CP H B X ∧ X.Ok ∧ ShIn K H x s ∧ Out K CS CP ex H B Q E (dropO X s)
def spBack (K : PySem.W.Frag) (CS CP : Addr) (ex : Rf → Addr) : Sp := fun vs H Q E => ∃ (B : SA) (X : TS) (x : V) (s : Option Int), vs = [.ref B.p, x] ∧ StAt K CS CP H B X ∧ X.Ok ∧ ShIn K H x s ∧ Out K CS CP ex H B Q E (backO X s)
def spSnap (K : PySem.W.Frag) (CS CP : Addr) : Sp := fun vs H Q _ => ∃ (B : SA) (X : TS), vs = [.ref B.p] ∧ StAt K CS CP H B X ∧ X.Ok ∧ X.taken < 100000 ∧ SDid K CS CP H B X.snapF (Q (.int ((X.taken : Int) + 1)))
def spShots (K : PySem.W.Frag) (CS CP : Addr) : Sp := fun vs H Q _ => ∃ (B : SA) (X : TS), vs = [.ref B.p] ∧ StAt K CS CP H B X ∧ X.Ok ∧ NewL H Q ((X.shots.map (·.1)).map V.int)
def spTop (K : PySem.W.Frag) (CS CP : Addr) (ex : Rf → Addr) : Sp := fun vs H Q E => ∃ (B : SA) (X : TS) (x : V) (v : Vw), vs = [.ref B.p, x] ∧ StAt K CS CP H B X ∧ VwIn K H x v ∧ match X.vw v with
  | some t => Q (.int t) H
  | none => E (.ref (ex .shot)) none H
/-- what is asked at a place of a view -/
def SeeAt (ex : Rf → Addr) (X : TS) (v : Vw) (o : Option (List V)) (H : Hp) (E : XK) (k : Option Int → Hp → Prop) : Prop := match X.vw v with
  | none => ∀ H', Gr H H' → E (.ref (ex .shot)) none H'
  | some t => match pathOf o with
    | none => ∀ H', Gr H H' → E (.ref (ex .path)) none H'
    | some ns => ∀ H', Gr H H' → k (walkF X.S (some t) ns) H'
structure Asks (K : PySem.W.Frag) (CS CP Pn : Addr) (H : Hp) (B : SA) (X : TS) (x y : V) (v : Vw) (o : Option (List V)) : Prop where
  st : StAt K CS CP H B X
  ok : X.Ok
  vw : VwIn K H x v
  pa : PathIn K H y o
  tb : GxR.TabG H Pn
def spBoxAt (K : PySem.W.Frag) (CS CP : Addr) (ex : Rf → Addr) (Pn : Addr) : Sp := fun vs H Q E => ∃ (B : SA) (X : TS) (x y : V) (v : Vw) (o : Option (List V)), vs = [.ref B.p, x, y] ∧ Asks K CS CP Pn H B X x y v o ∧ SeeAt ex X v o H E fun b H' => Q (oV b) H'
def spKind (K : PySem.W.Frag) (CS CP : Addr) (ex : Rf → Addr) (Pn : Addr) : Sp := fun vs H Q E => ∃ (B : SA) (X : TS) (x y : V) (v : Vw) (o : Option (List V)), vs = [.ref B.p, x, y] ∧ Asks K CS CP Pn H B X x y v o ∧ SeeAt ex X v o H E fun b H' => Q (kindB (bxO X.S b)) H'
def ValOf (ex : Rf → Addr) (E : XK) (Q : VK) (H : Hp) : Option Bx → Prop
  | none => E (.ref (ex .nothing)) none H
  | some (.branch _) => E (.ref (ex .branch)) none H
  | some (.leaf n) => Q (.int n) H
def NamOf (ex : Rf → Addr) (E : XK) (Q : VK) (H : Hp) : Option Bx → Prop
  | none => E (.ref (ex .nothing)) none H
  | some (.leaf _) => E (.ref (ex .leaf)) none H
  | some (.branch rs) => NewL H Q (rs.map fun r => V.str r.1)
def spValue (K : PySem.W.Frag) (CS CP : Addr) (ex : Rf → Addr) (Pn : Addr) : Sp := fun vs H Q E => ∃ (B : SA) (X : TS) (x y : V) (v : Vw) (o : Option (List V)), vs = [.ref B.p, x, y] ∧ Asks K CS CP Pn H B X x y v o ∧ SeeAt ex X v o H E fun b H' => ValOf ex E Q H' (bxO X.S b)
def spNames (K : PySem.W.Frag) (CS CP : Addr) (ex : Rf → Addr) (Pn : Addr) : Sp := fun vs H Q E => ∃ (B : SA) (X : TS) (x y : V) (v : Vw) (o : Option (List V)), vs = [.ref B.p, x, y] ∧ Asks K CS CP Pn H B X x y v o ∧ SeeAt ex X v o H E fun b H' => NamOf ex E Q H' (bxO X.S b)
def spInitS (K : PySem.W.Frag) (CS CP Pb : Addr) : Sp := fun vs H Q _ => ∃ (p dx : Addr), vs = [.ref p] ∧ H p = some (.ins CS dx []) ∧ GxR.TabG H Pb ∧
  ∀ (B : SA) H', B.p = p → H B.d = none → (∀ b, B.A.foot b → H b = none) → Gx (fun b => b = p) H H' → StAt K CS CP H' B TS.new → Q .non H'
theorem pathOf_no {xs : List V} (h : namesOk xs = false) : pathOf (some xs) = none := by
  unfold pathOf
  dsimp only
  rw [if_neg (by rw [h]; exact Bool.false_ne_true)]
theorem pathOf_yes {xs : List V} (h : namesOk xs = true) : pathOf (some xs) = some (txts xs) ∧ xs = (txts xs).map V.str := by
  unfold pathOf
  dsimp only
  rw [if_pos h]
  unfold namesOk at h
  rw [Bool.and_eq_true] at h
  exact ⟨rfl, (all_strs h.2).1⟩
theorem st_eqNil {K : PySem.W.Frag} {H : Hp} {Q : VK} {p q : Addr} {ys : List Str} (h : SqL K H p (ys.map V.str)) (hq : SqL K H q []) (hok : ∀ y ∈ ys, PyData.strOk y = true) (k : Q (.bl ys.isEmpty) H) : rEqD K (.ref p) (.ref q) H Q := by
  refine ⟨.list (ys.map PyData.str), .list [], .lst h (dp_strs ys), .lst hq .nil, shaped_strs hok, by decide, ?_⟩
  have e : PyData.eqv (.list (ys.map PyData.str)) (.list []) = ys.isEmpty := by
    cases ys with
    | nil => simp [PyData.eqv, PyData.eqvAll]
    | cons y r => simp [PyData.eqv, PyData.eqvAll]
  rw [e]
  exact k
/-- what the dicts say of a place -/
def valO (kvs : List (Key × V)) : Option Int → Option V
  | some z => valV kvs (Sum.inl z)
  | none => none
theorem lf_dgetO {H : Hp} {a : Addr} {kvs : List (Key × V)} {x : Option Int} {d : V} {P : V → Prop} (h : H a = some (.dK kvs)) (q : P ((valO kvs x).getD d)) :
    (∃ o, DGet H a (oV x) o ∧ P (o.getD d)) ∨ (∃ kvs, oV x = .non ∧ Rd H a (.dK kvs) ∧ P d) := by
  cases x with
  | some z => exact .inl ⟨_, DGet.k (k := .inl z) h, q⟩
  | none => exact .inr ⟨kvs, rfl, .inl h, q⟩
theorem Dcts.kinds {K : PySem.W.Frag} {H : Hp} {S : PS} {kc kn kr : List (Key × V)} (d : Dcts K H S kc kn kr) (o : Option Int) : match bxO S o with
    | none => valO kn o = none ∧ valO kr o = none
    | some (.leaf n) => valO kn o = some (V.int n) ∧ valO kr o = none
    | some (.branch rs) => valO kn o = none ∧ ∃ t us, valO kr o = some (.ref t) ∧ TG.GT H t us ∧ Prs K H us rs := by
  cases o with
  | none => exact ⟨rfl, rfl⟩
  | some z =>
    have vn := d.vn z
    have vr := d.vr z
    unfold bxO
    dsimp only
    cases e : S.box z with
    | none =>
      rw [e] at vn vr
      exact ⟨vn, vr⟩
    | some x =>
      obtain ⟨b, c⟩ := x
      rw [e] at vn vr
      cases b with
      | leaf n => exact ⟨vn, vr⟩
      | branch rs => exact ⟨vn, vr⟩
theorem st_len2 {K : PySem.W.Frag} {H : Hp} {Q : VK} {p : Addr} {ys : List V} (h : SqL K H p ys ∨ SqT K H p ys) (q : Q (.int ys.length) H) : rLenQ K [.ref p] H Q := ⟨p, ys, rfl, h, q⟩
theorem st_list2 {K : PySem.W.Frag} {H : Hp} {Q : VK} {p : Addr} {ys : List V} (h : SqL K H p ys ∨ SqT K H p ys) (q : ∀ l, H l = none → Q (.ref l) (upd H l (.lst ys))) : rListOf K [.ref p] H Q := ⟨p, ys, rfl, h, q⟩
theorem lf_dinNB {H : Hp} {a : Addr} {kvs : List (Key × V)} {x : Option Int} {P : Bool → Prop} (h : H a = some (.dK kvs)) (q : P (match x with | some z => valV kvs (Sum.inl z) | none => none).isSome) :
    (∃ a' o, V.ref a = .ref a' ∧ DGet H a' (oV x) o ∧ P o.isSome) ∨ ∃ a' kvs, V.ref a = .ref a' ∧ oV x = .non ∧ Rd H a' (.dK kvs) ∧ P false := by
  cases x with
  | some z => exact .inl ⟨a, _, rfl, DGet.k (k := .inl z) h, q⟩
  | none => exact .inr ⟨a, kvs, rfl, rfl, .inl h, q⟩
theorem atI_m1 {xs : List V} {x : V} : atI (xs ++ [x]) (-1) = some x := by
  unfold atI ixN
  have e : (xs ++ [x]).length = xs.length + 1 := by rw [List.length_append, List.length_singleton]
  rw [e, if_neg (by omega), if_pos (by omega)]
  have e2 : ((-1 : Int) + ((xs.length + 1 : Nat) : Int)).toNat = xs.length := by omega
  rw [e2]
  show (xs ++ [x])[xs.length]? = some x
  simp
theorem atI_m2 {xs : List V} {x y : V} : atI (xs ++ [x] ++ [y]) (-2) = some x := by
  unfold atI ixN
  have e : (xs ++ [x] ++ [y]).length = xs.length + 2 := by rw [List.length_append, List.length_append, List.length_singleton, List.length_singleton]
  rw [e, if_neg (by omega), if_pos (by omega)]
  have e2 : ((-2 : Int) + ((xs.length + 2 : Nat) : Int)).toNat = xs.length := by omega
  rw [e2]
  show (xs ++ [x] ++ [y])[xs.length]? = some x
  simp
theorem cutV_m1 {xs : List V} {x : V} : cutV (xs ++ [x]) none (some (-1)) = xs := by
  unfold cutV
  rw [HT.sIx_none]
  have e : HT.sIx (xs ++ [x]).length (xs ++ [x]).length (some (-1)) = xs.length := by
    show (if (-1 : Int) < 0 then ((-1 : Int) + ((xs ++ [x]).length : Int)).toNat else min (-1 : Int).toNat (xs ++ [x]).length) = _
    rw [if_pos (by decide), List.length_append, List.length_singleton]
    omega
  rw [e, List.drop_zero, Nat.sub_zero]
  exact List.take_left
theorem cutV_m2 {xs : List V} {x y : V} : cutV (xs ++ [x] ++ [y]) none (some (-2)) = xs := by
  unfold cutV
  rw [HT.sIx_none]
  have e : HT.sIx (xs ++ [x] ++ [y]).length (xs ++ [x] ++ [y]).length (some (-2)) = xs.length := by
    show (if (-2 : Int) < 0 then ((-2 : Int) + ((xs ++ [x] ++ [y]).length : Int)).toNat else min (-2 : Int).toNat (xs ++ [x] ++ [y]).length) = _
    rw [if_pos (by decide), List.length_append, List.length_append, List.length_singleton, List.length_singleton]
    omega
  rw [e, List.drop_zero, Nat.sub_zero, List.append_assoc]
  exact List.take_left
theorem st_slL {K : PySem.W.Frag} {H : Hp} {Q : VK} {a : Addr} {xs : List V} {lo hi : Option Int} (h : SqL K H a xs) (q : ∀ p, H p = none → Q (.ref p) (upd H p (.lst (cutV xs lo hi)))) : rSlL K (.ref a) lo hi H Q := ⟨a, xs, rfl, h, q⟩
theorem st_rU {g : Int → V} {i : Int} {H : Hp} {Q : VK} (q : Q (g i) H) : rU g (.int i) H Q := ⟨i, rfl, q⟩
theorem st_in {K : PySem.W.Frag} {H : Hp} {Q : VK} {x : V} {p : Addr} {xs : List V} (h : SqL K H p xs ∨ SqT K H p xs) (fx : flatV x = true) (fs : xs.all flatV = true) (q : Q (.bl (inV x xs)) H) : rIn K false x (.ref p) H Q := ⟨p, xs, rfl, h, fx, fs, q⟩
theorem st_iRevA {K : PySem.W.Frag} {te : TE} {σ : L2.St} {H : Hp} {R : It → Hp → Prop} (h : te σ H fun v H1 => ∃ (a : Addr) (xs : List V), v = .ref a ∧ ((SqL K H1 a xs ∧ R (Itv K a xs.length) H1) ∨ (SqT K H1 a xs ∧ R (RT.ItvT K a xs.length) H1))) : RT.iRevA K te σ H R := h
theorem walk_revR {K : PySem.W.Frag} {a : Addr} {xs : List V} : Walk (Itv K a xs.length) xs.reverse.length (fun H => SqL K H a xs) (fun i H x H' => H' = H ∧ xs.reverse[i]? = some x) := by
  rw [List.length_reverse]
  have w := walk_rev (K := K) (a := a) (xs := xs)
  refine ⟨w.goes, w.stops, fun i H x H' hi hG y => ?_⟩
  obtain ⟨e, h⟩ := w.yields i H x H' hi hG y
  refine ⟨e, ?_⟩
  rw [List.getElem?_reverse hi]
  exact h
theorem PrV.app {K : PySem.W.Frag} {H : Hp} : ∀ {vs : List V} {rs : List (V × V)} {ws : List V} {qs : List (V × V)}, PrV K H vs rs → PrV K H ws qs → PrV K H (vs ++ ws) (rs ++ qs)
  | _, _, _, _, .nil, h => h
  | _, _, _, _, .cons a r, h => .cons a (r.app h)
theorem PrV.rev {K : PySem.W.Frag} {H : Hp} : ∀ {vs : List V} {rs : List (V × V)}, PrV K H vs rs → PrV K H vs.reverse rs.reverse
  | _, _, .nil => .nil
  | _, _, .cons a r => by
    rw [List.reverse_cons, List.reverse_cons]
    exact r.rev.app (.cons a .nil)
theorem zip_pairs (f g : Option Int × Str → V) : ∀ ps : List (Option Int × Str), (ps.map f).zip (ps.map g) = ps.map fun p => (f p, g p)
  | [] => rfl
  | p :: ps => by rw [List.map_cons, List.map_cons, List.zip_cons_cons, zip_pairs f g ps] <;> rfl
def unO : V → Option Int
  | .int z => some z
  | _ => none
theorem unO_oV (o : Option Int) : unO (oV o) = o := by cases o <;> rfl
theorem inV_leaf (S : PS) : ∀ ps : List (Option Int × Str), inV (.str "leaf") (ps.map fun p => kindB (bxO S p.1)) = ps.any fun p => isLf (bxO S p.1)
  | [] => rfl
  | p :: ps => by
    have ih := inV_leaf S ps
    unfold inV at ih ⊢
    rw [List.map_cons, List.any_cons, List.any_cons, ih]
    congr 1
    cases bxO S p.1 with
    | none => rfl
    | some b =>
      cases b with
      | leaf n =>
        show eqV (V.str "leaf") (V.str "leaf") = true
        decide +kernel
      | branch rs =>
        show eqV (V.str "branch") (V.str "leaf") = false
        decide +kernel
theorem flat_kinds (S : PS) : ∀ ps : List (Option Int × Str), (ps.map fun p => kindB (bxO S p.1)).all flatV = true
  | [] => rfl
  | p :: ps => by
    rw [List.map_cons, List.all_cons, flat_kinds S ps, Bool.and_true]
    cases bxO S p.1 with
    | none => rfl
    | some b => cases b <;> rfl
theorem putO_at {X : TS} {o : Option (List V)} {n : Option Int} {ns : List Str} (h : pathOf o = some ns) (hne : ns ≠ []) : putO X o n = (match n with | none => .error .number | some z => X.putF ns z) := by
  unfold putO
  rw [h]
  cases ns with
  | nil => exact absurd rfl hne
  | cons m ns => rfl
theorem putO_bad {X : TS} {o : Option (List V)} {n : Option Int} (h : pathOf o = none ∨ pathOf o = some []) : putO X o n = .error .path := by
  unfold putO
  rcases h with h | h <;> rw [h]
theorem cutO_at {X : TS} {o : Option (List V)} {ns : List Str} (h : pathOf o = some ns) (hne : ns ≠ []) : cutO X o = X.cutF ns := by
  unfold cutO
  rw [h]
  cases ns with
  | nil => exact absurd rfl hne
  | cons m ns => rfl
theorem cutO_bad {X : TS} {o : Option (List V)} (h : pathOf o = none ∨ pathOf o = some []) : cutO X o = .error .path := by
  unfold cutO
  rcases h with h | h <;> rw [h]
theorem TS.Ok.is {X : TS} (h : X.Ok) : (X.S.box X.top).isSome = true := h.t.there _ List.mem_cons_self
theorem TS.Ok.fit {X : TS} (h : X.Ok) : Fit X.S (some X.top) := fun z e => by cases e; exact h.is
theorem Ext.is {S S' : PS} (e : Ext S S') {z : Int} (h : (S.box z).isSome = true) (hz : z ≤ S.made) : (S'.box z).isSome = true := by
  rw [← bxO_is, e.same z hz, bxO_is]
  exact h
theorem TInv.le {S : PS} {R : List Int} (h : TInv S R) {z : Int} (hz : (S.box z).isSome = true) : z ≤ S.made := by
  obtain ⟨x, ex⟩ := Option.isSome_iff_exists.mp hz
  exact (h.ok.dom z x ex).2
theorem upd_none {H : Hp} {a b : Addr} {o : HO} (h : upd H a o b = none) : H b = none := by
  by_cases q : b = a
  · rw [q, upd_same] at h; cases h
  · rw [upd_ne q] at h; exact h
theorem st_newPile {K : PySem.W.Frag} {C : Addr} {σ : L2.St} {H : Hp} {Q : VK} (h : ∀ (A : PA) H1, (∀ b, A.foot b → H b = none) → Gr H H1 → PileAt K C H1 A PS.empty → Q (.ref A.p) H1) : tMake C (spInit K C) [] E0 tNil σ H Q := by
  refine st_make ?_
  intro x dx hx hdx hne
  refine ⟨x, dx, rfl, upd_same, fun A H1 ep hc hn hr gx pl => ⟨rfl, ?_⟩⟩
  subst ep
  refine h A H1 (fun b hb => ?_) ?_ pl
  · rcases hb with rfl | rfl | rfl | rfl
    · exact hx
    · exact upd_none (upd_none hc)
    · exact upd_none (upd_none hn)
    · exact upd_none (upd_none hr)
  · have f0 : ∀ b o, H b = some o → (upd (upd H dx (.own A.p)) A.p (.ins C dx [])) b = some o := fun b o e => by rw [upd_ne (ne_of_none e hx), upd_ne (ne_of_none e hdx)]; exact e
    refine ⟨fun b o e n => gx.keep b o (f0 b o e) (ne_of_none e hx) n, fun b t => ?_, fun b o e => gx.there b o (f0 b o e)⟩
    obtain ⟨ps, e, z⟩ := t
    exact gx.tab b ⟨ps, f0 b _ e, z⟩
theorem st_newStore {K : PySem.W.Frag} {CS CP Pb : Addr} {σ : L2.St} {H : Hp} {Q : VK} (tab : GxR.TabG H Pb) (h : ∀ (B : SA) H1, (∀ b, B.foot b → H b = none) → Gr H H1 → StAt K CS CP H1 B TS.new → Q (.ref B.p) H1) : tMake CS (spInitS K CS CP Pb) [] E0 tNil σ H Q := by
  refine st_make ?_
  intro x dx hx hdx hne
  have f0 : ∀ b o, H b = some o → (upd (upd H dx (.own x)) x (.ins CS dx [])) b = some o := fun b o e => by rw [upd_ne (ne_of_none e hx), upd_ne (ne_of_none e hdx)]; exact e
  refine ⟨x, dx, rfl, upd_same, ?_, fun B H1 ep hd hA gx st => ⟨rfl, ?_⟩⟩
  · obtain ⟨ps, e, z⟩ := tab
    exact ⟨ps, f0 _ _ e, z⟩
  · subst ep
    refine h B H1 (fun b hb => ?_) ?_ st
    · rcases hb with rfl | rfl | hb
      · exact hx
      · exact upd_none (upd_none hd)
      · exact upd_none (upd_none (hA b hb))
    · refine ⟨fun b o e n => gx.keep b o (f0 b o e) (ne_of_none e hx) n, fun b t => ?_, fun b o e => gx.there b o (f0 b o e)⟩
      obtain ⟨ps, e, z⟩ := t
      exact gx.tab b ⟨ps, f0 b _ e, z⟩
theorem sfs_init (B : SA) (t : Int) : putF "_shots_taken" (.int 0) (putF "_shot_tops" (.ref B.d) (putF "_top" (.int t) (putF "pile" (.ref B.A.p) []))) = sfs B t 0 := by
  have h1 : ¬ (("pile" : Str) = "_top") := by decide +kernel
  have h2 : ¬ (("pile" : Str) = "_shot_tops") := by decide +kernel
  have h3 : ¬ (("_top" : Str) = "_shot_tops") := by decide +kernel
  have h4 : ¬ (("pile" : Str) = "_shots_taken") := by decide +kernel
  have h5 : ¬ (("_top" : Str) = "_shots_taken") := by decide +kernel
  have h6 : ¬ (("_shot_tops" : Str) = "_shots_taken") := by decide +kernel
  simp only [putF, h1, h2, h3, h4, h5, h6, if_false]
  rfl
theorem pe_fldK {X : Cx} {K : PySem.W.Frag} {ta : TE} {e : Expr} {f : Str} {pos : Pos} (h : X.K = K) (he : PE X e ta) (hb : attributeBase e f X.env (eval e X.env) = eval e X.env) : PE X (.Attribute e f pos) (tFld K ta f) := by
  subst h
  exact pe_fld he hb
theorem SeeAt.imp {ex : Rf → Addr} {X : TS} {v : Vw} {o : Option (List V)} {H : Hp} {E : XK} {k k' : Option Int → Hp → Prop} (h : SeeAt ex X v o H E k) (f : ∀ b H', Gr H H' → k b H' → k' b H') : SeeAt ex X v o H E k' := by
  unfold SeeAt at h ⊢
  cases e : X.vw v with
  | none => rw [e] at h; exact h
  | some t =>
    rw [e] at h
    dsimp only at h ⊢
    cases e2 : pathOf o with
    | none => rw [e2] at h; exact h
    | some ns => rw [e2] at h; exact fun H' g => f _ _ g (h H' g)
theorem TS.Ok.vw {X : TS} (h : X.Ok) {v : Vw} {t : Int} (e : X.vw v = some t) : (X.S.box t).isSome = true := by
  cases v with
  | tree => cases e; exact h.is
  | shot k => exact h.t.there t (List.mem_cons_of_mem _ (List.mem_map.mpr ⟨_, findI_mem e, rfl⟩))
  | odd => cases e
theorem SeeAt.fit {ex : Rf → Addr} {X : TS} {v : Vw} {o : Option (List V)} {H : Hp} {E : XK} {k k' : Option Int → Hp → Prop} (h : SeeAt ex X v o H E k) (ok : X.Ok) (f : ∀ b H', Gr H H' → Fit X.S b → k b H' → k' b H') : SeeAt ex X v o H E k' := by
  unfold SeeAt at h ⊢
  cases e : X.vw v with
  | none => rw [e] at h; exact h
  | some t =>
    rw [e] at h
    dsimp only at h ⊢
    cases e2 : pathOf o with
    | none => rw [e2] at h; exact h
    | some ns => rw [e2] at h; exact fun H' g => f _ _ g (ok.t.toTInv.walk ns (fun z q => by cases q; exact ok.vw e)) (h H' g)
theorem List.nodup_of_lt {l : List Int} (h : l.Pairwise (· < ·)) : l.Nodup := h.imp fun {a b} h => by omega
theorem nodup_le {m : List (Int × Int)} {n : Nat} (h : (m.map (·.1)).Nodup) (hb : ∀ p ∈ m, 1 ≤ p.1 ∧ p.1 ≤ n) : m.length ≤ n := by
  have h2 : (m.map fun p => (p.1 - 1).toNat).Nodup := by
    have : (m.map fun p => (p.1 - 1).toNat) = (m.map (·.1)).map fun z => (z - 1).toNat := by rw [List.map_map] <;> rfl
    rw [this]
    refine List.pairwise_map.mpr (h.imp_of_mem fun {a b} ha hb' hne => ?_)
    obtain ⟨p, hp, rfl⟩ := List.mem_map.mp ha
    obtain ⟨q, hq, rfl⟩ := List.mem_map.mp hb'
    have := hb p hp
    have := hb q hq
    intro e
    exact hne (by omega)
  have h3 : (m.map fun p => (p.1 - 1).toNat).length ≤ (List.range n).length := List.Nodup.length_le_of_subset h2 fun x hx => by
    obtain ⟨p, hp, rfl⟩ := List.mem_map.mp hx
    have := hb p hp
    exact List.mem_range.mpr (by omega)
  rw [List.length_map, List.length_range] at h3
  exact h3
end My
namespace My
open PySem PySem.Spec PyProof.Rows L2
/-! ### a store stays in order -/
theorem isBr_at {S : PS} {z : Int} (h : isBr (bxO S (some z)) = true) : ∃ rs c, S.box z = some (.branch rs, c) := by
  cases e : bxO S (some z) with
  | none => rw [e] at h; cases h
  | some b =>
    rw [e] at h
    cases b with
    | leaf n => cases h
    | branch rs =>
      obtain ⟨c, ec⟩ := bxO_at e
      exact ⟨rs, c, ec⟩
theorem isBr_of {S : PS} {z : Int} {rs : Rw} {c : Nat} (h : S.box z = some (.branch rs, c)) : isBr (bxO S (some z)) = true := by
  rw [bxO_some h] <;> rfl
theorem TS.turn_sub (X : TS) (S : PS) (t : Int) {z : Int} {b : Bx} {c : Nat} (h : (X.turn S t).1.S.box z = some (b, c)) : bxO S (some z) = some b := by
  obtain ⟨c', e⟩ := (Les.letGo (S.hold t) X.top).sub z b c h
  rw [← bxO_hold S t, bxO_some e]
theorem TS.turn_same (X : TS) (S : PS) (t : Int) {z : Int} (h : ((X.turn S t).1.S.box z).isSome = true) : bxO (X.turn S t).1.S (some z) = bxO S (some z) := by
  obtain ⟨x, ex⟩ := Option.isSome_iff_exists.mp h
  rw [bxO_some (b := x.1) (c := x.2) ex, X.turn_sub S t (b := x.1) (c := x.2) ex]
theorem TS.turn_made (X : TS) (S : PS) (t : Int) : (X.turn S t).1.S.made = S.made := (Les.letGo (S.hold t) X.top).made
theorem TS.Ok.turnT {X : TS} {S : PS} {t : Int} (tm : TMid S (X.top :: X.shots.map (·.2)) t) : TOk (X.turn S t).1.S (t :: X.shots.map (·.2)) :=
  (tm.hold.perm (List.Perm.swap _ _ _)).letGo
theorem TS.Ok.turn {X : TS} (ok : X.Ok) {S : PS} {t : Int} (tm : TMid S (X.top :: X.shots.map (·.2)) t) (ext : Ext X.S S) (hb : isBr (bxO S (some t)) = true) : (X.turn S t).1.Ok := by
  have tk := TS.Ok.turnT tm
  refine ⟨tk, fun z hz => ?_, ok.ks, ok.kb, ok.tk⟩
  have h := tk.there z hz
  refine isBr_at ?_
  rw [X.turn_same S t h]
  rcases List.mem_cons.mp hz with rfl | hz
  · exact hb
  · obtain ⟨rs, c, e⟩ := ok.br z (List.mem_cons_of_mem _ hz)
    rw [ext.same z (ok.t.ok.dom z _ e).2]
    exact isBr_of e
theorem isBr_lead (S : PS) (z : Int) {ps : List (Option Int × Str)} (h : ps ≠ []) : isBr (bxO (leadF ps S z).1 (some (leadF ps S z).2)) = true := by
  cases ps with
  | nil => exact absurd rfl h
  | cons p ps =>
    rw [leadF_cons]
    dsimp only
    rw [bxO_mkB, if_pos rfl] <;> rfl
theorem pairsF_ne (S : PS) (o : Option Int) {ns : List Str} (h : ns ≠ []) : pairsF S o ns ≠ [] := fun e => by
  have := pairsF_len S o ns
  rw [e] at this
  exact h (List.length_eq_zero_iff.mp this.symm)
section
variable {X : TS} {ns : List Str} {n : Int}
def TS.putS (X : TS) (ns : List Str) (n : Int) : PS × Int := leadF (pairsF X.S (some X.top) ns) (X.S.new (.leaf n)) ((X.S.made : Int) + 1)
theorem TS.putN_eq (X : TS) (ns : List Str) (n : Int) : X.putN ns n = X.turn (X.putS ns n).1 (X.putS ns n).2 := rfl
theorem TS.Ok.putExt (ok : X.Ok) (ns : List Str) (n : Int) : Ext X.S (X.putS ns n).1 := (Ext.new _ _).trans (Ext.lead _ _ _)
theorem TS.putS_made (X : TS) (ns : List Str) (n : Int) : (X.putS ns n).1.made = X.S.made + 1 + ns.length := by
  unfold TS.putS
  rw [leadF_made, pairsF_len] <;> rfl
theorem TS.putS_top (X : TS) {ns : List Str} (h : ns ≠ []) (n : Int) : (X.putS ns n).2 = (X.S.made : Int) + 1 + ns.length := by
  unfold TS.putS
  rw [leadF_top _ _ (pairsF_ne _ _ h), pairsF_len] <;> rfl
theorem TS.Ok.putMid (ok : X.Ok) (hok : ∀ m ∈ ns, okN m = true) (n : Int) (hm : X.S.made + 1 + ns.length ≤ 2900) : TMid (X.putS ns n).1 (X.top :: X.shots.map (·.2)) (X.putS ns n).2 := by
  refine (ok.t.leaf n (by omega)).lead _ (fun p hp => ?_) ?_
  · obtain ⟨f, m⟩ := ok.t.toTInv.pairs ns ok.fit p hp
    exact ⟨fun y ey => (Ext.new _ _).is (f y ey) (ok.t.toTInv.le (f y ey)), hok _ m⟩
  · show X.S.made + 1 + _ ≤ 2900
    rw [pairsF_len]
    exact hm
theorem TS.Ok.putN (ok : X.Ok) (hne : ns ≠ []) (hok : ∀ m ∈ ns, okN m = true) (n : Int) (hm : X.S.made + 1 + ns.length ≤ 2900) : (X.putN ns n).1.Ok :=
  ok.turn (ok.putMid hok n hm) (ok.putExt ns n) (isBr_lead _ _ (pairsF_ne _ _ hne))
theorem TS.putN_made (X : TS) (ns : List Str) (n : Int) : (X.putN ns n).1.S.made = X.S.made + 1 + ns.length := by
  rw [X.putN_eq, X.turn_made, X.putS_made]
theorem TS.putN_top (X : TS) {ns : List Str} (h : ns ≠ []) (n : Int) : (X.putN ns n).1.top = (X.S.made : Int) + 1 + ns.length := X.putS_top h n
theorem TS.putN_shots (X : TS) (ns : List Str) (n : Int) : (X.putN ns n).1.shots = X.shots ∧ (X.putN ns n).1.taken = X.taken := ⟨rfl, rfl⟩
def TS.cutS (X : TS) (i : List Str) (l : Str) : PS × Int := leadF (pairsF X.S (some X.top) i) (mkB X.S (delR (rowsO X.S (walkF X.S (some X.top) i)) l)) ((X.S.made : Int) + 1)
theorem TS.cutN_eq (X : TS) (i : List Str) (l : Str) : X.cutN i l = X.turn (X.cutS i l).1 (X.cutS i l).2 := rfl
theorem TS.Ok.cutExt (ok : X.Ok) (i : List Str) (l : Str) : Ext X.S (X.cutS i l).1 := (Ext.mkB _ _).trans (Ext.lead _ _ _)
theorem TS.cutS_made (X : TS) (i : List Str) (l : Str) : (X.cutS i l).1.made = X.S.made + 1 + i.length := by
  unfold TS.cutS
  rw [leadF_made, pairsF_len, mkB_made]
theorem TS.cutS_top (X : TS) (i : List Str) (l : Str) : (X.cutS i l).2 = (X.S.made : Int) + 1 + i.length := by
  cases i with
  | nil => show (X.S.made : Int) + 1 = _; simp
  | cons m i =>
    unfold TS.cutS
    rw [leadF_top _ _ (pairsF_ne _ _ (by simp)), pairsF_len, mkB_made] <;> rfl
theorem TS.Ok.cutMid (ok : X.Ok) {i : List Str} {l : Str} (hok : ∀ m ∈ i, okN m = true) (hm : X.S.made + 1 + i.length ≤ 2900) : TMid (X.cutS i l).1 (X.top :: X.shots.map (·.2)) (X.cutS i l).2 := by
  obtain ⟨s1, s2, s3⟩ := rowsO_srt ok.t.toTInv (walkF X.S (some X.top) i)
  have kl := ok.t.rowsLen (walkF X.S (some X.top) i)
  have kl2 := delR_len (rowsO X.S (walkF X.S (some X.top) i)) l
  have tm := ok.t.mkB (s1.del l) (fun r hr' => s2 r (mem_delR hr')) (fun r hr' => s3 r (mem_delR hr')) (by omega) (by omega)
  refine tm.lead _ (fun p hp => ?_) ?_
  · obtain ⟨f, m⟩ := ok.t.toTInv.pairs i ok.fit p hp
    exact ⟨fun y ey => (Ext.mkB _ _).is (f y ey) (ok.t.toTInv.le (f y ey)), hok _ m⟩
  · rw [mkB_made, pairsF_len]
    exact hm
theorem TS.Ok.cutN (ok : X.Ok) {i : List Str} {l : Str} (hok : ∀ m ∈ i, okN m = true) (hm : X.S.made + 1 + i.length ≤ 2900) : (X.cutN i l).1.Ok := by
  refine ok.turn (ok.cutMid hok hm) (ok.cutExt i l) ?_
  cases i with
  | nil =>
    show isBr (bxO (mkB X.S _) (some ((X.S.made : Int) + 1))) = true
    rw [bxO_mkB, if_pos rfl] <;> rfl
  | cons m i => exact isBr_lead _ _ (pairsF_ne _ _ (by simp))
theorem TS.cutN_made (X : TS) (i : List Str) (l : Str) : (X.cutN i l).1.S.made = X.S.made + 1 + i.length := by
  rw [X.cutN_eq, X.turn_made, X.cutS_made]
theorem TS.cutN_top (X : TS) (i : List Str) (l : Str) : (X.cutN i l).1.top = (X.S.made : Int) + 1 + i.length := X.cutS_top i l
theorem TS.Ok.shotIs (ok : X.Ok) {k z : Int} (h : X.shot k = some z) : (X.S.box z).isSome = true := ok.t.there z (List.mem_cons_of_mem _ (List.mem_map.mpr ⟨_, findI_mem h, rfl⟩))
theorem TS.Ok.back (ok : X.Ok) {k z : Int} (h : X.shot k = some z) : (X.turn X.S z).1.Ok := by
  obtain ⟨rs, c, e⟩ := ok.br z (List.mem_cons_of_mem _ (List.mem_map.mpr ⟨_, findI_mem h, rfl⟩))
  exact ok.turn (ok.t.mid (ok.shotIs h)) (Ext.refl _) (isBr_of e)
theorem delI_perm : ∀ {m : List (Int × Int)} {k z : Int}, (m.map (·.1)).Pairwise (· < ·) → findI m k = some z → (m.map (·.2)).Perm (z :: (delI m k).map (·.2))
  | [], k, z, _, h => by cases h
  | (a, b) :: m, k, z, hs, h => by
    rw [List.map_cons, List.pairwise_cons] at hs
    obtain ⟨h1, h2⟩ := hs
    unfold findI delI at *
    by_cases q : a = k
    · rw [List.find?_cons_of_pos (by simp [q])] at h
      have h : b = z := by simpa using h
      subst h
      have : m.filter (fun r => decide (r.1 ≠ k)) = m := List.filter_eq_self.mpr fun r hr => by
        have := h1 r.1 (List.mem_map.mpr ⟨r, hr, rfl⟩)
        simp only [decide_eq_true_eq]
        dsimp only at this
        omega
      rw [List.filter_cons_of_neg (by simp [q]), this, List.map_cons]
    · rw [List.find?_cons_of_neg (by simp [q])] at h
      rw [List.filter_cons_of_pos (by simp [q]), List.map_cons, List.map_cons]
      exact ((delI_perm h2 h).cons b).trans (List.Perm.swap _ _ _)
theorem TS.Ok.dropT (ok : X.Ok) {k z : Int} (h : X.shot k = some z) : TOk (X.S.letGo z).1 (X.top :: (delI X.shots k).map (·.2)) := by
  have p := delI_perm ok.ks h
  exact (ok.t.perm ((p.cons X.top).trans (List.Perm.swap _ _ _))).letGo
theorem delI_sub (m : List (Int × Int)) (k : Int) : ∀ p ∈ delI m k, p ∈ m := fun p hp => (List.mem_filter.mp hp).1
theorem TS.Ok.drop (ok : X.Ok) {k z : Int} (h : X.shot k = some z) : (X.dropN k z).1.Ok := by
  have tk := ok.dropT h
  refine ⟨tk, fun y hy => ?_, ok.ks.sublist (List.filter_sublist.map _), fun p hp => ok.kb p (delI_sub _ _ p hp), ok.tk⟩
  have hi := tk.there y hy
  obtain ⟨x, ex⟩ := Option.isSome_iff_exists.mp hi
  obtain ⟨c', e'⟩ := (Les.letGo X.S z).sub y x.1 x.2 ex
  have hm : y ∈ X.top :: X.shots.map (·.2) := by
    rcases List.mem_cons.mp hy with rfl | hy
    · exact List.mem_cons_self
    · obtain ⟨p, hp, rfl⟩ := List.mem_map.mp hy
      exact List.mem_cons_of_mem _ (List.mem_map.mpr ⟨p, delI_sub _ _ p hp, rfl⟩)
  obtain ⟨rs, c, e⟩ := ok.br y hm
  rw [e] at e'
  have e2 : Bx.branch rs = x.1 := congrArg Prod.fst (Option.some.inj e')
  exact ⟨rs, x.2, by show (X.S.letGo z).1.box y = _; rw [ex, e2]⟩
theorem TS.Ok.snap (ok : X.Ok) (ht : X.taken < 100000) : X.snapF.Ok := by
  have tk := ok.t.hold ok.is
  refine ⟨tk.perm ?_, fun y hy => ?_, ?_, fun p hp => ?_, by show X.taken + 1 ≤ _; omega⟩
  · show (X.top :: X.top :: X.shots.map (·.2)).Perm (X.top :: (X.shots ++ [((X.taken : Int) + 1, X.top)]).map (·.2))
    rw [List.map_append]
    exact (List.perm_append_singleton X.top (X.shots.map (·.2))).symm.cons X.top
  · have hm : y ∈ X.top :: X.shots.map (·.2) := by
      rcases List.mem_cons.mp hy with rfl | hy
      · exact List.mem_cons_self
      · obtain ⟨p, hp, rfl⟩ := List.mem_map.mp hy
        rcases List.mem_append.mp hp with hp | hp
        · exact List.mem_cons_of_mem _ (List.mem_map.mpr ⟨p, hp, rfl⟩)
        · rw [List.mem_singleton.mp hp]; exact List.mem_cons_self
    obtain ⟨rs, c, e⟩ := ok.br y hm
    refine isBr_at ?_
    show isBr (bxO (X.S.hold X.top) (some y)) = true
    rw [bxO_hold]
    exact isBr_of e
  · show ((X.shots ++ [((X.taken : Int) + 1, X.top)]).map (·.1)).Pairwise (· < ·)
    rw [List.map_append]
    refine List.pairwise_append.mpr ⟨ok.ks, by simp, fun a ha b hb => ?_⟩
    obtain ⟨p, hp, rfl⟩ := List.mem_map.mp ha
    have hb : b = (X.taken : Int) + 1 := by simpa using hb
    have := ok.kb p hp
    omega
  · show 1 ≤ p.1 ∧ p.1 ≤ ((X.taken + 1 : Nat) : Int)
    rcases List.mem_append.mp hp with hp | hp
    · have := ok.kb p hp
      omega
    · rw [List.mem_singleton.mp hp]
      dsimp only
      omega
end
theorem TS.new_box (z : Int) : TS.new.S.box z = if z = 1 then some (.branch [], 1) else none := by
  show (((PS.empty.holds []).new (.branch [])).hold 1).box z = _
  rw [box_hold, box_new]
  show (if z = 1 then ((if z = (0 : Int) + 1 then some (Bx.branch [], 0) else none : Option (Bx × Nat)).map fun x => (x.1, x.2 + 1)) else if z = (0 : Int) + 1 then some (Bx.branch [], 0) else none) = _
  by_cases q : z = 1
  · rw [if_pos q, if_pos q, if_pos (by omega)] <;> rfl
  · rw [if_neg q, if_neg q, if_neg (by omega)]
theorem TInv.empty : TInv PS.empty [] := ⟨⟨(fun _ _ h => nomatch h), (fun _ _ h => nomatch h), Nat.zero_le _⟩, (fun _ _ _ h => nomatch h), (fun _ _ _ h => nomatch h), (fun _ h => nomatch h)⟩
theorem TOk.empty : TOk PS.empty [] := ⟨TInv.empty, (fun _ _ _ h => nomatch h), (fun _ _ _ h => nomatch h)⟩
theorem TS.Ok.new : TS.new.Ok := by
  have tm : TMid (mkB PS.empty []) [] 1 := TOk.empty.mkB List.Pairwise.nil (fun r h => (nomatch h)) (fun r h => (nomatch h)) (by decide) (by decide)
  refine ⟨tm.hold, fun z hz => ?_, List.Pairwise.nil, (fun p h => nomatch h), Nat.zero_le _⟩
  have hz : z = 1 := by
    rcases List.mem_cons.mp hz with e | e
    · exact e
    · cases e
  subst hz
  exact ⟨[], 1, by rw [TS.new_box, if_pos rfl]⟩
/-! ### what the laws over the store have in common -/
def spWhole : Sp := fun vs H Q _ => ∃ i : Int, vs = [.int i] ∧ Q (.bl true) H
def spCount : Sp := fun vs H Q _ => ∃ i j : Int, vs = [.int i, .int j] ∧ Q (.bl (decide (i = j))) H
def abcd : List Nat := (Str.ofString "abcd").cps.toList
def nameG (n : Int) : Str := if n % 3 < 2 then ⟨#[abcd.getD (n / 3 % 4).toNat 0]⟩
  else if n / 3 % 3 = 0 then putIn (n / 9 % 6).toNat (n / 54 % ((stem (n / 9 % 6).toNat).length + 1 : Nat)).toNat (n / 432 % 26).toNat
  else Txt.join (Str.ofString "") (signs (fun i => ((n / 72 + (i : Int) * (1 + n / 1872 % 25)) % 26).toNat) (1 + n / 9 % 8).toNat)
theorem nameG_ok (n : Int) : okN (nameG n) = true := by
  unfold nameG
  split
  · have h : ∀ i, i < 4 → okN ⟨#[abcd.getD i 0]⟩ = true := by decide +kernel
    exact h _ (by omega)
  · split
    · refine putIn_ok ?_ ?_ ?_
      · omega
      · have := Int.emod_lt_of_pos (n / 54) (b := (((stem (n / 9 % 6).toNat).length + 1 : Nat) : Int)) (by omega)
        omega
      · omega
    · exact join_signs (fun i _ => by omega) (by omega) (by omega)
def spNameBy : Sp := fun vs H Q _ => ∃ i : Int, vs = [.int i] ∧ ∀ H', Gr H H' → Q (.str (nameG i)) H'
def sizeA (n : Int) : Nat := if n % 8 < 2 then 1 else if n % 8 < 4 then 2 else if n % 8 = 4 then 3 else if n % 8 = 5 then 4 else if n % 8 = 6 then (5 + n / 8 % 3).toNat else 8
def sizeB (n : Int) : Nat := if n % 8 < 2 then 1 else if n % 8 = 2 then 2 else if n % 8 = 3 then 3 else if n % 8 = 4 then 4 else if n % 8 < 7 then (5 + n / 8 % 3).toNat else 8
theorem sizeA_le (n : Int) : 1 ≤ sizeA n ∧ sizeA n ≤ 8 := by
  unfold sizeA
  repeat' split
  all_goals omega
theorem sizeB_le (n : Int) : 1 ≤ sizeB n ∧ sizeB n ≤ 8 := by
  unfold sizeB
  repeat' split
  all_goals omega
def pathG (sz : Int → Nat) (n : Int) : List Str := (List.range (sz n)).map fun (k : Nat) => nameG ((n / 8 + (k : Int) * 7919) * 48271 % 1000003)
theorem pathG_len (sz : Int → Nat) (n : Int) : (pathG sz n).length = sz n := by unfold pathG; rw [List.length_map, List.length_range]
theorem pathG_ok (sz : Int → Nat) (n : Int) : ∀ m ∈ pathG sz n, okN m = true := fun m hm => by
  obtain ⟨k, _, rfl⟩ := List.mem_map.mp hm
  exact nameG_ok _
def spPathBy (sz : Int → Nat) : Sp := fun vs H Q _ => ∃ i : Int, vs = [.int i] ∧ NewL H Q ((pathG sz i).map V.str)
def numG (n : Int) : Int := if n % 3 < 2 then n / 3 % 5 - 2 else n / 3 % 1999999999999999999999999999999 - 1000000000000000000000000000000 + 1
theorem numG_ok (n : Int) : isNum (numG n) = true := by
  unfold isNum numG lim
  rw [Bool.and_eq_true, decide_eq_true_eq, decide_eq_true_eq]
  split
  · omega
  · omega
def spNumberBy : Sp := fun vs H Q _ => ∃ i : Int, vs = [.int i] ∧ Q (.int (numG i)) H
/-- a path that a law hands in -/
structure PathL (ns : List Str) : Prop where
  ne : ns ≠ []
  le : ns.length ≤ 8
  ok : ∀ n ∈ ns, okN n = true
theorem pathA_ok (n : Int) : PathL (pathG sizeA n) := ⟨fun e => by have := pathG_len sizeA n; rw [e] at this; have := (sizeA_le n).1; simp at *; omega, by rw [pathG_len]; exact (sizeA_le n).2, pathG_ok _ _⟩
theorem pathB_ok (n : Int) : PathL (pathG sizeB n) := ⟨fun e => by have := pathG_len sizeB n; rw [e] at this; have := (sizeB_le n).1; simp at *; omega, by rw [pathG_len]; exact (sizeB_le n).2, pathG_ok _ _⟩
theorem PathL.putO {X : TS} {ns : List Str} (h : PathL ns) (n : Int) : putO X (some (ns.map V.str)) (some n) = X.putF ns n := putO_at (n := some n) (pathOf_ok h.le h.ok) h.ne
theorem PathL.cutO {X : TS} {ns : List Str} (h : PathL ns) : cutO X (some (ns.map V.str)) = X.cutF ns := cutO_at (pathOf_ok h.le h.ok) h.ne
/-- a put that is not refused -/
theorem TS.putF_ok {X X' : TS} {ns : List Str} {n : Int} {g : Nat} (h : X.putF ns n = .ok (X', g)) : (X', g) = (X, 0) ∨ (X', g) = X.putN ns n := by
  unfold TS.putF at h
  split at h
  · cases h
  · split at h
    · cases h
    · split at h
      · exact .inl (Except.ok.inj h).symm
      · exact .inr (Except.ok.inj h).symm
theorem TS.cutF_ok {X X' : TS} {ns : List Str} {g : Nat} (h : X.cutF ns = .ok (X', g)) : (X', g) = X.cutN ns.dropLast (ns.getLastD (Str.ofString "")) := by
  unfold TS.cutF at h
  split at h
  · cases h
  · exact (Except.ok.inj h).symm
/-! ### a method that may raise, asked in a try -/
def tMethW (C : Addr) (m : Str) (sp : Sp) (E : L2.St → XK) (ta : TE) (t : TA) : TE := fun σ H Q => ta σ H fun x H1 => ∃ a dx fs, x = .ref a ∧ H1 a = some (.ins C dx fs) ∧ fs.lookup m = none ∧ t σ H1 fun vs H2 => sp (x :: vs) H2 Q (E σ)
section
variable {X : Cx} {k : Nat} {ps : List Str} {C : Addr} {sp : Sp} {m : Str} {pos apos : Pos} {e o : Expr} {es : List Expr} {t : TA} {ta : TE} {pl : Sem Bool}
theorem pe_mmS {E : L2.St → XK} (ho : PE X o ta) (cl : Cls X.K C) (c : Mf X.prog X.w X.K X.mg X.base k C m ps sp) (hr : Room k X.A) (hx : ∀ σ, PassesAt (L2N.CX X.prog X.w) X σ (E σ)) (ha : L2.PA X (e :: es) t)
    (hst : starEach (e :: es) X.env = (false, eval e X.env) :: starEach es X.env := by rfl) (hpl : (backTo pos (starEach es X.env)).any (·.1) = false := by rfl)
    (ht : eval (.Call (.Attribute o m apos) (e :: es) [] pos) X.env = (do
      let ov ← eval o X.env
      standAt apos.atName
      let (f, first) ← holding [ov] (getMethod ov m pl)
      callWith pos f first (backTo pos (starEach (e :: es) X.env)) (backToKw pos (keywordEach [] X.env))) := by rfl) : PE X (.Call (.Attribute o m apos) (e :: es) [] pos) (tMethW C m sp E ta t) := by
  obtain ⟨f, fd, F, hm, b⟩ := c.ex
  refine ⟨fun pins s σ H Q I h => ?_⟩
  refine PySem.W.methodCall_KW (pl := pl) (thn (ho.run pins s σ H _ I h) fun u s1 ⟨x, H1, I1, rx, a, dx, fs, ex, ea, l, q⟩ => ?_) ht
  subst ex
  obtain rfl : u = Value.ref a := rx
  refine getmeth_ok I1 ea cl hm l (PySem.W.callWith_K (first := [.ref a]) (h₀ := X.base) I.ok.mod.kin hm.kp (thn (ha.run pos pins s1 σ H1 _ I1 q) fun us s2 ⟨vs, H2, I2, r, q2⟩ => ⟨I2.kIn, ?_⟩) hst hpl)
  exact run_fnS (us := .ref a :: us) (vs := .ref a :: vs) F hr b (hx σ) I2 (.cons rfl r) q2
theorem st_methW {E : L2.St → XK} {σ : L2.St} {H : Hp} {Q : VK} (h : ta σ H fun x H1 => ∃ a dx fs, x = .ref a ∧ H1 a = some (.ins C dx fs) ∧ fs.lookup m = none ∧ t σ H1 fun vs H2 => sp (x :: vs) H2 Q (E σ)) : tMethW C m sp E ta t σ H Q := h
end
/-- a store of which no snapshot has been taken -/
structure Fresh (X : TS) : Prop where
  ok : X.Ok
  shots : X.shots = []
  taken : X.taken = 0
  top : X.top = X.S.made
theorem Fresh.new : Fresh TS.new := ⟨TS.Ok.new, rfl, rfl, rfl⟩
theorem Fresh.put {X : TS} (h : Fresh X) {ns : List Str} (p : PathL ns) (n : Int) (hm : X.S.made ≤ 2800) : Fresh (X.putN ns n).1 := by
  have := p.le
  exact ⟨h.ok.putN p.ne p.ok n (by omega), h.shots, h.taken, by rw [X.putN_top p.ne, X.putN_made]; omega⟩
theorem Fresh.step {X X' : TS} {g : Nat} (h : Fresh X) {ns : List Str} (p : PathL ns) {n : Int} (hm : X.S.made ≤ 2800) (e : X.putF ns n = .ok (X', g)) : Fresh X' ∧ X'.S.made ≤ X.S.made + 9 := by
  rcases TS.putF_ok e with e | e
  · rw [show X' = X from congrArg Prod.fst e]
    exact ⟨h, by omega⟩
  · rw [show X' = (X.putN ns n).1 from congrArg Prod.fst e]
    have := p.le
    exact ⟨h.put p n hm, by rw [X.putN_made]; omega⟩
theorem Fresh.one {X : TS} (h : Fresh X) : ∃ rs, X.S.box X.top = some (.branch rs, 1) := by
  obtain ⟨rs, c, e⟩ := h.ok.br _ List.mem_cons_self
  have hc := h.ok.t.cnt _ _ _ e
  have hr : refs X.S X.top = 0 := refs_zero fun i hi => by
    refine Decidable.byContradiction fun q => ?_
    have := (cnt_lt h.ok.t.toTInv _ _ q).1
    have := h.top
    omega
  rw [hr, h.shots] at hc
  have : c = 1 := by rw [hc]; simp
  rw [this] at e
  exact ⟨rs, e⟩
theorem letGo_lower {S : PS} (ok : S.Ok) {z : Int} {b : Bx} {c : Nat} (e : S.box z = some (b, c)) (hc : 2 ≤ c) : S.letGo z = (S.lower z, 0) := by
  rw [PS.letGo_eq, PS.run_cons ok]
  unfold PS.step
  rw [e]
  dsimp only
  rw [if_neg (by omega : ¬ c - 1 = 0)]
  show PS.run _ (S.lower z) [] (0 + 0) = _
  rw [PS.run_nil]
def spFilled (K : PySem.W.Frag) (CS CP Pb Pn : Addr) : Sp := fun vs H Q _ => ∃ (l : Addr) (ns : List Int), vs = [.ref l] ∧ SqL K H l (ns.map V.int) ∧ GxR.TabG H Pb ∧ GxR.TabG H Pn ∧
  ∀ (B : SA) (X : TS) H', (∀ b, B.foot b → H b = none) → Gr H H' → StAt K CS CP H' B X → Fresh X → X.S.made ≤ 100 → Q (.ref B.p) H'
theorem cut_ints (ns : List Int) (lo hi : Option Int) : ∃ cs : List Int, cutV (ns.map V.int) lo hi = cs.map V.int ∧ cs.length ≤ ns.length ∧ ∀ z ∈ cs, z ∈ ns := by
  refine ⟨(ns.drop (HT.sIx (ns.map V.int).length 0 lo)).take (HT.sIx (ns.map V.int).length (ns.map V.int).length hi - HT.sIx (ns.map V.int).length 0 lo), ?_, ?_, fun z hz => List.mem_of_mem_drop (List.mem_of_mem_take hz)⟩
  · unfold cutV
    rw [List.map_take, List.map_drop]
  · rw [List.length_take, List.length_drop]
    omega
theorem kept_keys {S : PS} (ok : S.Ok) {zs : List Int} (h1 : zs.Pairwise (· < ·)) (h2 : ∀ z, z ∈ zs ↔ (S.box z).isSome = true) : zs = S.keys :=
  ints_ext h1 S.keys_lt fun z => (h2 z).trans (S.mem_keys ok z).symm
theorem PS.keys_len (S : PS) : S.keys.length ≤ S.made := by
  unfold PS.keys
  refine Nat.le_trans (List.length_filter_le _ _) ?_
  rw [List.length_map, List.length_range]
  exact Nat.le_refl _
theorem PS.keys_congr {S S' : PS} (hm : S'.made = S.made) (h : ∀ z, (S'.box z).isSome = (S.box z).isSome) : S'.keys = S.keys := by
  unfold PS.keys
  rw [hm]
  exact List.filter_congr fun z _ => h z
theorem ints_at {xs : List Int} {i : Nat} {v : V} (h : (xs.map V.int)[i]? = some v) : ∃ z, v = .int z ∧ xs[i]? = some z ∧ z ∈ xs := by
  rw [List.getElem?_map] at h
  obtain ⟨z, ez, rfl⟩ := Option.map_eq_some_iff.mp h
  exact ⟨z, rfl, ez, List.mem_of_getElem? ez⟩
/-- an item of a list of numbers, by a number that is taken by its length -/
theorem atI_mod {xs : List Int} (h : xs ≠ []) (n : Int) : ∃ z, z ∈ xs ∧ atI (xs.map V.int) (n % (xs.length : Int)) = some (.int z) := by
  have hp := List.length_pos_iff.mpr h
  obtain ⟨j, ej, hj⟩ := nat_emod n xs.length _ rfl hp
  rw [ej]
  exact ⟨xs[j], List.getElem_mem hj, atI_nat (by rw [List.getElem?_map, List.getElem?_eq_getElem hj] <;> rfl)⟩
theorem see_tree {ex : Rf → Addr} {X : TS} {ns : List Str} {H : Hp} {E : XK} {k : Option Int → Hp → Prop} (h8 : ns.length ≤ 8) (ok : ∀ n ∈ ns, okN n = true) (q : ∀ H', Gr H H' → k (walkF X.S (some X.top) ns) H') : SeeAt ex X .tree (some (ns.map V.str)) H E k := by
  unfold SeeAt
  rw [pathOf_ok h8 ok]
  exact q
theorem see_shot {ex : Rf → Addr} {X : TS} {z t : Int} {ns : List Str} {H : Hp} {E : XK} {k : Option Int → Hp → Prop} (hz : X.shot z = some t) (h8 : ns.length ≤ 8) (ok : ∀ n ∈ ns, okN n = true) (q : ∀ H', Gr H H' → k (walkF X.S (some t) ns) H') : SeeAt ex X (.shot z) (some (ns.map V.str)) H E k := by
  unfold SeeAt
  rw [pathOf_ok h8 ok]
  show match X.shot z with | none => _ | some t => _
  rw [hz]
  exact q
theorem ask_tree {K : PySem.W.Frag} {CS CP Pn : Addr} {H : Hp} {B : SA} {X : TS} {p : Addr} {ns : List Str} (st : StAt K CS CP H B X) (ok : X.Ok) (h : SqQ K H p (ns.map V.str)) (h8 : ns.length ≤ 8) (hok : ∀ n ∈ ns, okN n = true) (tn : GxR.TabG H Pn) : Asks K CS CP Pn H B X .non (.ref p) .tree (some (ns.map V.str)) :=
  ⟨st, ok, rfl, path_in h h8 hok, tn⟩
theorem ask_shot {K : PySem.W.Frag} {CS CP Pn : Addr} {H : Hp} {B : SA} {X : TS} {p : Addr} {z : Int} {ns : List Str} (st : StAt K CS CP H B X) (ok : X.Ok) (h : SqQ K H p (ns.map V.str)) (h8 : ns.length ≤ 8) (hok : ∀ n ∈ ns, okN n = true) (tn : GxR.TabG H Pn) : Asks K CS CP Pn H B X (.int z) (.ref p) (.shot z) (some (ns.map V.str)) :=
  ⟨st, ok, rfl, path_in h h8 hok, tn⟩
theorem st_neStrs {K : PySem.W.Frag} {H : Hp} {Q : VK} {p q : Addr} {ys : List Str} (h : SqL K H p (ys.map V.str)) (hq : SqL K H q (ys.map V.str)) (hok : ∀ y ∈ ys, okN y = true) (k : Q (.bl false) H) : rNeD K (.ref p) (.ref q) H Q := by
  have hs : ∀ y ∈ ys, PyData.strOk y = true := fun y hy => lowS_ok (okN_le (hok y hy)).2.2
  refine ⟨.list (ys.map PyData.str), .list (ys.map PyData.str), .lst h (dp_strs ys), .lst hq (dp_strs ys), shaped_strs hs, shaped_strs hs, ?_⟩
  rw [PyData.eqv, SeqAt.eqvAll_refl _ (lay_strs hs)]
  exact k
theorem cut_strs (ns : List Str) (k : Nat) : cutV (ns.map V.str) none (some (k : Int)) = (ns.take k).map V.str := by
  unfold cutV
  rw [HT.sIx_none, HT.sIx_nat, List.drop_zero, Nat.sub_zero, ← List.map_take]
  congr 1
  rw [List.length_map]
  by_cases h : k ≤ ns.length
  · rw [Nat.min_eq_left h]
  · rw [Nat.min_eq_right (by omega), List.take_length, List.take_of_length_le (by omega)]
theorem letGo_drop {S : PS} (ok : S.Ok) {z : Int} {b : Bx} {c : Nat} (e : S.box z = some (b, c)) (hc : c ≤ 1) (hr : b.rows = []) : S.letGo z = (S.drop z, 1) := by
  rw [PS.letGo_eq, PS.run_cons ok]
  unfold PS.step
  rw [e]
  dsimp only
  rw [if_pos (by omega : c - 1 = 0), hr]
  show PS.run _ (S.drop z) [] (0 + 1) = _
  rw [PS.run_nil]
theorem st_lenI {K : PySem.W.Frag} {H : Hp} {Q : VK} {p : Addr} {ys : List V} {k : Int} (h : SqL K H p ys) (e : (ys.length : Int) = k) (q : Q (.int k) H) : rLenQ K [.ref p] H Q := ⟨p, ys, rfl, .inl h, by rw [e]; exact q⟩
theorem st_lenTI {K : PySem.W.Frag} {H : Hp} {Q : VK} {p : Addr} {ys : List V} {k : Int} (h : SqT K H p ys) (e : (ys.length : Int) = k) (q : Q (.int k) H) : rLenQ K [.ref p] H Q := ⟨p, ys, rfl, .inr h, by rw [e]; exact q⟩
theorem StAt.there {K : PySem.W.Frag} {CS CP : Addr} {H : Hp} {B : SA} {X : TS} (st : StAt K CS CP H B X) {b : Addr} (h : B.foot b) : ∃ o, H b = some o := by
  obtain ⟨kc, kn, kr, e1, e2, e3, _⟩ := st.pl.dcts
  rcases h with rfl | rfl | rfl | rfl | rfl | rfl
  · exact ⟨_, st.ins⟩
  · exact ⟨_, st.sd⟩
  · exact ⟨_, st.pl.ins⟩
  · exact ⟨_, e1⟩
  · exact ⟨_, e2⟩
  · exact ⟨_, e3⟩
theorem StAt.apart {K : PySem.W.Frag} {CS CP : Addr} {H : Hp} {B O : SA} {X : TS} (st : StAt K CS CP H B X) (hO : ∀ b, O.foot b → H b = none) : ∀ b, O.foot b → ¬ B.foot b := fun b h1 h2 => by
  obtain ⟨o, e⟩ := st.there h2
  rw [hO b h1] at e
  cases e
theorem StAt.free {K : PySem.W.Frag} {CS CP : Addr} {H : Hp} {B : SA} {X : TS} (st : StAt K CS CP H B X) {b : Addr} (h : H b = none) : ¬ B.foot b := fun h2 => by
  obtain ⟨o, e⟩ := st.there h2
  rw [h] at e
  cases e
theorem new_keys : TS.new.S.keys = [1] := ints_ext TS.new.S.keys_lt (by simp) fun z => by
  rw [TS.new.S.mem_keys TS.Ok.new.t.ok, TS.new_box, List.mem_singleton]
  by_cases q : z = 1
  · rw [if_pos q]; exact ⟨fun _ => q, fun _ => rfl⟩
  · rw [if_neg q]; exact ⟨fun h => (by cases h), fun h => absurd h q⟩
theorem new_walk : bxO TS.new.S (walkF TS.new.S (some TS.new.top) []) = some (.branch []) := bxO_some (b := .branch []) (c := 1) (by rw [TS.new_box]; rfl)
theorem st_count {i j : Int} {H : Hp} {Q : VK} {E : XK} (e : i = j) (q : Q (.bl true) H) : spCount [.int i, .int j] H Q E := ⟨i, j, rfl, by rw [decide_eq_true e]; exact q⟩
theorem pe_dS {X : Cx} {k : Nat} {x : Str} {ps : List Str} {sp : Sp} {p pos : Pos} {e : Expr} {es : List Expr} {t : TA} {E : L2.St → XK} (c : Df X.prog X.w X.K X.mg X.base k x ps sp) (hr : Room k X.A) (hg : Gl X x) (hx : ∀ σ, PassesAt (L2N.CX X.prog X.w) X σ (E σ)) (ha : L2.PA X (e :: es) t)
    (hdb : (x == ("__debug__" : Str)) = false := by decide) (he : starEach (e :: es) X.env = (false, eval e X.env) :: starEach es X.env := by rfl) (hpl : (backTo pos (starEach es X.env)).any (·.1) = false := by rfl) :
    PE X (.Call (.Name x p) (e :: es) [] pos) (tCallS sp E t) := by
  obtain ⟨f, fd, F, hm, kp, b⟩ := c.ex
  exact pe_callS F hr hg hm kp b hx ha hdb he hpl
theorem st_callS {sp : Sp} {E : L2.St → XK} {t : TA} {σ : L2.St} {H : Hp} {Q : VK} (h : t σ H fun vs H1 => sp vs H1 Q (E σ)) : tCallS sp E t σ H Q := h
end My
namespace My
open PySem PySem.Spec PyProof.Rows L2
/-! ### what a deed does to a store -/
structure Deed (X X' : TS) (g : Nat) : Prop where
  ok : X'.Ok
  made : X.S.made ≤ X'.S.made
  sub : ∀ (z : Int) b c, z ≤ X.S.made → X'.S.box z = some (b, c) → ∃ c', X.S.box z = some (b, c')
  new : ∀ z : Int, (X.S.made : Int) < z → z ≤ X'.S.made → (X'.S.box z).isSome = true
  gone : X'.S.keys.length + g = X.S.keys.length + (X'.S.made - X.S.made)
theorem keys_new {S : PS} (h : S.box ((S.made : Int) + 1) = none) (ok : S.Ok) (b : Bx) : (S.new b).keys.length = S.keys.length + 1 := by
  unfold PS.keys
  show (((List.range (S.made + 1)).map fun (i : Nat) => (i : Int) + 1).filter fun z => ((S.new b).box z).isSome).length = _
  rw [List.range_succ, List.map_append, List.filter_append, List.length_append]
  have e1 : ((List.range S.made).map fun (i : Nat) => (i : Int) + 1).filter (fun z => ((S.new b).box z).isSome) = ((List.range S.made).map fun (i : Nat) => (i : Int) + 1).filter (fun z => (S.box z).isSome) := by
    refine List.filter_congr fun z hz => ?_
    obtain ⟨i, hi, rfl⟩ := List.mem_map.mp hz
    have := List.mem_range.mp hi
    rw [box_new, if_neg (by omega)]
  rw [e1]
  congr 1
  show ([(S.made : Int) + 1].filter _).length = 1
  rw [List.filter_cons_of_pos (by rw [box_new, if_pos rfl] <;> rfl)] <;> rfl
theorem keys_holds (S : PS) (zs : List Int) : (S.holds zs).keys = S.keys := PS.keys_congr (PS.holds_made S zs) fun z => PS.holds_some S zs z
theorem keys_hold (S : PS) (z : Int) : (S.hold z).keys = S.keys := PS.keys_congr rfl fun y => S.hold_some z y
theorem none_holds {S : PS} (h : S.box ((S.made : Int) + 1) = none) (zs : List Int) : (S.holds zs).box (((S.holds zs).made : Int) + 1) = none := by
  have := PS.holds_some S zs ((S.made : Int) + 1)
  rw [h] at this
  rw [PS.holds_made]
  cases e : (S.holds zs).box ((S.made : Int) + 1) with
  | none => rfl
  | some x => rw [e] at this; cases this
theorem keys_mkB {S : PS} (h : S.box ((S.made : Int) + 1) = none) (ok : S.Ok) (rs : Rw) : (mkB S rs).keys.length = S.keys.length + 1 := by
  unfold mkB
  rw [keys_new (none_holds h _) (ok.holds _), keys_holds]
theorem keys_lead {S : PS} {R : List Int} {t : Int} (h : TMid S R t) : ∀ (ps : List (Option Int × Str)), (∀ p ∈ ps, Fit S p.1 ∧ okN p.2 = true) → S.made + ps.length ≤ 2900 → (leadF ps S t).1.keys.length = S.keys.length + ps.length
  | [], _, _ => rfl
  | p :: ps, hp, hm => by
    rw [List.length_cons] at hm
    have tm := h.lead ps (fun q hq => hp q (List.mem_cons_of_mem _ hq)) (by omega)
    rw [leadF_cons]
    dsimp only
    rw [keys_mkB tm.toTInv.none_next tm.ok, keys_lead h ps (fun q hq => hp q (List.mem_cons_of_mem _ hq)) (by omega)] <;> rfl
theorem lead_chain (S : PS) : ∀ (ps : List (Option Int × Str)) (y : Int), (S.made : Int) < y → y ≤ (S.made : Int) + ps.length → ∃ rs r, bxO (leadF ps S S.made).1 (some y) = some (.branch rs) ∧ r ∈ rs ∧ r.2 = y - 1
  | [], y, h1, h2 => by simp at h2; omega
  | p :: ps, y, h1, h2 => by
    rw [List.length_cons] at h2
    rw [leadF_cons]
    dsimp only
    rw [bxO_mkB, leadF_made]
    by_cases q : y = ((S.made + ps.length : Nat) : Int) + 1
    · rw [if_pos q]
      refine ⟨_, (p.2, (leadF ps S S.made).2), rfl, ?_, ?_⟩
      · unfold putR
        exact List.mem_append_right _ List.mem_cons_self
      · cases ps with
        | nil => show (S.made : Int) = y - 1; simp at q; omega
        | cons p' ps' =>
          rw [leadF_top _ _ (by simp)]
          omega
    · rw [if_neg q]
      exact lead_chain S ps y h1 (by omega)
/-- a tree turned to a chain made anew -/
theorem Deed.chain {X : TS} (ok : X.Ok) {S : PS} {t : Int} (tm : TMid S (X.top :: X.shots.map (·.2)) t) (ext : Ext X.S S) (hb : isBr (bxO S (some t)) = true) (ht : t = S.made)
    (hk : S.keys.length = X.S.keys.length + (S.made - X.S.made)) (hc : ∀ y : Int, (X.S.made : Int) + 1 < y → y ≤ S.made → ∃ rs r, bxO S (some y) = some (.branch rs) ∧ r ∈ rs ∧ r.2 = y - 1) : Deed X (X.turn S t).1 (X.turn S t).2 := by
  have okX := ok.turn tm ext hb
  have hm := X.turn_made S t
  have ext2 : Ext X.S (S.hold t) := ext.trans (Ext.hold S t)
  refine ⟨okX, by rw [hm]; exact ext.made, fun z b c hz e => ?_, fun z h1 h2 => ?_, ?_⟩
  · have := X.turn_sub S t e
    rw [ext.same z hz] at this
    exact bxO_at this
  · rw [hm] at h2
    have key : ∀ (n : Nat) (z : Int), (X.S.made : Int) < z → z + n = S.made → ((X.turn S t).1.S.box z).isSome = true := fun n => by
      induction n with
      | zero =>
        intro z _ e
        have : z = t := by omega
        rw [this]
        exact okX.is
      | succ n ih =>
        intro z h1 e
        have hy := ih (z + 1) (by omega) (by omega)
        obtain ⟨rs, r, e1, e2, e3⟩ := hc (z + 1) (by omega) (by omega)
        rw [← X.turn_same S t hy] at e1
        obtain ⟨c, ec⟩ := bxO_at e1
        have := ((okX.t.rows _ _ _ ec).2.2 r e2).2
        rw [e3] at this
        rw [show z = z + 1 - 1 by omega]
        exact this
    exact key (S.made - z).toNat z h1 (by omega)
  · have h1 := PS.letGo_keys (tm.toTInv.hold tm.is).ok X.top
    rw [keys_hold] at h1
    rw [hm]
    show ((S.hold t).letGo X.top).1.keys.length + ((S.hold t).letGo X.top).2 = _
    omega
theorem TS.Ok.fits {X : TS} (ok : X.Ok) {S : PS} (ext : Ext X.S S) {ns : List Str} (hok : ∀ m ∈ ns, okN m = true) : ∀ p ∈ pairsF X.S (some X.top) ns, Fit S p.1 ∧ okN p.2 = true := fun p hp => by
  obtain ⟨f, m⟩ := ok.t.toTInv.pairs ns ok.fit p hp
  exact ⟨fun y ey => ext.is (f y ey) (ok.t.toTInv.le (f y ey)), hok _ m⟩
theorem Deed.put {X : TS} (ok : X.Ok) {ns : List Str} (hp : PathL ns) (n : Int) (hm : X.S.made ≤ 2800) : Deed X (X.putN ns n).1 (X.putN ns n).2 := by
  have h8 := hp.le
  have tm := ok.putMid hp.ok n (by omega)
  have mk := X.putS_made ns n
  refine Deed.chain (S := (X.putS ns n).1) (t := (X.putS ns n).2) ok tm (ok.putExt ns n) (isBr_lead _ _ (pairsF_ne _ _ hp.ne)) (by rw [mk, X.putS_top hp.ne]; omega) ?_ fun y h1 h2 => ?_
  · unfold TS.putS
    rw [keys_lead (ok.t.leaf n (by omega)) _ (ok.fits (Ext.new _ _) hp.ok) (by rw [pairsF_len]; show X.S.made + 1 + _ ≤ _; omega), keys_new ok.t.toTInv.none_next ok.t.ok, leadF_made, pairsF_len]
    show _ = _ + (X.S.made + 1 + ns.length - X.S.made)
    omega
  · unfold TS.putS
    refine lead_chain (X.S.new (.leaf n)) (pairsF X.S (some X.top) ns) y h1 ?_
    rw [mk] at h2
    rw [pairsF_len]
    show y ≤ ((X.S.made + 1 : Nat) : Int) + _
    omega
theorem Deed.cut {X : TS} (ok : X.Ok) {i : List Str} {l : Str} (h8 : i.length ≤ 8) (hok : ∀ m ∈ i, okN m = true) (hm : X.S.made ≤ 2800) : Deed X (X.cutN i l).1 (X.cutN i l).2 := by
  obtain ⟨s1, s2, s3⟩ := rowsO_srt ok.t.toTInv (walkF X.S (some X.top) i)
  have kl := ok.t.rowsLen (walkF X.S (some X.top) i)
  have kl2 := delR_len (rowsO X.S (walkF X.S (some X.top) i)) l
  have tm0 := ok.t.mkB (s1.del l) (fun r hr' => s2 r (mem_delR hr')) (fun r hr' => s3 r (mem_delR hr')) (by omega) (by omega)
  have tm := ok.cutMid (i := i) (l := l) hok (by omega)
  have mk := X.cutS_made i l
  have hbr : isBr (bxO (X.cutS i l).1 (some (X.cutS i l).2)) = true := by
    cases i with
    | nil =>
      show isBr (bxO (mkB X.S _) (some ((X.S.made : Int) + 1))) = true
      rw [bxO_mkB, if_pos rfl] <;> rfl
    | cons m i => exact isBr_lead _ _ (pairsF_ne _ _ (by simp))
  refine Deed.chain (S := (X.cutS i l).1) (t := (X.cutS i l).2) ok tm (ok.cutExt i l) hbr (by rw [mk, X.cutS_top i l]; omega) ?_ fun y h1 h2 => ?_
  · unfold TS.cutS
    rw [keys_lead tm0 _ (ok.fits (Ext.mkB _ _) hok) (by rw [pairsF_len, mkB_made]; omega), keys_mkB ok.t.toTInv.none_next ok.t.ok, leadF_made, pairsF_len, mkB_made]
    omega
  · have hmk := mkB_made X.S (delR (rowsO X.S (walkF X.S (some X.top) i)) l)
    unfold TS.cutS
    have := lead_chain (mkB X.S (delR (rowsO X.S (walkF X.S (some X.top) i)) l)) (pairsF X.S (some X.top) i) y (by rw [hmk]; omega) (by rw [mk] at h2; rw [pairsF_len, hmk]; omega)
    rw [hmk] at this
    exact this
theorem Deed.same {X : TS} (ok : X.Ok) : Deed X X 0 := ⟨ok, Nat.le_refl _, fun z b c _ e => ⟨c, e⟩, fun z h1 h2 => absurd h2 (by omega), by omega⟩
theorem Deed.back {X : TS} (ok : X.Ok) {k z : Int} (h : X.shot k = some z) : Deed X (X.turn X.S z).1 (X.turn X.S z).2 := by
  have hm := X.turn_made X.S z
  refine ⟨ok.back h, by rw [hm]; exact Nat.le_refl _, fun y b c _ e => bxO_at (X.turn_sub X.S z e), fun y h1 h2 => absurd h2 (by rw [hm]; omega), ?_⟩
  have h1 := PS.letGo_keys (ok.t.toTInv.hold (ok.shotIs h)).ok X.top
  rw [keys_hold] at h1
  rw [hm]
  show ((X.S.hold z).letGo X.top).1.keys.length + ((X.S.hold z).letGo X.top).2 = _
  omega
theorem Deed.drop {X : TS} (ok : X.Ok) {k z : Int} (h : X.shot k = some z) : Deed X (X.dropN k z).1 (X.dropN k z).2 := by
  have l := Les.letGo X.S z
  have hm : (X.dropN k z).1.S.made = X.S.made := l.made
  refine ⟨ok.drop h, by rw [hm]; exact Nat.le_refl _, fun y b c _ e => l.sub y b c e, fun y h1 h2 => absurd h2 (by rw [hm]; omega), ?_⟩
  have h1 := PS.letGo_keys ok.t.ok z
  rw [hm]
  show (X.S.letGo z).1.keys.length + (X.S.letGo z).2 = _
  omega
def snapsF (X : TS) : Nat → TS
  | 0 => X
  | n + 1 => (snapsF X n).snapF
theorem snaps_deed {X : TS} (ok : X.Ok) : ∀ n, X.taken + n ≤ 100000 → Deed X (snapsF X n) 0 ∧ (snapsF X n).taken = X.taken + n ∧ (snapsF X n).S.made = X.S.made ∧ (snapsF X n).top = X.top
  | 0, _ => ⟨Deed.same ok, rfl, rfl, rfl⟩
  | n + 1, h => by
    obtain ⟨d, h1, h2, h3⟩ := snaps_deed ok n (by omega)
    refine ⟨⟨d.ok.snap (by omega), d.made, fun z b c hz e => ?_, fun z a b => absurd b (by show ¬ z ≤ (snapsF X n).S.made; rw [h2]; omega), ?_⟩, by show (snapsF X n).taken + 1 = _; omega, h2, h3⟩
    · have e : ((snapsF X n).S.hold (snapsF X n).top).box z = some (b, c) := e
      have e2 : bxO ((snapsF X n).S.hold (snapsF X n).top) (some z) = some b := bxO_some e
      rw [bxO_hold] at e2
      obtain ⟨c2, e3⟩ := bxO_at e2
      exact d.sub z b c2 hz e3
    · have := d.gone
      show ((snapsF X n).S.hold (snapsF X n).top).keys.length + 0 = X.S.keys.length + ((snapsF X n).S.made - X.S.made)
      rw [keys_hold]
      exact this
def nthI (xs : List Int) (n : Int) : Int := xs.getD (n % (xs.length : Int)).toNat 0
theorem nthI_at {xs : List Int} (h : xs ≠ []) (n : Int) : atI (xs.map V.int) (n % (xs.length : Int)) = some (.int (nthI xs n)) ∧ nthI xs n ∈ xs := by
  have hp := List.length_pos_iff.mpr h
  obtain ⟨j, ej, hj⟩ := nat_emod n xs.length _ rfl hp
  unfold nthI
  rw [ej, Int.toNat_natCast, List.getD_eq_getElem?_getD, List.getElem?_eq_getElem hj]
  exact ⟨atI_nat (by rw [List.getElem?_map, List.getElem?_eq_getElem hj] <;> rfl), List.getElem_mem hj⟩
def TS.nums (X : TS) : List Int := X.shots.map (·.1)
/-- a deed by two cells -/
def askF (X : TS) (c m : Int) : Except Rf (TS × Nat) :=
  if c % 8 < 4 then X.putF (pathG sizeA (c / 8)) (numG m)
  else if c % 8 = 4 then X.cutF (pathG sizeA (c / 8))
  else if c % 8 = 5 then .ok (snapsF X (1 + if c / 8 % 16 = 3 then (m % 33).toNat else 0), 0)
  else if X.nums = [] ∨ m % 5 = 0 then X.putF (pathG sizeA (c / 8)) (numG m)
  else if c % 8 = 6 then dropO X (some (nthI X.nums (m / 5)))
  else backO X (some (nthI X.nums (m / 5)))
theorem TS.Ok.shot_of {X : TS} (ok : X.Ok) {k : Int} (h : k ∈ X.nums) : ∃ z, X.shot k = some z := by
  obtain ⟨p, hp, rfl⟩ := List.mem_map.mp h
  unfold TS.shot findI
  cases e : X.shots.find? fun r => decide (r.1 = p.1) with
  | some r => exact ⟨r.2, rfl⟩
  | none =>
    have := List.find?_eq_none.mp e p hp
    simp at this
theorem put_deed {X X' : TS} {g : Nat} (ok : X.Ok) {ns : List Str} (hp : PathL ns) {n : Int} (hm : X.S.made ≤ 2800) (h : X.putF ns n = .ok (X', g)) : Deed X X' g ∧ X'.S.made ≤ X.S.made + 9 ∧ X'.taken = X.taken := by
  have h8 := hp.le
  rcases TS.putF_ok h with e | e
  · rw [show X' = X from congrArg Prod.fst e, show g = 0 from congrArg Prod.snd e]
    exact ⟨Deed.same ok, by omega, rfl⟩
  · rw [show X' = (X.putN ns n).1 from congrArg Prod.fst e, show g = (X.putN ns n).2 from congrArg Prod.snd e]
    exact ⟨Deed.put ok hp n hm, by rw [X.putN_made]; omega, rfl⟩
theorem cut_deed {X X' : TS} {g : Nat} (ok : X.Ok) {ns : List Str} (hp : PathL ns) (hm : X.S.made ≤ 2800) (h : X.cutF ns = .ok (X', g)) : Deed X X' g ∧ X'.S.made ≤ X.S.made + 9 ∧ X'.taken = X.taken := by
  have h8 := hp.le
  have hl : ns.dropLast.length ≤ 8 := by rw [List.length_dropLast]; omega
  have e := TS.cutF_ok h
  rw [show X' = (X.cutN ns.dropLast (ns.getLastD (Str.ofString ""))).1 from congrArg Prod.fst e, show g = (X.cutN ns.dropLast (ns.getLastD (Str.ofString ""))).2 from congrArg Prod.snd e]
  exact ⟨Deed.cut ok hl (fun m hm => hp.ok m (List.dropLast_subset ns hm)) hm, by rw [X.cutN_made]; omega, rfl⟩
theorem ask_deed {X X' : TS} {c m : Int} {g : Nat} (ok : X.Ok) (hm : X.S.made ≤ 2800) (ht : X.taken ≤ 50000) (h : askF X c m = .ok (X', g)) : Deed X X' g ∧ X'.S.made ≤ X.S.made + 9 ∧ X'.taken ≤ X.taken + 33 := by
  have hp := pathA_ok (c / 8)
  unfold askF at h
  split at h
  · obtain ⟨a, b, c⟩ := put_deed ok hp hm h
    exact ⟨a, b, by omega⟩
  · split at h
    · obtain ⟨a, b, c⟩ := cut_deed ok hp hm h
      exact ⟨a, b, by omega⟩
    · split at h
      · have h := Except.ok.inj h
        rw [← show (snapsF X (1 + if c / 8 % 16 = 3 then (m % 33).toNat else 0)) = X' from congrArg Prod.fst h, ← show 0 = g from congrArg Prod.snd h]
        have hn : (1 + if c / 8 % 16 = 3 then (m % 33).toNat else 0) ≤ 33 := by split <;> omega
        obtain ⟨d, h1, h2, _⟩ := snaps_deed ok (1 + if c / 8 % 16 = 3 then (m % 33).toNat else 0) (by omega)
        exact ⟨d, by omega, by omega⟩
      · split at h
        · obtain ⟨a, b, c⟩ := put_deed ok hp hm h
          exact ⟨a, b, by omega⟩
        · rename_i hne
          have hne : X.nums ≠ [] := fun e => hne (.inl e)
          obtain ⟨z, ez⟩ := ok.shot_of (nthI_at hne (m / 5)).2
          split at h
          · unfold dropO at h
            dsimp only at h
            rw [ez] at h
            have h := Except.ok.inj h
            rw [← show (X.dropN _ z).1 = X' from congrArg Prod.fst h, ← show (X.dropN _ z).2 = g from congrArg Prod.snd h]
            exact ⟨Deed.drop ok ez, by show (X.S.letGo z).1.made ≤ _; rw [(Les.letGo X.S z).made]; omega, by show X.taken ≤ _; omega⟩
          · unfold backO at h
            dsimp only at h
            rw [ez] at h
            have h := Except.ok.inj h
            rw [← show (X.turn X.S z).1 = X' from congrArg Prod.fst h, ← show (X.turn X.S z).2 = g from congrArg Prod.snd h]
            exact ⟨Deed.back ok ez, by rw [X.turn_made]; omega, by show X.taken ≤ _; omega⟩
def spAskF (K : PySem.W.Frag) (CS CP : Addr) (ex : Rf → Addr) (Pb Pn : Addr) : Sp := fun vs H Q E => ∃ (B : SA) (X : TS) (c m : Int), vs = [.ref B.p, .int c, .int m] ∧ StAt K CS CP H B X ∧ X.Ok ∧ X.S.made ≤ 2800 ∧ X.taken ≤ 50000 ∧ GxR.TabG H Pb ∧ GxR.TabG H Pn ∧
  Out K CS CP ex H B Q E (askF X c m)
/-! ### puts at one path, one behind the other -/
abbrev sA : Str := Str.ofString "a"
structure LineA (X : TS) (k : Nat) : Prop where
  ok : X.Ok
  made : X.S.made = 2 * k + 1
  top : X.top = 2 * (k : Int) + 1
  shots : X.shots = []
  taken : X.taken = 0
  box : ∀ z : Int, X.S.box z = if z = 2 * (k : Int) + 1 then some (.branch (if k = 0 then [] else [(sA, 2 * (k : Int))]), 1) else if z = 2 * (k : Int) ∧ k ≠ 0 then some (.leaf ((k : Int) - 1), 1) else none
theorem LineA.new : LineA TS.new 0 := by
  refine ⟨TS.Ok.new, rfl, rfl, rfl, rfl, fun z => ?_⟩
  rw [TS.new_box]
  by_cases q : z = 1
  · rw [if_pos q, if_pos (by omega), if_pos rfl]
  · rw [if_neg q, if_neg (by omega), if_neg (by omega)]
theorem pathL_a : PathL [sA] := ⟨by simp, by decide, fun n hn => by rw [List.mem_singleton.mp hn]; decide +kernel⟩
theorem putR_a (k : Nat) (b : Int) : putR (if k = 0 then [] else [(sA, 2 * (k : Int))]) sA b = [(sA, b)] := by
  by_cases q : k = 0
  · rw [if_pos q] <;> rfl
  · rw [if_neg q]
    unfold putR lo hi
    rw [List.filter_cons_of_neg (by simp [ltS_irr]), List.filter_cons_of_neg (by simp [ltS_irr])]
    rfl
theorem LineA.put {X : TS} {k : Nat} (h : LineA X k) (hk : k ≤ 1000) : ∃ X', X.putF [sA] (k : Int) = .ok (X', if k = 0 then 1 else 2) ∧ LineA X' (k + 1) := by
  have hbt := h.box (2 * (k : Int) + 1)
  rw [if_pos rfl] at hbt
  have hrows : rowsO X.S (some X.top) = (if k = 0 then [] else [(sA, 2 * (k : Int))]) := by
    rw [h.top, rowsO_some hbt] <;> rfl
  have hpair : pairsF X.S (some X.top) [sA] = [(some X.top, sA)] := rfl
  have hw : walkF X.S (some X.top) [sA] = if k = 0 then none else some (2 * (k : Int)) := by
    show nextF X.S (some X.top) sA = _
    unfold nextF
    rw [hrows]
    by_cases q : k = 0
    · rw [if_pos q, if_pos q] <;> rfl
    · rw [if_neg q, if_neg q, findR_cons, if_pos rfl]
  have hbx : bxO X.S (walkF X.S (some X.top) [sA]) = if k = 0 then none else some (.leaf ((k : Int) - 1)) := by
    rw [hw]
    by_cases q : k = 0
    · rw [if_pos q, if_pos q] <;> rfl
    · rw [if_neg q, if_neg q]
      exact bxO_some (c := 1) (by rw [h.box, if_neg (by omega), if_pos ⟨rfl, q⟩])
  have hl : X.leafOn [sA] = false := by
    unfold TS.leafOn
    rw [hpair]
    show (isLf (bxO X.S (some X.top)) || false) = false
    rw [h.top, bxO_some hbt] <;> rfl
  have e1 : X.putF [sA] (k : Int) = .ok (X.putN [sA] (k : Int)) := by
    unfold TS.putF
    rw [hl, if_neg Bool.false_ne_true, hbx]
    by_cases q : k = 0
    · rw [if_pos q] <;> rfl
    · rw [if_neg q]
      show (if false = true then _ else if V.int ((k : Int) - 1) = V.int (k : Int) then _ else _) = _
      rw [if_neg Bool.false_ne_true, if_neg fun e => by have := V.int.inj e; omega]
  have ok' := h.ok.putN pathL_a.ne pathL_a.ok (k : Int) (by rw [h.made]; show _ + 1 ≤ _; omega)
  have tm := h.ok.putMid pathL_a.ok (k : Int) (by rw [h.made]; show _ + 1 ≤ _; omega)
  have eS : X.putS [sA] (k : Int) = (mkB (X.S.new (.leaf (k : Int))) [(sA, 2 * (k : Int) + 2)], 2 * (k : Int) + 3) := by
    show (mkB (X.S.new (.leaf (k : Int))) (putR (rowsO (X.S.new (.leaf (k : Int))) (some X.top)) sA ((X.S.made : Int) + 1)), (((X.S.made + 1 : Nat)) : Int) + 1) = _
    rw [(Ext.new X.S (.leaf (k : Int))).rows (fun z e => by cases e; rw [h.top, h.made]; omega), hrows, putR_a]
    rw [show (X.S.made : Int) + 1 = 2 * (k : Int) + 2 by rw [h.made]; omega, show (((X.S.made + 1 : Nat)) : Int) + 1 = 2 * (k : Int) + 3 by rw [h.made]; omega]
  rw [eS] at tm
  have m1 : ((X.S.new (.leaf (k : Int))).made : Int) = 2 * (k : Int) + 2 := by show ((X.S.made + 1 : Nat) : Int) = _; rw [h.made]; omega
  have bx : ∀ z : Int, ((mkB (X.S.new (.leaf (k : Int))) [(sA, 2 * (k : Int) + 2)]).hold (2 * (k : Int) + 3)).box z =
      if z = 2 * (k : Int) + 3 then some (.branch [(sA, 2 * (k : Int) + 2)], 1) else if z = 2 * (k : Int) + 2 then some (.leaf (k : Int), 1) else X.S.box z := fun z => by
    rw [box_hold]
    show (if z = 2 * (k : Int) + 3 then (((X.S.new (.leaf (k : Int))).hold (2 * (k : Int) + 2)).new _ |>.box z).map _ else (((X.S.new (.leaf (k : Int))).hold (2 * (k : Int) + 2)).new (.branch [(sA, 2 * (k : Int) + 2)])).box z) = _
    have eb : (((X.S.new (.leaf (k : Int))).hold (2 * (k : Int) + 2)).new (.branch [(sA, 2 * (k : Int) + 2)])).box z = if z = 2 * (k : Int) + 3 then some (.branch [(sA, 2 * (k : Int) + 2)], 0) else if z = 2 * (k : Int) + 2 then some (.leaf (k : Int), 1) else X.S.box z := by
      rw [box_new]
      show (if z = ((X.S.new (.leaf (k : Int))).made : Int) + 1 then _ else _) = _
      rw [m1]
      by_cases q : z = 2 * (k : Int) + 3
      · rw [if_pos (by omega), if_pos q]
      · rw [if_neg (by omega), if_neg q, box_hold, box_new]
        by_cases q2 : z = 2 * (k : Int) + 2
        · rw [if_pos q2, if_pos q2, if_pos (by rw [h.made]; omega)] <;> rfl
        · rw [if_neg q2, if_neg q2, if_neg (by rw [h.made]; omega)]
    rw [eb]
    by_cases q : z = 2 * (k : Int) + 3
    · rw [if_pos q, if_pos q, if_pos q] <;> rfl
    · rw [if_neg q, if_neg q, if_neg q]
  have okH := (tm.toTInv.hold tm.is).ok
  generalize hS : (mkB (X.S.new (.leaf (k : Int))) [(sA, 2 * (k : Int) + 2)]).hold (2 * (k : Int) + 3) = S3 at bx okH
  have b1 : S3.box (2 * (k : Int) + 1) = some (.branch (if k = 0 then [] else [(sA, 2 * (k : Int))]), 1) := by
    rw [bx, if_neg (by omega), if_neg (by omega), hbt]
  have hlet : S3.letGo (2 * (k : Int) + 1) = if k = 0 then (S3.drop (2 * (k : Int) + 1), 1) else ((S3.drop (2 * (k : Int) + 1)).drop (2 * (k : Int)), 2) := by
    rw [PS.letGo_eq, PS.run_cons okH]
    unfold PS.step
    rw [b1]
    dsimp only
    rw [if_pos rfl]
    by_cases q : k = 0
    · rw [if_pos q, if_pos q]
      show PS.run _ (S3.drop (2 * (k : Int) + 1)) [] (0 + 1) = _
      rw [PS.run_nil]
    · rw [if_neg q, if_neg q]
      show PS.run ((S3.drop (2 * (k : Int) + 1)).left [2 * (k : Int)]) (S3.drop (2 * (k : Int) + 1)) [2 * (k : Int)] (0 + 1) = _
      have e2 : (S3.drop (2 * (k : Int) + 1)).box (2 * (k : Int)) = some (.leaf ((k : Int) - 1), 1) := by
        rw [box_drop, if_neg (by omega), bx, if_neg (by omega), if_neg (by omega), h.box, if_neg (by omega), if_pos ⟨rfl, q⟩]
      rw [PS.run_cons (okH.drop _)]
      unfold PS.step
      rw [e2]
      dsimp only
      rw [if_pos rfl]
      show PS.run _ ((S3.drop (2 * (k : Int) + 1)).drop (2 * (k : Int))) [] (0 + 1 + 1) = _
      rw [PS.run_nil]
  have eN : X.putN [sA] (k : Int) = (⟨(S3.letGo (2 * (k : Int) + 1)).1, 2 * (k : Int) + 3, [], 0⟩, (S3.letGo (2 * (k : Int) + 1)).2) := by
    rw [X.putN_eq, eS]
    show (TS.mk (((mkB _ _).hold _).letGo X.top).1 _ X.shots X.taken, _) = _
    rw [hS, h.top, h.shots, h.taken]
  refine ⟨(X.putN [sA] (k : Int)).1, ?_, ok', by rw [X.putN_made, h.made]; show 2 * k + 1 + 1 + 1 = _; omega, by rw [eN]; dsimp only; omega, by rw [eN], by rw [eN], fun z => ?_⟩
  · rw [e1, eN, hlet]
    by_cases q : k = 0
    · rw [if_pos q, if_pos q]
    · rw [if_neg q, if_neg q]
  · rw [eN, hlet]
    dsimp only
    have e0 : (if k + 1 = 0 then [] else [(sA, 2 * ((k + 1 : Nat) : Int))] : Rw) = [(sA, 2 * (k : Int) + 2)] := by
      rw [if_neg (by omega), show 2 * ((k + 1 : Nat) : Int) = 2 * (k : Int) + 2 by omega]
    rw [e0]
    by_cases q : k = 0
    · rw [if_pos q, box_drop]
      by_cases q1 : z = 2 * (k : Int) + 1
      · rw [if_pos q1, if_neg (by omega), if_neg (by omega)]
      · rw [if_neg q1, bx]
        by_cases q2 : z = 2 * (k : Int) + 3
        · rw [if_pos q2, if_pos (by omega)]
        · rw [if_neg q2, if_neg (show ¬ z = 2 * ((k + 1 : Nat) : Int) + 1 by omega)]
          by_cases q3 : z = 2 * (k : Int) + 2
          · rw [if_pos q3, if_pos (show z = 2 * ((k + 1 : Nat) : Int) ∧ k + 1 ≠ 0 from ⟨by omega, by omega⟩), show ((k + 1 : Nat) : Int) - 1 = (k : Int) by omega]
          · rw [if_neg q3, if_neg (fun e => q3 (by omega)), h.box, if_neg q1, if_neg (fun e => e.2 q)]
    · rw [if_neg q, box_drop]
      by_cases q0 : z = 2 * (k : Int)
      · rw [if_pos q0, if_neg (by omega), if_neg (by omega)]
      · rw [if_neg q0, box_drop]
        by_cases q1 : z = 2 * (k : Int) + 1
        · rw [if_pos q1, if_neg (by omega), if_neg (by omega)]
        · rw [if_neg q1, bx]
          by_cases q2 : z = 2 * (k : Int) + 3
          · rw [if_pos q2, if_pos (by omega)]
          · rw [if_neg q2, if_neg (show ¬ z = 2 * ((k + 1 : Nat) : Int) + 1 by omega)]
            by_cases q3 : z = 2 * (k : Int) + 2
            · rw [if_pos q3, if_pos (show z = 2 * ((k + 1 : Nat) : Int) ∧ k + 1 ≠ 0 from ⟨by omega, by omega⟩), show ((k + 1 : Nat) : Int) - 1 = (k : Int) by omega]
            · rw [if_neg q3, if_neg (fun e => q3 (by omega)), h.box, if_neg q1, if_neg (fun e => q0 e.1)]
theorem LineA.keys {X : TS} {k : Nat} (h : LineA X (k + 1)) : X.S.keys = [2 * (k : Int) + 2, 2 * (k : Int) + 3] := by
  refine ints_ext X.S.keys_lt (by simp <;> omega) fun z => ?_
  rw [X.S.mem_keys h.ok.t.ok, h.box]
  simp only [List.mem_cons, List.not_mem_nil, or_false]
  by_cases q1 : z = 2 * ((k + 1 : Nat) : Int) + 1
  · rw [if_pos q1]; exact ⟨fun _ => .inr (by omega), fun _ => rfl⟩
  · rw [if_neg q1]
    by_cases q2 : z = 2 * ((k + 1 : Nat) : Int)
    · rw [if_pos ⟨q2, by omega⟩]; exact ⟨fun _ => .inl (by omega), fun _ => rfl⟩
    · rw [if_neg fun e => q2 e.1]
      exact ⟨fun e => (by cases e), fun e => absurd e (by omega)⟩
theorem deed_gone {X X' : TS} {g : Nat} (ok : X.Ok) (d : Deed X X' g) : (X.S.keys.filter fun z => !(X'.S.box z).isSome).length = g := by
  have h1 : X'.S.keys = (X.S.keys.filter fun z => (X'.S.box z).isSome) ++ ((List.range (X'.S.made - X.S.made)).map fun (i : Nat) => (X.S.made : Int) + 1 + i) := by
    refine ints_ext X'.S.keys_lt ?_ fun z => ?_
    · refine List.pairwise_append.mpr ⟨X.S.keys_lt.sublist List.filter_sublist, List.pairwise_map.mpr (List.pairwise_lt_range.imp fun {x y} h => by omega), fun a ha b hb => ?_⟩
      have := ok.t.toTInv.le ((X.S.mem_keys ok.t.ok a).mp (List.mem_filter.mp ha).1)
      obtain ⟨i, _, rfl⟩ := List.mem_map.mp hb
      omega
    · rw [X'.S.mem_keys d.ok.t.ok, List.mem_append, List.mem_filter, X.S.mem_keys ok.t.ok, List.mem_map]
      constructor
      · intro h
        by_cases q : z ≤ X.S.made
        · left
          refine ⟨?_, h⟩
          obtain ⟨x, ex⟩ := Option.isSome_iff_exists.mp h
          obtain ⟨c', e'⟩ := d.sub z x.1 x.2 q ex
          rw [e'] <;> rfl
        · right
          have := d.ok.t.toTInv.le h
          exact ⟨(z - X.S.made - 1).toNat, List.mem_range.mpr (by omega), by omega⟩
      · rintro (⟨_, h⟩ | ⟨i, hi, rfl⟩)
        · exact h
        · have := List.mem_range.mp hi
          exact d.new _ (by omega) (by omega)
  have h2 := congrArg List.length h1
  rw [List.length_append, List.length_map, List.length_range] at h2
  have h3 := d.gone
  have h4 : (X.S.keys.filter fun z => (X'.S.box z).isSome).length + (X.S.keys.filter fun z => !(X'.S.box z).isSome).length = X.S.keys.length := by
    generalize X.S.keys = l
    induction l with
    | nil => rfl
    | cons y l ih =>
      rw [List.filter_cons, List.filter_cons]
      cases (X'.S.box y).isSome
      · simp only [Bool.not_false, Bool.false_eq_true, if_true, if_false, List.length_cons]
        omega
      · simp only [Bool.not_true, Bool.false_eq_true, if_true, if_false, List.length_cons]
        omega
  have := d.made
  omega
theorem isNum_small {i : Int} (h1 : -1000000 ≤ i) (h2 : i ≤ 1000000) : isNum i = true := by
  unfold isNum lim
  rw [Bool.and_eq_true, decide_eq_true_eq, decide_eq_true_eq]
  omega
theorem cellAt {ns : List Int} {j : Nat} (h : j < ns.length) : atI (ns.map V.int) ((j : Nat) : Int) = some (.int (ns.getD j 0)) := by
  refine atI_nat ?_
  rw [List.getElem?_map, List.getD_eq_getElem?_getD, List.getElem?_eq_getElem h] <;> rfl
end My
/-! ### the end of a list's walk while an exception is handled -/
namespace HotX
open PySem PySem.Spec PyProof.Rows
theorem pyNext_list_end_hot {prog : Program} {w : World} {A : Around} {E : Value → Shared → Prop} {s : Shared} {it l x1 : Addr} {i : Nat} {items} {Q : Option Value → Shared → Prop} (hot : HotAt A x1 s.heap)
    (hit : s.heap.IsListIter it l i) (hl : s.heap.IsList l items) (hx : items[i]? = none) (hne : x1 ≠ it)
    (hQ : ∀ h', Heap.ExtBut it s.heap h' → Q none { s with heap := h' }) : wpAny (model prog w) A (pyNext (.ref it)) Q E s := by
  obtain ⟨hh, o1, vs1, h1, d1, c1⟩ := hot
  obtain ⟨o, ho, hc, hd⟩ := id hit
  obtain ⟨ol, hol, _, nl, hdl⟩ := hl
  unfold pyNext
  refine wpAny_bind (wpAny_attempt (wpAny_callSpecial?_slot (name := Str.ofString "__next__") hit.typeIs slot_listiter_next
    (wpAny_call_entry slot_listiter_next hit.typeIs entry_listiter_next ?_ (args_listiter_next _))))
  show wpAny _ _ (field (.ref it) 0 >>= _) _ _ s
  refine wpAny_bind (wpAny_field ho hd (x := .ref l) rfl ?_)
  show wpAny _ _ (if (Value.ref l == Value.none) = true then _ else _) _ _ s
  rw [if_neg (show ¬ ((Value.ref l == Value.none) = true) from Bool.false_ne_true)]
  show wpAny _ _ (field (.ref it) 1 >>= _) _ _ s
  refine wpAny_bind (wpAny_field ho hd (x := .int i 0) rfl ?_)
  show wpAny _ _ (seqItems? (.ref l) >>= _) _ _ s
  refine wpAny_bind (wpAny_seqItems hol hdl ?_)
  simp only [Int.toNat_natCast, hx]
  refine wpAny_bind (wpAny_rule (wpAny_bind (wpAny_setField ho hd (by simp) ?_)))
  show wpAny _ _ (newExc (.type "StopIteration") [] >>= _) _ _ _
  refine wpAny_bind ?_
  simp only [newExc, newTuple]
  refine wpAny_bind (wpAny_newObj_type ?_ (by size_fits))
  refine wpAny_bind (m := firstArgMember _ _) (wpAny_of_eq (a := Value.none) (by first | rfl | (simp only [firstArgMember]; rfl)) ?_)
  refine wpAny_newObj_type ?_ (by size_fits)
  have h1' : ∀ f, (s.heap.update it f).get? x1 = some o1 := fun f => by rw [Heap.get?_update_other _ _ (Ne.symm hne)]; exact h1
  refine raiseNew_hot ⟨hh, o1, vs1, Heap.get?_push_of_some _ (Heap.get?_push_of_some _ (h1' _)), d1, c1⟩ (Nat.ne_of_lt (Heap.lt_size (Heap.get?_push_of_some _ (h1' _)))) (Heap.get?_push_size _ rfl) rfl (by first | (simp; done) | (simp; omega) | (simp only [Array.size_append]; simp; omega)) ?_
  refine wpAny_bind (wpAny_isInstance (T := "StopIteration") (b := true) ⟨_, Heap.get?_update_self _ (Heap.get?_push_size _ rfl) rfl, rfl⟩ isSubtype_stop ?_)
  refine wpAny_pure (hQ _ fun b ob hb e => ?_)
  have e2 : ∀ f, (s.heap.update it f).get? b = some ob := fun f => by rw [Heap.get?_update_other _ _ (Ne.symm hb)]; exact e
  rw [Heap.get?_update_other _ _ (Nat.ne_of_gt (Heap.lt_size (Heap.get?_push_of_some _ (e2 _))))]
  exact Heap.get?_push_of_some _ (Heap.get?_push_of_some _ (e2 _))
end HotX
namespace L2H
open PySem PySem.Spec PyProof.Rows L2 HotX
theorem turn_listH {P : Program} {w : World} {K : PySem.W.Frag} {tg : Expr} (a it : Addr) : TurnH P w K tg (Itl K a) [it] it (fun i h => h.IsListIter it a i) where
  mem := by simp
  obj := fun i h st b hb => by
    have e : b = it := by simpa using hb
    subst e
    obtain ⟨o, e, c, d⟩ := st
    exact ⟨o, e, fun v z => by rw [d] at z; cases z⟩
  keep := fun i h h' st k => st.at fun o e => k it (by simp) o e
  item := by
    intro X hP hw hK hc i pins s σ H E I hf st hg
    subst hP hw hK
    obtain ⟨xs, x, hq, hx⟩ := hg
    obtain ⟨its, rv, p, hz⟩ := I.list hq
    obtain ⟨u, hu, ru⟩ := rv.get hx
    obtain ⟨f0, f1, f2, f3, f4, f5⟩ := hf it (by simp)
    refine wpAny_pyNext_list_item st p.isList (x := u) (by simpa using hu) fun h' st' sb => ?_
    have I1 : Inv X pins σ H { s with heap := h' } := I.turned (t' := s.toks) (fun b o hb e => (sb.2 b hb).trans e) f0 f1 f3 f4 f5
    obtain ⟨o, e, c, d⟩ := id st'
    exact ⟨u, rfl, go_of (s := { s with heap := h' }) e c d (by decide) ⟨x, H, I1, ru, ⟨rfl, fun ys hy => by rw [I.list_inj hy hq]; exact hx⟩, st', fun b hb => (hf b hb).1⟩⟩
  done := by
    intro X hP hw hK hc i pins s σ H E I hf st hg
    subst hP hw hK
    obtain ⟨xs, hq, hx⟩ := hg
    obtain ⟨its, rv, p, hz⟩ := I.list hq
    obtain ⟨f0, f1, f2, f3, f4, f5⟩ := hf it (by simp)
    have hl := rv.length
    obtain ⟨x1, hot⟩ := hc.at I
    have hne : x1 ≠ it := by
      rintro rfl
      obtain ⟨_, o1, vs1, h1, d1, c1⟩ := hot
      obtain ⟨o, ho, _, hd⟩ := st
      rw [h1] at ho
      cases ho
      rw [d1] at hd
      cases hd
      cases c1
    exact pyNext_list_end_hot hot st p.isList (by simp; omega) hne fun h' eb => ⟨rfl, I.turned (t' := s.toks) (fun b o hb e => eb b o hb e) f0 f1 f3 f4 f5⟩
  self := fun _ _ _ _ _ st h => wpAny_pyIter_listiter st h
theorem pi_listH {X : Cx} {tg : Expr} {l : Expr} {tl : TE} (hl : PE X l tl) : PIH X tg l (iList X.K tl) := by
  refine ⟨fun pins s σ H R I h => ?_⟩
  refine thn (hl.run pins s σ H _ I h) fun v s1 ⟨x, H1, I1, r1, q1⟩ => ?_
  obtain ⟨a, e, ⟨xs, hq⟩, q⟩ := q1
  subst e
  cases r1
  obtain ⟨its, rv, p, hz⟩ := I1.list hq
  refine wpAny_pyIter_list p.isList ?_
  refine ⟨s1.heap.objs.size, [s1.heap.objs.size], _, _, H1, rfl, I1.kept (t' := s1.toks) fun b o e => Heap.get?_push_of_some _ e, turn_listH a _, ⟨_, Heap.get?_push_size _ rfl, rfl, rfl⟩, fun b hb => ?_, q⟩
  have e : b = s1.heap.objs.size := by simpa using hb
  subst e
  exact I1.fpOk (Nat.le_refl _) (I1.hok.fresh (Nat.le_refl _))
end L2H
namespace L2
open PySem PySem.Spec PyProof.Rows
theorem Fun.okH {P : Program} {w : World} {K : PySem.W.Frag} {mg : Str → Option Value} {base : Heap} {x qual : Str} {st : Stmt} {f : Addr} {fd : FuncData} {N ps : List Str} {k : Nat} {sp : Sp} (F : Fun K x qual st f fd) (S : FnScope N ps (defScope st)) (len : ∀ vs H Q E, sp vs H Q E → vs.length = ps.length)
    (hbody : ∀ (cdv : Value) (A : Around) (outer : List Env) (s : Shared) (H : Hp) (vs : List V) (Q : VK) (E : XK) (p : Addr × Obj), L2H.HotC (L2H.cxH (L2N.CX P w) P w K mg base N qual (defScope st) f cdv A outer s H E p) → L2H.RoomH k (A.deeper (envOfC qual (defScope st) s.heap.objs.size f cdv)) → sp vs H Q E →
      ∃ t, PSs (L2H.cxH (L2N.CX P w) P w K mg base N qual (defScope st) f cdv A outer s H E p) (defBody st) t ∧ t { nx := fun _ H' => Q .non H', rt := Q } (start N vs) H) : L2H.FnH P w K mg base (L2N.CX P w) (k + 1) f fd ps sp := by
  obtain ⟨oc, od, kV, doc, pm, an, cdv, ct, osl, rfl, lk, hcd⟩ := F.ex
  exact L2H.fn_ofH lk hcd S len fun A outer s H vs Q E p hot hr hsp => hbody cdv A outer s H vs Q E p ⟨p, hot, List.mem_singleton.mpr rfl⟩ hr hsp
end L2
namespace My
open PySem PySem.Spec PyProof.Rows L2
/-! ### defs and methods called while an exception is handled -/
structure DfH (P : Program) (w : World) (K : PySem.W.Frag) (mg : Str → Option Value) (base : Heap) (k : Nat) (x : Str) (ps : List Str) (sp : Sp) : Prop where
  ex : ∃ (f : Addr) (fd : FuncData), L2H.FnH P w K mg base (L2N.CX P w) k f fd ps sp ∧ mg x = some (.ref f) ∧ PySem.W.keepIn K (.ref f) = true ∧ Binds K fd ps []
structure MfH (P : Program) (w : World) (K : PySem.W.Frag) (mg : Str → Option Value) (base : Heap) (k : Nat) (C : Addr) (m : Str) (ps : List Str) (sp : Sp) : Prop where
  ex : ∃ (f : Addr) (fd : FuncData), L2H.FnH P w K mg base (L2N.CX P w) k f fd ps sp ∧ Meth K C m f ∧ Binds K fd ps []
def tCallH (sp : Sp) (t : TA) : TE := fun σ H Q => t σ H fun vs H1 => sp vs H1 Q E0
def tMethH (C : Addr) (m : Str) (sp : Sp) (ta : TE) (t : TA) : TE := fun σ H Q => ta σ H fun x H1 => ∃ a dx fs, x = .ref a ∧ H1 a = some (.ins C dx fs) ∧ fs.lookup m = none ∧ t σ H1 fun vs H2 => sp (x :: vs) H2 Q E0
section
variable {X : Cx} {k : Nat} {C : Addr} {ps : List Str} {x m : Str} {sp : Sp} {p pos apos : Pos} {o e : Expr} {es : List Expr} {t : TA} {ta : TE} {pl : Sem Bool}
theorem passLH (σ : L2.St) : PassesAt (L2N.CX X.prog X.w) X σ ((fun _ => E0) σ) := fun pins H s e s' I c => passLN pins σ H s e s' I c
theorem pe_dH (c : DfH X.prog X.w X.K X.mg X.base k x ps sp) (hr : L2H.RoomH k X.A) (hc : L2H.HotC X) (hg : Gl X x) (ha : L2.PA X (e :: es) t)
    (hdb : (x == ("__debug__" : Str)) = false := by decide) (he : starEach (e :: es) X.env = (false, eval e X.env) :: starEach es X.env := by rfl) (hpl : (backTo pos (starEach es X.env)).any (·.1) = false := by rfl) :
    PE X (.Call (.Name x p) (e :: es) [] pos) (tCallH sp t) := by
  obtain ⟨f, fd, F, hm, kp, b⟩ := c.ex
  exact L2H.pe_callH (E := fun _ => E0) F hr hc hg hm kp b passLH ha hdb he hpl
theorem pe_mH (ho : PE X o ta) (cl : Cls X.K C) (c : MfH X.prog X.w X.K X.mg X.base k C m ps sp) (hr : L2H.RoomH k X.A) (hc : L2H.HotC X) (ha : L2.PA X (e :: es) t)
    (hst : starEach (e :: es) X.env = (false, eval e X.env) :: starEach es X.env := by rfl) (hpl : (backTo pos (starEach es X.env)).any (·.1) = false := by rfl)
    (ht : eval (.Call (.Attribute o m apos) (e :: es) [] pos) X.env = (do
      let ov ← eval o X.env
      standAt apos.atName
      let (f, first) ← holding [ov] (getMethod ov m pl)
      callWith pos f first (backTo pos (starEach (e :: es) X.env)) (backToKw pos (keywordEach [] X.env))) := by rfl) : PE X (.Call (.Attribute o m apos) (e :: es) [] pos) (tMethH C m sp ta t) := by
  obtain ⟨f, fd, F, hm, b⟩ := c.ex
  exact L2H.pe_methH (pl := pl) (E := fun _ => E0) ho cl hm F hr hc b passLH ha hst hpl ht
end
section
variable {σ : L2.St} {H : Hp} {Q : VK}
theorem st_callH {sp : Sp} {ta : TA} (h : ta σ H fun vs H1 => sp vs H1 Q E0) : tCallH sp ta σ H Q := h
theorem st_methH {C : Addr} {m : Str} {sp : Sp} {ta : TE} {t : TA} (h : ta σ H fun x H1 => ∃ a dx fs, x = .ref a ∧ H1 a = some (.ins C dx fs) ∧ fs.lookup m = none ∧ t σ H1 fun vs H2 => sp (x :: vs) H2 Q E0) : tMethH C m sp ta t σ H Q := h
end
/-! ### promises there: a store asked what is at its top -/
def spCheckedH (K : PySem.W.Frag) : Sp := fun vs H Q _ => ∃ l : Addr, vs = [.ref l] ∧ SqL K H l [] ∧ NewL H Q []
def spBoxesOnH (K : PySem.W.Frag) : Sp := fun vs H Q _ => ∃ (p l : Addr) (z : Int), vs = [.ref p, .int z, .ref l] ∧ SqL K H l [] ∧ NewL H Q [V.int z]
def spTopH (K : PySem.W.Frag) (CS CP : Addr) : Sp := fun vs H Q _ => ∃ (B : SA) (X : TS), vs = [.ref B.p, .non] ∧ StAt K CS CP H B X ∧ Q (.int X.top) H
def spBoxAtH (K : PySem.W.Frag) (CS CP : Addr) : Sp := fun vs H Q _ => ∃ (B : SA) (X : TS) (l : Addr), vs = [.ref B.p, .non, .ref l] ∧ StAt K CS CP H B X ∧ SqL K H l [] ∧ ∀ H', Gr H H' → Q (.int X.top) H'
def spKindH (K : PySem.W.Frag) (CS CP : Addr) : Sp := fun vs H Q _ => ∃ (B : SA) (X : TS) (l : Addr), vs = [.ref B.p, .non, .ref l] ∧ StAt K CS CP H B X ∧ SqL K H l [] ∧ ∀ v H', Gr H H' → Q v H'
end My
namespace My
open PySem PySem.Spec PyProof.Rows L2
theorem roomH_mark {k : Nat} {A : Around} (r : Room k A) (h : Option Value) : L2H.RoomH k (A.mark h) := ⟨r.dp, r.un⟩
theorem huH_of {A : Around} {k : Nat} (hr : L2H.RoomH k A) : A.units + 1 < cLine := by have := hr.un; omega
end My
/-! ### sorted of rows -/
namespace L2
open PySem PySem.Spec PyProof.Rows PyProof.Rows.G
def shSI : Nat → Bool := fun i => decide (i = 0)
def rowK (r : Str × Int) : List (Int ⊕ List Nat) := [.inr r.1.cps.toList, .inl r.2]
def KeyAt (h : Heap) (v : Value) (r : Str × Int) : Prop := ∃ a o n t1 t2, v = .ref a ∧ h.get? a = some o ∧ o.cls = .type "tuple" ∧ o.data = .seq #[.str r.1 t1, .int r.2 t2] n
theorem KeyAt.key {h : Heap} {v : Value} {r : Str × Int} (k : KeyAt h v r) : tupKeyC h shSI v = some (rowK r) := by
  obtain ⟨a, o, n, t1, t2, rfl, ho, hc, hd⟩ := k
  have h1 : isTupObj h (.ref a) = true := by
    simp only [isTupObj, ho, hc]
    decide
  unfold tupKeyC
  rw [if_pos h1]
  simp only [tupKey, ho, hd]
  rfl
theorem KeyAt.tup {h : Heap} {v : Value} {r : Str × Int} (k : KeyAt h v r) : ∃ f, TupOf h shSI v f := by
  obtain ⟨a, o, n, t1, t2, rfl, ho, hc, hd⟩ := k
  exact ⟨_, a, o, _, n, rfl, ho, hc, hd, rfl, (fun q => absurd (show true = false from q) (by decide)), fun _ => ⟨_, _, rfl⟩⟩
theorem KeyAt.inj {h : Heap} {v : Value} {r r' : Str × Int} (k : KeyAt h v r) (k' : KeyAt h v r') : r = r' := by
  obtain ⟨a, o, n, t1, t2, rfl, ho, hc, hd⟩ := k
  obtain ⟨a', o', n', t1', t2', e, ho', hc', hd'⟩ := k'
  cases e
  rw [ho] at ho'
  cases ho'
  rw [hd] at hd'
  injection hd' with d1 _
  have d2 := congrArg Array.toList d1
  simp only [List.cons.injEq, Value.str.injEq, Value.int.injEq] at d2
  exact Prod.ext d2.1.1 d2.2.1.1
theorem tups_of {h : Heap} : ∀ {its : List Value}, (∀ v ∈ its, ∃ r, KeyAt h v r) → ∃ fs, TupsOf h shSI its fs
  | [], _ => ⟨[], .nil⟩
  | v :: its, hv => by
    obtain ⟨r, k⟩ := hv v List.mem_cons_self
    obtain ⟨f, tf⟩ := k.tup
    obtain ⟨fs, t⟩ := tups_of fun u hu => hv u (List.mem_cons_of_mem _ hu)
    exact ⟨f :: fs, .cons tf t⟩
theorem row_lt {r r' : Str × Int} (h : (listOrd itemOrd).kle (rowK r) (rowK r')) : decide (r'.1.cps.toList < r.1.cps.toList) = false := by
  have h : lexLt itemOrd (rowK r') (rowK r) = false := h
  have := (lex_false.mp h).1
  exact this
open Classical in
noncomputable def keyR (h : Heap) (v : Value) : Str × Int := if q : ∃ r, KeyAt h v r then q.choose else (Str.empty, 0)
theorem keyR_at {h : Heap} {v : Value} {r : Str × Int} (k : KeyAt h v r) : keyR h v = r := by
  have q : ∃ r, KeyAt h v r := ⟨r, k⟩
  unfold keyR
  rw [dif_pos q]
  exact q.choose_spec.inj k
theorem sorted_rows {prog : Program} {w : World} {A : Around} {E : Value → Shared → Prop} {s : Shared} {l : Addr} {vs : List Value} {Q : Value → Shared → Prop} (hl : s.heap.IsList l vs.toArray) (hz : vs.length ≤ sizeLine) (hp : ∀ v ∈ vs, ∃ r, KeyAt s.heap v r)
    (h : ∀ (h' : Heap) (d : Addr) (out : List Value), out.Perm vs → out.Pairwise (fun v u => decide ((keyR s.heap u).1.cps.toList < (keyR s.heap v).1.cps.toList) = false) → (∀ b o, s.heap.get? b = some o → h'.get? b = some o) → s.heap.objs.size ≤ d → (∃ n, h'.get? d = some (seqObj "list" out.toArray n)) → Q (.ref d) { s with heap := h' }) :
    wpAny (model prog w) A (call (.builtin "sorted") [.ref l]) Q E s := by
  obtain ⟨fs, ht⟩ := tups_of hp
  refine sorted_tups hl ht (fun v hv => ?_) hz fun st' a1 a2 a3 => ?_
  · obtain ⟨r, k⟩ := hp v hv
    exact ⟨_, k.key⟩
  have hmem : ∀ p ∈ (arrOf st').toList, p.1 = p.2 ∧ p.1 ∈ vs := fun p hp' => by
    have := (Array.perm_iff_toList_perm.mp a1).mem_iff.mp hp'
    rw [pairsOf_toList] at this
    exact mem_zip_self this
  have e2 : ((arrOf st').map (·.2)).toList.Perm vs := by
    rw [Array.toList_map]
    have := (Array.perm_iff_toList_perm.mp a1).map (·.2)
    rw [pairsOf_toList] at this
    have e : (vs.zip vs).map (·.2) = vs := by
      have := List.map_snd_zip (l₁ := vs) (l₂ := vs) (Nat.le_refl _)
      simpa using this
    rw [e] at this
    exact this
  refine h _ _ ((arrOf st').map (·.2)).toList e2 ?_ (fun b o e => sortedAll_old e) (Nat.le_succ _) ?_
  · rw [List.pairwise_iff_getElem]
    intro i j hi hj hij
    have hsz : (pairsOf vs).size = (arrOf st').size := a1.size_eq.symm
    have hi' : i < (arrOf st').size := by simpa using hi
    have hj' : j < (arrOf st').size := by simpa using hj
    have hk := a2 i j (Nat.le_of_lt hij) (by rw [hsz]; exact hj')
    have kk : ∀ (i : Nat) (hi : i < (arrOf st').size), KK (tupKindC s.heap shSI) (arrOf st') i = rowK (keyR s.heap (arrOf st')[i].2) := fun i hi => by
      obtain ⟨m1, m2⟩ := hmem (arrOf st')[i] (by simp)
      obtain ⟨r, k⟩ := hp _ m2
      unfold KK
      rw [getElem?_pos (arrOf st') i hi]
      dsimp only
      rw [k.key, ← m1, keyR_at k]
      rfl
    rw [kk i hi', kk j hj'] at hk
    have := row_lt hk
    simpa using this
  · obtain ⟨n, hn⟩ := sortedAll_at s.heap vs ((arrOf st').map (·.2))
    exact ⟨n, by rw [Array.toArray_toList]; exact hn⟩
def rSortedRows (K : PySem.W.Frag) : List V → Hp → VK → Prop := fun vs H Q => ∃ (a : Addr) (us : List V) (rs : My.Rw), vs = [V.ref a] ∧ SqL K H a us ∧ My.Prs K H us rs ∧
  ∀ (ys : List V) (rs' : My.Rw) (p : Addr), My.Prs K H ys rs' → rs'.Perm rs → rs'.Pairwise (fun a b => decide (b.1.cps.toList < a.1.cps.toList) = false) → H p = none → Q (.ref p) (upd H p (.lst ys))
theorem keyAt_of {X : Cx} {pins : List (Addr × Obj)} {σ : St} {H : Hp} {s : Shared} (I : Inv X pins σ H s) {p : Addr} {n : Str} {b : Int} (h : SqT X.K H p [.str n, .int b]) : KeyAt s.heap (.ref p) (n, b) := by
  obtain ⟨its, r, ⟨o, ho, hc, m, hd⟩, _⟩ := I.tuple h
  obtain ⟨u1, u2, rfl, ri, rj⟩ := vals2 r
  obtain ⟨t1, rfl⟩ := ri
  obtain ⟨t2, rfl⟩ := rj
  exact ⟨p, o, m, t1, t2, rfl, ho, hc, hd⟩
theorem prs_keys {X : Cx} {pins : List (Addr × Obj)} {σ : St} {H : Hp} {s : Shared} (I : Inv X pins σ H s) : ∀ {us : List V} {rs : My.Rw} {its : List Value}, My.Prs X.K H us rs → Vals us its → rs = its.map (keyR s.heap) ∧ (∀ v ∈ its, ∃ r, KeyAt s.heap v r ∧ ∃ a, v = .ref a ∧ SqT X.K H a [.str r.1, .int r.2])
  | _, _, _, .nil, .nil => ⟨rfl, fun v hv => absurd hv List.not_mem_nil⟩
  | _, _, _, .cons (p := p) (n := n) (b := b) t ps, .cons (b := u) ru rv => by
    obtain rfl : u = Value.ref p := ru
    obtain ⟨e, hv⟩ := prs_keys I ps rv
    have k := keyAt_of I t
    refine ⟨by rw [List.map_cons, keyR_at k, ← e], fun v hm => ?_⟩
    rcases List.mem_cons.mp hm with rfl | hm
    · exact ⟨_, k, p, rfl, t⟩
    · exact hv v hm
theorem prs_back {X : Cx} {H : Hp} {s : Shared} : ∀ {out : List Value}, (∀ v ∈ out, ∃ r, KeyAt s.heap v r ∧ ∃ a, v = .ref a ∧ SqT X.K H a [.str r.1, .int r.2]) → My.Prs X.K H (out.map backV) (out.map (keyR s.heap))
  | [], _ => .nil
  | v :: out, h => by
    obtain ⟨r, k, a, rfl, t⟩ := h v List.mem_cons_self
    rw [List.map_cons, List.map_cons, keyR_at k]
    exact .cons t (prs_back fun u hu => h u (List.mem_cons_of_mem _ hu))
section
variable {X : Cx}
theorem cr_sortedRows : CallR X (.builtin "sorted") (rSortedRows X.K) := by
  intro pins s σ H vs us Q I r h
  obtain ⟨a, xs, rs, rfl, hs, hp, q⟩ := h
  obtain ⟨its, rv, hl, hz⟩ := I.list hs
  obtain ⟨u, rfl, ru⟩ := vals1 r
  obtain rfl : u = Value.ref a := ru
  obtain ⟨er, hk⟩ := prs_keys I hp rv
  refine sorted_rows hl.isList (by rw [← rv.length]; exact hz) (fun v hv => (hk v hv).imp fun _ z => z.1) fun h' d out h1 h2 kp hd hn => ?_
  have hk2 : ∀ v ∈ out, ∃ r, KeyAt s.heap v r ∧ ∃ a, v = .ref a ∧ SqT X.K H a [.str r.1, .int r.2] := fun v hv => hk v (h1.mem_iff.mp hv)
  have h3 : ∀ u ∈ out, ∃ a, u = Value.ref a := fun u hu => by
    obtain ⟨_, _, a, e, _⟩ := hk2 u hu
    exact ⟨a, e⟩
  obtain ⟨n, hn⟩ := hn
  refine ⟨.ref d, upd H d (.lst (out.map backV)), I.laid (t' := s.toks) kp hd ⟨?_, out, n, vals_back h3, hn⟩, rfl, q _ (out.map (keyR s.heap)) d (prs_back hk2) ?_ ?_ (I.hok.fresh hd)⟩
  · rw [List.length_map, h1.length_eq, ← rv.length]
    exact hz
  · rw [er]
    exact h1.map _
  · exact List.pairwise_map.mpr h2
end
end L2
/-! ### == of two dicts that are alike -/
namespace L2
open PySem PySem.Spec PyProof.Rows
section
variable {X : Cx}
theorem hits_dp {pins : List (Addr × Obj)} {σ : St} {H : Hp} {s : Shared} (I : Inv X pins σ H s) {A : Around} (hu : A.units + 70 < cLine) {kvs : List (Key × V)} {vb : List (Key × Value)} (rb : KV kvs vb) {ks : List (Key × V)} {va : List (Key × Value)} (ra : KV ks va) :
    (∀ p ∈ ks, ∃ y d, valV kvs p.1 = some y ∧ Dp X.K H p.2 d ∧ Dp X.K H y d ∧ SeqAt.shaped d = true) → PySem.W.KeqHits A s vb va true := by
  unfold KV at ra
  induction ra with
  | nil => intro _; exact .nil
  | @cons p q ps qs h t ih =>
    intro hp
    obtain ⟨h1, h2⟩ := h
    obtain ⟨y0, d, e, d1, d2, sd⟩ := hp p List.mem_cons_self
    have rr : RelO (some y0) (valueAt vb p.1) := by rw [← e]; exact rb.val p.1
    obtain ⟨y, hy, ry⟩ := rr.some_of
    obtain ⟨k, v⟩ := q
    have h1' : p.1 = k := h1
    rw [h1'] at hy
    obtain ⟨as, r1⟩ := Dp.reads I d p.2 v d1 h2
    obtain ⟨bs, r2⟩ := Dp.reads I d y0 y d2 ry
    have cl := SeqAt.canLay_of_shaped sd
    have rm := SeqAt.room_of_shaped (A := A) (db := d) sd (by omega)
    have hit := SeqAt.eqAt_reads d d A s v y as bs r1 r2 cl cl (by omega)
    rw [SeqAt.eqv_refl d cl] at hit
    show PySem.W.KeqHits A s vb ((k, v) :: qs) (true && true)
    exact .hit hy hit (ih fun p' hm => hp p' (List.mem_cons_of_mem _ hm))
def rEqDct (K : PySem.W.Frag) : R2 := fun x y H Q => ∃ a b ka kb, x = .ref a ∧ y = .ref b ∧ H a = some (.dK ka) ∧ H b = some (.dK kb) ∧ ka.length = kb.length ∧ (∀ p ∈ ka, ∃ y d, valV kb p.1 = some y ∧ Dp K H p.2 d ∧ Dp K H y d ∧ SeqAt.shaped d = true) ∧ Q (.bl true) H
theorem op_eqDct (hu : X.A.units + 80 < cLine) : OpR X (compareOp .Eq) (rEqDct X.K) := by
  intro pins s σ H x y v u Q I rx ry h
  obtain ⟨a, b, ka, kb, rfl, rfl, ea, eb, hl, hp, q⟩ := h
  obtain rfl : v = Value.ref a := rx
  obtain rfl : u = Value.ref b := ry
  obtain ⟨_, ya, va, ra, da⟩ := (show ObjOk X.prog X.w H s.heap a (.dK ka) from I.hok a _ ea)
  obtain ⟨_, yb, vb, rb, db⟩ := (show ObjOk X.prog X.w H s.heap b (.dK kb) from I.hok b _ eb)
  have hl : va.length = vb.length := (ra.length.symm.trans hl).trans rb.length
  exact PySem.W.keq_eq (knd := mixKind X.prog X.w) (r := true) ya yb da db (by omega) (fun _ => hits_dp I (by first | omega | (show X.A.units + _ + 70 < cLine; omega)) rb ra hp) (fin_bl I q (by simp [hl]))
end
end L2
namespace My
open PySem PySem.Spec PyProof.Rows L2
theorem oEqDct {X : Cx} {K : PySem.W.Frag} (h : X.K = K) (hu : X.A.units + 80 < cLine) : OpR X (compareOp .Eq) (rEqDct K) := h ▸ op_eqDct hu
theorem cSortedRows {X : Cx} {K : PySem.W.Frag} (h : X.K = K) : CallR X (.builtin "sorted") (rSortedRows K) := h ▸ cr_sortedRows
end My
/-! ### {**a, **b}: two plain dicts merged into a new one -/
namespace PySem
open Sem (wp)
section
variable {prog : Program} {w : World} {K : Type} [DecidableEq K] {knd : KeyKind prog w K} {A : Around} {E : Value → Shared → Prop} {s : Shared}
theorem wpAny_dictPut_pairs {d : Addr} {kvs : List (K × Value)} {k : K} {key v : Value} {Q : Unit → Shared → Prop} (hkey : knd.is k key = true) (hm : s.heap.DictOf knd d kvs)
    (hQ : ∀ h', h'.DictOf knd d (stored kvs k v) → Heap.SameBut d s.heap h' → Q () { s with heap := h' })
    (hsz : kvs.length ≤ sizeLine := by size_fits) :
    wpAny (model prog w) A (dictPut d (knd.hash k) key v) Q E s := by
  obtain ⟨o, es, ep, ho, hc, hd, hk, hp, hn⟩ := hm
  have hes : es.size ≤ sizeLine := by have e1 := hp.length; have e2 : es.toList.length = es.size := by simp
                                      omega
  unfold dictPut
  refine wpAny_bind (wpAny_dictFind_of hkey ho hd hk ?_)
  have hidx : (es.findIdx? fun e => knd.is k e.key) = kvs.findIdx? fun kv => decide (kv.1 = k) := by
    rw [← hp.findIdx k]; obtain ⟨l⟩ := es; simp
  cases hi : es.findIdx? fun e => knd.is k e.key with
  | some i =>
    refine wpAny_updateDict ho hd (hQ _ ⟨_, _, ep, Heap.get?_update_self _ ho (Obj.isFreed_of_dict (Obj.data_mapDict hd _)),
      hc.mapDict _, Obj.data_mapDict hd _, hk.modify _ _, ?_, ?_⟩ (Heap.SameBut.update ..))
    · rw [stored, if_pos (any_of_findIdx_some (hidx ▸ hi))]
      have hl : (es.toList.findIdx? fun e => knd.is k e.key) = some i := by rw [← hi]; obtain ⟨l⟩ := es; simp
      have := hp.modify hn hl v
      obtain ⟨l⟩ := es
      simpa using this
    · rw [stored, if_pos (any_of_findIdx_some (hidx ▸ hi)), keys_map_store]; exact hn
  | none =>
    have hnot : k ∉ kvs.map (·.1) := not_mem_of_findIdx_none (hidx ▸ hi)
    have hany : ¬ (kvs.any fun kv => decide (kv.1 = k)) = true := by
      rw [List.any_eq_true]; rintro ⟨kv, hkv, he⟩
      exact hnot (List.mem_map.mpr ⟨kv, hkv, of_decide_eq_true he⟩)
    refine wpAny_updateDictKeys (hz := hes) ho hd (hQ _ ⟨_, _, ep + 1, Heap.get?_update_self _ ho (Obj.isFreed_of_dict (Obj.data_mapDictKeys hd _)),
      hc.mapDictKeys _, Obj.data_mapDictKeys hd _, hk.push hkey _, ?_, ?_⟩ (Heap.SameBut.update ..))
    · rw [stored, if_neg hany]
      have := hp.append hkey (knd.hash k) v
      obtain ⟨l⟩ := es
      simpa using this
    · rw [stored, if_neg hany, List.map_append, List.nodup_append]
      refine ⟨hn, by simp, ?_⟩
      intro a ha b hb
      simp only [List.map_cons, List.map_nil, List.mem_singleton] at hb
      subst hb
      exact fun e => hnot (e ▸ ha)
theorem wpAny_mergeMapping {d o : Addr} {kvs more : List (K × Value)} {Q : Unit → Shared → Prop} (hdo : d ≠ o) (hoS : (o == sysModules) = false)
    (hd : s.heap.DictOf knd d kvs) (ho : s.heap.DictOf knd o more)
    (hQ : ∀ h', h'.DictOf knd d (merged kvs more) → h'.DictOf knd o more → Heap.SameBut d s.heap h' → Q () { s with heap := h' })
    (hsz : kvs.length + more.length ≤ sizeLine := by size_fits) :
    wpAny (model prog w) A (mergeMapping d (.ref o) false) Q E s := by
  obtain ⟨od, esd, epd, hod, hcd, hdd, hkd, hpd, hnd⟩ := id hd
  obtain ⟨oo, eso, epo, hoo, hco, hdo', hko, hpo, hno⟩ := id ho
  have hlen : more.length = eso.size := by rw [← hpo.length]; simp
  unfold mergeMapping
  have hnoref : ∀ e ∈ eso.toList, ∀ a, e.key ≠ .ref a := fun e he a q => by
    obtain ⟨k, hkey, _⟩ := hko e (Array.mem_toList_iff.mp he)
    have := knd.byValue k _ hkey
    rw [q] at this
    cases this
  refine wpAny_bind (wpAny_isInstance ho.typeIs isSubtype_dict_dict ?_)
  dsimp only
  rw [if_pos rfl]
  refine wpAny_bind (wpAny_specialOf ho.typeIs F.slot_dict_iter.lookup ?_)
  refine wpAny_bind (wpAny_pure ?_)
  simp only [beq_self_eq_true]
  rw [if_neg (by rw [hoS]; exact Bool.false_ne_true)]
  have loop : wpAny (model prog w) A (do
      let l ← dictEntries o
      let epoch ← dictEpoch o
      forIn (List.range l.size) PUnit.unit fun i (_ : PUnit) => (do
          let l' ← dictEntries o
          match l'[i]? with
            | some e => do
              holding [e.key, e.val] (if false = true then do
                  let q ← dictFind d e.key e.hash
                  if q.isSome = true then do
                      rule "dict.merge.duplicate-key"
                      let x ← newExc (Value.type "KeyError") [e.key]
                      raiseNew x
                      dictPut d e.hash e.key e.val
                    else dictPut d e.hash e.key e.val
                else dictPut d e.hash e.key e.val)
              let ep' ← dictEpoch o
              if (ep' != epoch) = true then do
                  unsupported "dict.changed-during-merge"
                  pure (ForInStep.yield PUnit.unit)
                else pure (ForInStep.yield PUnit.unit)
            | _ => do
              unsupported "dict.changed-during-merge"
              pure (ForInStep.yield PUnit.unit) : Sem (ForInStep PUnit))
      pure ()) Q E s := by
    refine wpAny_bind (wpAny_dictEntries hoo hdo' ?_)
    refine wpAny_bind (wpAny_dictEpoch hoo hdo' ?_)
    refine wpAny_bind ?_
    refine wpAny_forIn_list _
      (fun rest _ s' => ∃ h' i, s' = { s with heap := h' } ∧ rest = (List.range eso.size).drop i ∧ i ≤ eso.size ∧ h'.DictOf knd d (merged kvs (more.take i)) ∧ h'.get? o = some oo ∧ Heap.SameBut d s.heap h')
      _ ?_ ?_ _ _ ⟨s.heap, 0, rfl, by simp, Nat.zero_le _, by simpa [merged] using hd, hoo, Heap.SameBut.refl _ _⟩
    · rintro x rest b s' ⟨h', i, rfl, hr, hi, hd', hoo', hs'⟩
      have hlt : i < eso.size := by
        rcases Nat.lt_or_ge i eso.size with h | h
        · exact h
        · rw [List.drop_eq_nil_of_le (by rw [List.length_range]; exact h)] at hr; cases hr
      obtain ⟨rfl, hrest⟩ : x = i ∧ rest = (List.range eso.size).drop (i + 1) := by
        rw [List.drop_eq_getElem_cons (by rw [List.length_range]; exact hlt), List.getElem_range] at hr
        injection hr with h1 h2
        exact ⟨h1, h2⟩
      refine wpAny_bind (wpAny_dictEntries hoo' hdo' ?_)
      rw [Array.getElem?_eq_getElem hlt]
      obtain ⟨kv, hkv⟩ : ∃ kv, more[x]? = some kv := ⟨more[x]'(by rw [hlen]; exact hlt), List.getElem?_eq_getElem _⟩
      obtain ⟨k, v⟩ := kv
      obtain ⟨hkey, hval⟩ := hpo.get? (e := eso[x]) (by simp [hlt]) hkv
      obtain ⟨k', hkey', hhash⟩ := hko eso[x] (Array.getElem_mem hlt)
      obtain rfl : k' = k := knd.inj _ _ _ hkey' hkey
      show wpAny _ _ (holding [eso[x].key, eso[x].val] (if false = true then _ else dictPut d eso[x].hash eso[x].key eso[x].val) >>= _) _ _ _
      rw [if_neg Bool.false_ne_true, hhash, hval]
      have hmx : (merged kvs (more.take x)).length ≤ sizeLine := by
        have e1 := merged_length_le kvs (more.take x)
        have e2 : (more.take x).length ≤ more.length := by rw [List.length_take]; omega
        omega
      refine wpAny_bind (wpAny_holding (wpAny_dictPut_pairs (hsz := hmx) hkey hd' fun h'' hd'' hs'' => ?_))
      have hoo'' : h''.get? o = some oo := (hs''.2 o (Ne.symm hdo)).trans hoo'
      refine wpAny_bind (wpAny_dictEpoch hoo'' hdo' ?_)
      rw [if_neg (by simp)]
      exact wpAny_pure ⟨h'', x + 1, rfl, hrest, hlt, by rw [merged_take_succ kvs more x (k', v) hkv]; exact hd'', hoo'', hs'.trans hs''⟩
    · rintro b s' ⟨h', i, rfl, hr, hi, hd', hoo', hs'⟩
      have hin : i = eso.size := by
        rcases Nat.lt_or_ge i eso.size with h | h
        · rw [List.drop_eq_getElem_cons (by rw [List.length_range]; exact h)] at hr; cases hr
        · exact Nat.le_antisymm hi h
      refine wpAny_pure (hQ h' ?_ ⟨oo, eso, epo, hoo', hco, hdo', hko, hpo, hno⟩ hs')
      rw [hin, ← hlen, List.take_length] at hd'; exact hd'
  refine wpAny_bind (wpAny_dictEntries hod hdd ?_)
  split
  · refine wpAny_bind (wpAny_dictEntries hoo hdo' ?_)
    refine wpAny_bind ?_
    rw [← Array.forIn_toList]
    refine wpAny_of_eq (a := PUnit.unit) (forIn_yield_id _ fun e he c => ?_) loop
    have := hnoref e he
    cases hk : e.key <;> first | rfl | exact absurd hk (this _)
  · exact loop
end
end PySem
namespace L2
open PySem PySem.Spec PyProof.Rows
/-- {**a, **b}, a and b dicts with keys ints and texts -/
def tDMerge (ta tb : TE) : TE := fun σ H Q => ∀ p, H p = none → ta σ (upd H p (.dK [])) fun x H1 => ∃ (a : Addr) (ka : List (Key × V)), x = .ref a ∧ a ≠ p ∧ H1 a = some (.dK ka) ∧ H1 p = some (.dK []) ∧ ka.length ≤ 1000000 ∧
  tb σ (upd H1 p (.dK (mergeK [] ka))) fun y H2 => ∃ (b : Addr) (kb : List (Key × V)), y = .ref b ∧ b ≠ p ∧ H2 b = some (.dK kb) ∧ H2 p = some (.dK (mergeK [] ka)) ∧ kb.length ≤ 1000000 ∧ Q (.ref p) (upd H2 p (.dK (mergeK (mergeK [] ka) kb)))
theorem merge_in {X : Cx} {pins : List (Addr × Obj)} {σ : St} {H : Hp} {s : Shared} {p a : Addr} {kp ka : List (Key × V)} {Q : Unit → Shared → Prop} {E : Value → Shared → Prop} (I : Inv X pins σ H s) (ne : a ≠ p) (ep : H p = some (.dK kp)) (ea : H a = some (.dK ka)) (hz : kp.length + ka.length ≤ 4000000)
    (q : ∀ s', Inv X pins σ (upd H p (.dK (mergeK kp ka))) s' → Q () s') : wpAny (model X.prog X.w) X.A (mergeMapping p (.ref a) false) Q E s := by
  obtain ⟨z1, y1, v1, r1, d1⟩ := (show ObjOk X.prog X.w H s.heap p (.dK kp) from I.hok p _ ep)
  obtain ⟨z2, y2, v2, r2, d2⟩ := (show ObjOk X.prog X.w H s.heap a (.dK ka) from I.hok a _ ea)
  refine wpAny_mergeMapping (knd := mixKind X.prog X.w) (hsz := by rw [← r1.length, ← r2.length, sizeLine_eq]; omega) (Ne.symm ne) y2 d1 d2 fun h' dd' _ hs => q _ ?_
  have hz' : (mergeK kp ka).length ≤ sizeLine := by
    have h1 := length_mergeK ka kp
    rw [sizeLine_eq]; omega
  have he : ∃ q, h'.get? p = some q := let ⟨q, _, _, hq, _⟩ := dd'; ⟨q, hq⟩
  exact d_write I (by rw [ep]; exact True.intro) hs he (dk_new hz' y1 (r2.merge r1) dd')
theorem pe_dmerge {X : Cx} {pos : Pos} {a b : Expr} {ta tb : TE} (ha : PE X a ta) (hb : PE X b tb) : PE X (.Dict [none, none] [a, b] pos) (tDMerge ta tb) := by
  refine ⟨fun pins s σ H Q I q => ?_⟩
  have hn := I.hok.fresh (Nat.le_refl s.heap.objs.size)
  have I1 := I.laid (a := s.heap.objs.size) (o := .dK []) (h' := s.heap.push { cls := .type "dict", data := .dict #[] }) (t' := s.toks) (fun _ _ q => Heap.get?_push_of_some _ q) (Nat.le_refl _) (dk_empty s.heap I.big)
  show wpAny _ _ (do standAt pos; dictDisplay [(none, do let x ← eval a X.env; standAt pos; pure x), (none, do let x ← eval b X.env; standAt pos; pure x)]) _ _ _
  refine wpAny_bind (wpAny_standAt ?_)
  unfold dictDisplay
  simp only [List.forIn_cons, List.forIn_nil, List.isEmpty_nil, if_true]
  refine wpAny_bind (wpAny_bind (wpAny_bind (wpAny_pure ?_)))
  dsimp only
  refine wpAny_bind (wpAny_alloc ?_)
  refine wpAny_bind (wpAny_holding (wpAny_bind (thn (ha.run pins _ σ _ _ I1 (q _ hn)) fun u s1 ⟨x, H1, I2, rx, a', ka, ex, ne, ea, ep, hl, q1⟩ => wpAny_bind (wpAny_standAt (wpAny_pure ?_)))))
  subst ex
  obtain rfl : u = Value.ref a' := rx
  have mg : ∀ {Q' : Unit → Shared → Prop} {s1 : Shared} {d m : Value} {p a : Addr} {kp ka : List (Key × V)} {H1 : Hp}, d = .ref p → m = .ref a → Inv X pins σ H1 s1 → a ≠ p → H1 p = some (.dK kp) → H1 a = some (.dK ka) → kp.length + ka.length ≤ 4000000 → (∀ s', Inv X pins σ (upd H1 p (.dK (mergeK kp ka))) s' → Q' () s') →
      wpAny (model X.prog X.w) X.A ((((holding [d, m] (mergeMapping p m false)).onRaise fun x => do
                              let _ ← holding [d, m, x] (runValue (Code.builtin "proto.let_go" { }))
                              pure ()).tryCatch
                          fun e => do
                          let q ← isInstance e (Value.type "AttributeError")
                          if q = true then do
                              rule "dict.display.not-a-mapping"
                              let t ← typeNameOf m
                              raiseErrorMade "TypeError" (toString "'" ++ toString t ++ toString "' object is not a mapping")
                              throw e
                            else throw e).onRaise
                      fun x => do
                      let _ ← holding [d, x] (runValue (Code.builtin "proto.let_go" { }))
                      pure ()) Q' X.xe s1 := fun {Q' s1 d m p a kp ka H1} e1 e2 I ne ep ea hz q => by
    subst e1 e2
    exact wpAny_onRaise (wpAny_tryCatch (wpAny_onRaise (wpAny_holding (merge_in I ne ep ea hz q))))
  refine wpAny_bind (mg rfl rfl I2 ne ep ea (by simp; omega) fun s3 I3 => ?_)
  refine wpAny_pure ?_
  dsimp only
  simp only [List.isEmpty_nil, if_true]
  refine wpAny_bind (wpAny_bind (wpAny_pure ?_))
  dsimp only
  refine wpAny_bind (wpAny_pure ?_)
  refine wpAny_bind (wpAny_holding (wpAny_bind (thn (hb.run pins s3 σ _ _ I3 q1) fun u2 s4 ⟨y, H2, I4, ry, b', kb, ey, neb, eb, epb, hlb, q2⟩ => wpAny_bind (wpAny_standAt (wpAny_pure ?_)))))
  subst ey
  obtain rfl : u2 = Value.ref b' := ry
  have hm := length_mergeK ka []
  refine wpAny_bind (mg rfl rfl I4 neb epb eb (by rw [List.length_nil] at hm; omega) fun s5 I5 => ?_)
  refine wpAny_pure ?_
  dsimp only
  refine wpAny_pure ?_
  dsimp only
  simp only [List.isEmpty_nil, if_true]
  refine wpAny_bind (wpAny_pure ?_)
  dsimp only
  exact wpAny_pure ⟨.ref s.heap.objs.size, _, I5, rfl, q2⟩
end L2
/-! ### sets of tuples of texts and whole numbers, at most 76 of them -/
namespace XS
open PySem PySem.Spec PyProof.Rows L2
abbrev XK := List Key
abbrev hsX (P : Program) (w : World) (k : XK) : Int := tupleKeyHash (mixKind P w) k
abbrev IsX (P : Program) (w : World) (h : Heap) (k : XK) (a : Addr) : Prop := IsTupleKey (mixKind P w) h k a
abbrev Row := Addr × XK
/-- the hash of a row's key -/
def rh (P : Program) (w : World) (p : Row) : Int := hsX P w p.2
def PlainV (v : Value) : Prop := (∃ i t, v = Value.int i t) ∨ ∃ x t, v = Value.str x t
section
variable {P : Program} {w : World} {A : Around} {E : Value → Shared → Prop} {s : Shared}
theorem plain_items {k : XK} {us : List Value} (x : ItemsAre (mixKind P w) k us) : ∀ u ∈ us, PlainV u := by
  induction x with
  | nil => exact fun u m => absurd m List.not_mem_nil
  | cons e _ ih =>
    refine fun u m => (List.mem_cons.mp m).elim (fun z => ?_) (ih u)
    subst z
    rcases keyIs_shape e with ⟨i, t, _, z⟩ | ⟨y, t, _, z⟩
    · exact .inl ⟨i, t, z⟩
    · exact .inr ⟨y, t, z⟩
theorem noClass {v : Value} (p : PlainV v) (n : Nat) : ofAClassStatement n v = pure false := by
  rcases p with ⟨_, _, rfl⟩ | ⟨_, _, rfl⟩ <;> (cases n <;> rfl)
theorem byVal {v : Value} (p : PlainV v) (n : Nat) : ∃ b, hashByValue n v = pure b := by
  rcases p with ⟨_, _, rfl⟩ | ⟨_, _, rfl⟩
  · exact ⟨true, by cases n <;> rfl⟩
  · exact ⟨false, by cases n <;> rfl⟩
theorem cls_tup {k : XK} {b : Addr} {Q : Bool → Shared → Prop} (x : IsX P w s.heap k b) (q : Q false s) : wpAny (model P w) A (ofAClassStatement 8 (.ref b)) Q E s := by
  have ty := x.typeIs
  obtain ⟨o, its, n, ho, _, hd, hi⟩ := x
  unfold ofAClassStatement
  refine wpAny_bind (wpAny_typeOf ty ?_)
  dsimp only
  simp only [show (("tuple" : String) == "tuple") = true by decide, if_true, Bool.not_true, Bool.false_eq_true, if_false]
  try refine wpAny_bind (wpAny_pure ?_)
  try simp only [Bool.not_true, Bool.false_eq_true, if_false]
  show wpAny _ _ (seqItems? (.ref b) >>= _) _ _ s
  refine wpAny_bind (wpAny_seqItems ho hd ?_)
  dsimp only
  refine wpAny_bind ?_
  show wpAny _ _ (forIn its _ _) _ _ s
  rw [← Array.forIn_toList]
  refine wpAny_forIn_list _ (fun l r s' => (r.1 = none ∧ s' = s) ∧ ∀ u ∈ l, PlainV u) _ ?_ ?_ _ _ ⟨⟨rfl, rfl⟩, plain_items hi⟩
  · rintro u l r s' ⟨⟨_, rfl⟩, hl⟩
    rw [noClass (hl u List.mem_cons_self)]
    refine wpAny_bind (wpAny_pure ?_)
    simp only [Bool.false_eq_true, if_false]
    exact wpAny_pure ⟨⟨rfl, rfl⟩, fun v m => hl v (List.mem_cons_of_mem _ m)⟩
  · rintro ⟨r1, r2⟩ s' ⟨⟨e, rfl⟩, _⟩
    simp only at e
    subst e
    exact wpAny_pure q
theorem hbv_tup {k : XK} {b : Addr} {Q : Bool → Shared → Prop} (x : IsX P w s.heap k b) (q : ∀ v, Q v s) : wpAny (model P w) A (hashByValue 8 (.ref b)) Q E s := by
  have ty := x.typeIs
  obtain ⟨o, its, n, ho, _, hd, hi⟩ := x
  unfold hashByValue
  refine wpAny_bind (wpAny_specialOf ty F.slot_tuple_hash.lookup ?_)
  show wpAny _ _ (seqItems? (.ref b) >>= _) _ _ s
  refine wpAny_bind (wpAny_seqItems ho hd (wpAny_bind ?_))
  show wpAny _ _ (forIn its _ _) _ _ s
  rw [← Array.forIn_toList]
  refine wpAny_forIn_list _ (fun l r s' => (r.1 = none ∧ s' = s) ∧ ∀ u ∈ l, PlainV u) _ ?_ ?_ _ _ ⟨⟨rfl, rfl⟩, plain_items hi⟩
  · rintro u l r s' ⟨⟨_, rfl⟩, hl⟩
    obtain ⟨v, ev⟩ := byVal (hl u List.mem_cons_self) 7
    rw [ev]
    refine wpAny_bind (wpAny_pure ?_)
    cases v
    · simp only [Bool.not_false, if_true]
      exact wpAny_pure (wpAny_pure (q false))
    · simp only [Bool.not_true, Bool.false_eq_true, if_false]
      exact wpAny_pure ⟨⟨rfl, rfl⟩, fun v m => hl v (List.mem_cons_of_mem _ m)⟩
  · rintro ⟨r1, r2⟩ s' ⟨⟨e, rfl⟩, _⟩
    simp only at e
    subst e
    exact wpAny_pure (q true)
theorem hbv_if {α : Type} {k : XK} {b : Addr} {c : Bool} {f : Bool → Sem α} {Q : α → Shared → Prop} (x : IsX P w s.heap k b) (q : ∀ v, wpAny (model P w) A (f v) Q E s) : wpAny (model P w) A (if c = true then (hashByValue 8 (.ref b) >>= f) else (pure true >>= f)) Q E s := by
  cases c
  · rw [if_neg Bool.false_ne_true]
    exact wpAny_bind (wpAny_pure (q true))
  · rw [if_pos rfl]
    exact wpAny_bind (hbv_tup x q)
/-- a search among such tuples shows nothing of the table -/
theorem unseen {k : XK} {b : Addr} {Q : Bool → Shared → Prop} (x : IsX P w s.heap k b) {ys : List Value} (hy : ∀ y ∈ ys, ∃ k' c, y = Value.ref c ∧ IsX P w s.heap k' c) (q : Q false s) :
    wpAny (model P w) A (searchCouldBeSeen (.ref b) ys) Q E s := by
  unfold searchCouldBeSeen
  refine wpAny_bind ?_
  refine wpAny_forIn_list _ (fun l r s' => (r.1 = none ∧ s' = s) ∧ ∀ y ∈ l, ∃ k' c, y = Value.ref c ∧ IsX P w s.heap k' c) _ ?_ ?_ _ _ ⟨⟨rfl, rfl⟩, hy⟩
  · rintro v l r s' ⟨⟨_, rfl⟩, hl⟩
    obtain ⟨k', c, rfl, y⟩ := hl v List.mem_cons_self
    have more : ∀ y ∈ l, ∃ k' c, y = Value.ref c ∧ IsX P w s'.heap k' c := fun u m => hl u (List.mem_cons_of_mem _ m)
    dsimp only
    by_cases t : (b == c || (carriedByValue (.ref b) && carriedByValue (.ref c))) = true
    · exact wp_if_pos t (wpAny_pure ⟨⟨rfl, rfl⟩, more⟩)
    · refine wp_if_neg t (wpAny_bind (wpAny_eqIsQuiet_tuple x ?_))
      simp only [Bool.not_true, Bool.false_eq_true, if_false]
      refine wpAny_bind (wpAny_eqIsQuiet_tuple y ?_)
      simp only [Bool.not_true, Bool.false_eq_true, if_false]
      refine wpAny_bind (cls_tup x ?_)
      simp only [Bool.false_eq_true, if_false]
      refine wpAny_bind (cls_tup y ?_)
      simp only [Bool.false_eq_true, if_false]
      exact wpAny_pure ⟨⟨rfl, rfl⟩, more⟩
  · rintro ⟨r1, r2⟩ s' ⟨⟨e, rfl⟩, _⟩
    simp only at e
    subst e
    exact wpAny_pure q
/-! the table: its rows, one for each key -/
def ents (P : Program) (w : World) (L : List Row) : List (Int × Value) := L.map fun p => (rh P w p, Value.ref p.1)
structure Tb (P : Program) (w : World) (h : Heap) (a : Addr) (L : List Row) (es : Array (Int × Value)) (ep : Nat) (t : SetTable) : Prop where
  ob : ∃ o, h.get? a = some o ∧ o.ExactSet ∧ o.data = .set es ep t
  en : es.toList = ents P w L
  tab : TabOk t (L.map (rh P w))
  nd : (L.map (·.2)).Nodup
  tup : ∀ p ∈ L, IsX P w h p.2 p.1
  led : w.params.followText "set-order" = true ∨ t.led = true
  room : L.length * 5 < t.mask * 3
  few : L.length ≤ 76
theorem ents_len {L : List Row} {es : Array (Int × Value)} (e : es.toList = ents P w L) : es.size = L.length := by
  rw [← Array.length_toList, e, ents, List.length_map]
theorem ents_at {L : List Row} {es : Array (Int × Value)} (e : es.toList = ents P w L) {i : Nat} {p : Row} (q : L[i]? = some p) : es[i]? = some (rh P w p, Value.ref p.1) := by
  rw [← Array.getElem?_toList, e, ents, List.getElem?_map, q, Option.map_some]
variable {a : Addr} {L : List Row} {es : Array (Int × Value)} {ep : Nat} {t : SetTable}
theorem fits_by (dm : t.dummies = #[]) (e1 : t.place.size = es.size) (e2 : es.size ≤ t.mask) : t.fits es.size = true := by
  have z : t.place.size + t.dummies.size ≤ t.mask := by
    rw [dm]
    exact e1 ▸ e2
  unfold SetTable.fits SetTable.fill
  rw [Bool.and_eq_true, beq_iff_eq, decide_eq_true_eq]
  exact ⟨e1, z⟩
theorem Tb.fit (R : Tb P w s.heap a L es ep t) : t.fits es.size = true := by
  have z1 := R.tab.sz
  have z2 := ents_len R.en
  have z3 := R.room
  rw [List.length_map] at z1
  exact fits_by R.tab.dm (by omega) (by omega)
theorem Tb.whole (R : Tb P w s.heap a L es ep t) : ¬ t.gaveWay = true := by
  unfold SetTable.gaveWay
  rw [mask_odd R.tab.mok]
  decide
/-- the place that a key's way begins at, and its j-th step -/
abbrev beg (m : Nat) (g : Int) : SetTable.Probe := runAt m (SetTable.bits g % (m + 1)) (SetTable.bits g)
theorem no_dummy (m : Nat) : ∀ (n : Nat) (p : SetTable.Probe), p.dummy = none → (nth m p n).dummy = none
  | 0, _, e => e
  | n + 1, p, e => no_dummy m n (adv m p) (by unfold adv; split <;> exact e)
/-- the search, from the c-th step on; K is the first empty place -/
theorem seek (R : Tb P w s.heap a L es ep t) {x : Addr} {k : XK} (hx : IsX P w s.heap k x) (hu : A.units < cLine) {g : Int} (eg : g = hsX P w k) {K : Nat} (lim : K < 10 * SetTable.turns t.mask)
    (k1 : way t.mask g K ∉ t.place.toList) (k2 : ∀ c, c < K → way t.mask g c ∈ t.place.toList) {Q : SetFound → Shared → Prop}
    (yes : k ∈ L.map (·.2) → Q (.there none) s) (no : k ∉ L.map (·.2) → Q (.free (way t.mask g K) false) s) :
    ∀ (f c : Nat) (st : Option SetTable.Probe), st.getD (t.probeStart g) = nth t.mask (beg t.mask g) c → c ≤ K → K - c < f →
      (∀ (i : Nat) p, L[i]? = some p → p.2 = k → ∃ d, (c ≤ d ∧ d < K) ∧ t.place.toList[i]? = some (way t.mask g d)) →
      wpAny (model P w) A (setSearchFrom a (.ref x) g true f st) Q E s
  | 0, _, _, _, _, z, _ => absurd z (Nat.not_lt_zero _)
  | f + 1, c, st, e0, hc, hf, left => by
    obtain ⟨o, ho, ex, hd⟩ := R.ob
    rw [setSearchFrom_succ]
    refine wpAny_bind (wpAny_setState_of ho hd R.fit ?_)
    dsimp only
    refine wp_if_neg R.whole ?_
    try refine wpAny_bind (wpAny_pure ?_)
    have st2 : ∀ q, nth t.mask (nth t.mask (beg t.mask g) c) q = nth t.mask (beg t.mask g) (c + q) := fun q => (nth_add t.mask c _ q).symm
    have wj : ∀ q, (nth t.mask (nth t.mask (beg t.mask g) c) q).j = way t.mask g (c + q) := fun q => congrArg SetTable.Probe.j (st2 q)
    have kk : c + (K - c) = K := by omega
    have hh : ∀ (i : Nat) p, L[i]? = some p → (fun i => (es[i]?.map (·.1)).getD 0) i = rh P w p := fun i p e => by
      show (es[i]?.map (·.1)).getD 0 = _
      rw [ents_at R.en e] <;> rfl
    rcases go_spec t R.tab.ris R.tab.dm (fun i => (es[i]?.map (·.1)).getD 0) g (10 * SetTable.turns t.mask) (K - c) _ (no_dummy t.mask c _ rfl) (by omega) (fun q _ => by rw [wj]; exact k2 (c + q) (by omega)) (by rw [wj, kk]; exact k1) with ⟨q, i, hq, hi, _, before, pr⟩ | ⟨before, pr⟩
    · have pr2 : t.probe (fun i => (es[i]?.map (·.1)).getD 0) g (st.getD (t.probeStart g)) = some (.candidate (way t.mask g (c + q)) i (nth t.mask (beg t.mask g) (c + (q + 1)))) := by
        rw [e0, ← wj, ← st2] <;> exact pr
      rw [pr2]
      dsimp only
      rw [wj] at hi
      have il : i < L.length := by
        have z1 := (List.getElem?_eq_some_iff.mp hi).1
        have z2 := R.tab.sz
        rw [List.length_map] at z2
        rw [Array.length_toList, z2] at z1
        exact z1
      obtain ⟨p, hp⟩ : ∃ p, L[i]? = some p := ⟨_, List.getElem?_eq_getElem il⟩
      have pm : p ∈ L := List.mem_of_getElem? hp
      have sl : t.slot (way t.mask g (c + q)) = .live i := slot_live R.tab.ris hi
      have on : wpAny (model P w) A (searchRest a (.ref x) g true f es t (way t.mask g (c + q)) i (nth t.mask (beg t.mask g) (c + (q + 1)))) Q E s := by
        unfold searchRest
        rw [ents_at R.en hp]
        dsimp only
        refine wpAny_bind (wpAny_holding (wpAny_eqBool_tuple hu (R.tup p pm) hx (wpAny_bind (wpAny_setState_of ho hd R.fit ?_))))
        dsimp only
        by_cases same : p.2 = k
        · exact wp_if_pos (by simp [same]) (wpAny_pure (yes (List.mem_map.mpr ⟨p, pm, same⟩)))
        · refine wp_if_neg (by simp [same]) ?_
          try refine wpAny_bind (wpAny_pure ?_)
          rw [sameMem]
          dsimp only
          simp only [if_true, sl, ents_at R.en hp]
          refine wpAny_bind (wpAny_isSame_ref_self (wpAny_bind (wpAny_pure ?_)))
          simp only [if_true]
          refine wp_if_neg (by simp [same]) (seek R hx hu eg lim k1 k2 yes no f (c + (q + 1)) _ rfl (by omega) (by omega) fun i0 p0 u0 v0 => ?_)
          obtain ⟨d, ⟨d1, d2⟩, d3⟩ := left i0 p0 u0 v0
          refine ⟨d, ⟨Decidable.byContradiction fun lt => ?_, d2⟩, d3⟩
          have hg0 : rh P w p0 = g := by rw [eg, ← v0] <;> rfl
          by_cases de : d = c + q
          · subst de
            have s0 := slot_live R.tab.ris d3
            rw [sl] at s0
            injection s0 with s0
            rw [← s0, hp] at u0
            injection u0 with u0
            exact same (u0 ▸ v0)
          · exact before (d - c) i0 (by omega) (by rw [wj, show c + (d - c) = d by omega]; exact d3) ((hh i0 p0 u0).trans hg0)
      by_cases hl : t.led = true
      · refine wp_if_neg (by simp [hl]) ?_
        try refine wpAny_bind (wpAny_pure ?_)
        exact on
      · refine wp_if_pos (by simp [hl]) (wpAny_bind (unseen hx (fun y hy => ?_) ?_))
        · obtain ⟨e, he, ee⟩ := List.mem_map.mp hy
          have h1 : e ∈ es ∧ e.1 = g := by simpa using he
          have h2 : e ∈ es.toList := by simpa using h1.1
          rw [R.en] at h2
          obtain ⟨r, hr, er⟩ := List.mem_map.mp h2
          exact ⟨r.2, r.1, by rw [← ee, ← er], R.tup r hr⟩
        · refine wp_if_neg (by decide) ?_
          try refine wpAny_bind (wpAny_pure ?_)
          exact on
    · have pr2 : t.probe (fun i => (es[i]?.map (·.1)).getD 0) g (st.getD (t.probeStart g)) = some (.empty (way t.mask g K) none) := by
        have z : way t.mask g K = (nth t.mask (nth t.mask (beg t.mask g) c) (K - c)).j := by rw [wj, kk]
        rw [e0, z]
        exact pr
      rw [pr2]
      dsimp only
      refine wpAny_pure (no fun m => ?_)
      obtain ⟨p0, m0, v0⟩ := List.mem_map.mp m
      obtain ⟨i0, u0⟩ := List.mem_iff_getElem?.mp m0
      obtain ⟨d, ⟨d1, d2⟩, d3⟩ := left i0 p0 u0 v0
      refine before (d - c) i0 (by omega) (by rw [wj, show c + (d - c) = d by omega]; exact d3) ((hh i0 p0 u0).trans ?_)
      rw [eg, ← v0] <;> rfl
theorem turns_le (m : MaskOk t.mask) : 10 * SetTable.turns t.mask ≤ 1420 := by
  unfold SetTable.turns
  rcases m with e | e | e <;> omega
theorem seek_add (R : Tb P w s.heap a L es ep t) {x : Addr} {k : XK} (hx : IsX P w s.heap k x) (hu : A.units < cLine) {Q : SetFound → Shared → Prop} (yes : k ∈ L.map (·.2) → Q (.there none) s)
    (no : ∀ K, k ∉ L.map (·.2) → way t.mask (hsX P w k) K ∉ t.place.toList → (∀ c, c < K → way t.mask (hsX P w k) c ∈ t.place.toList) → Q (.free (way t.mask (hsX P w k) K) false) s) :
    wpAny (model P w) A (setSearch a (.ref x) (hsX P w k) true) Q E s := by
  have z := R.room
  obtain ⟨K, f1, f2, f3⟩ := R.tab.first (by rw [List.length_map]; omega) (hsX P w k)
  have tl := turns_le R.tab.mok
  unfold setSearch
  refine seek R hx hu rfl f1 f2 f3 yes (fun n => no K n f2 f3) 100000 0 none rfl (Nat.zero_le _) (by omega) fun i p hp e => ?_
  have hi : (L.map (rh P w))[i]? = some (hsX P w k) := by rw [List.getElem?_map, hp, ← e] <;> rfl
  have il : i < t.place.toList.length := by
    have z2 := R.tab.sz
    rw [List.length_map] at z2
    rw [Array.length_toList, z2]
    exact (List.getElem?_eq_some_iff.mp hp).1
  obtain ⟨c, h1, h2⟩ := R.tab.before f2 hi (List.getElem?_eq_getElem il)
  exact ⟨c, ⟨Nat.zero_le _, h1⟩, by rw [List.getElem?_eq_getElem il, h2]⟩
/-! laying anew, adding -/
theorem IsX.off {h h' : Heap} {k : XK} {a b : Addr} {o : Obj} {es : Array (Int × Value)} {ep : Nat} {t : SetTable} (x : IsX P w h k b) (ho : h.get? a = some o) (hd : o.data = .set es ep t) (sb : Heap.SameBut a h h') : IsX P w h' k b := by
  obtain ⟨o2, its, n, e, r⟩ := x
  refine ⟨o2, its, n, (sb.2 b fun z => ?_).trans e, r⟩
  rw [z, ho] at e
  cases e
  rw [hd] at r
  exact nomatch r.2.1
theorem IsX.kept {h h' : Heap} {k : XK} {b : Addr} (x : IsX P w h k b) (kp : ∀ c o, h.get? c = some o → h'.get? c = some o) : IsX P w h' k b := let ⟨o, its, n, e, r⟩ := x; ⟨o, its, n, kp b o e, r⟩
theorem ins_perm {α : Type} (l : List α) (p : Nat) (x : α) : (l.take p ++ x :: l.drop p).Perm (x :: l) := by
  refine List.perm_middle.trans ?_
  rw [List.take_append_drop]
/-- the rows in the table's new order -/
theorem reorder {order : Array Nat} (he : es.toList = ents P w L) (hp : order.toList.Perm (List.range L.length)) :
    ∃ L2, (order.filterMap (es[·]?)).toList = ents P w L2 ∧ L2.Perm L ∧ L2.map (rh P w) = order.toList.map fun i => (es.map (·.1)).getD i 0 := by
  have one : ∀ l : List Nat, (∀ i ∈ l, i < L.length) → l.filterMap (fun i => es[i]?) = ents P w (l.filterMap fun i => L[i]?) ∧ (l.filterMap fun i => L[i]?).map (rh P w) = l.map fun i => (es.map (·.1)).getD i 0 := fun l => by
    induction l with
    | nil => exact fun _ => ⟨rfl, rfl⟩
    | cons i l ih =>
      intro hl
      have hi := hl i List.mem_cons_self
      obtain ⟨z1, z2⟩ := ih fun j hj => hl j (List.mem_cons_of_mem _ hj)
      have ei := List.getElem?_eq_getElem hi
      have ee := ents_at he ei
      refine ⟨?_, ?_⟩
      · rw [List.filterMap_cons_some ee, List.filterMap_cons_some ei, z1] <;> rfl
      · rw [List.filterMap_cons_some ei, List.map_cons, List.map_cons, z2]
        congr 1
        have e5 : (es.map (·.1))[i]? = some (rh P w L[i]) := by rw [Array.getElem?_map, ee] <;> rfl
        simp [Array.getD_eq_getD_getElem?, e5]
  obtain ⟨z1, z2⟩ := one order.toList fun i hi => List.mem_range.mp (hp.mem_iff.mp hi)
  refine ⟨_, by first | (rw [Array.toList_filterMap]; exact z1) | simpa using z1, (hp.filterMap fun i => L[i]?).trans (.of_eq ?_), z2⟩
  have key : ∀ n, n ≤ L.length → (List.range n).filterMap (fun i => L[i]?) = L.take n := fun n => by
    induction n with
    | zero => exact fun _ => rfl
    | succ n ih =>
      intro hn
      have ei := List.getElem?_eq_getElem (l := L) hn
      rw [List.range_succ, List.filterMap_append, ih (Nat.le_of_lt hn), List.take_succ, ei, List.filterMap_cons_some ei] <;> rfl
  rw [key _ (Nat.le_refl _), List.take_length]
theorem relay {o : Obj} (ho : s.heap.get? a = some o) (ex : o.ExactSet) (hd : o.data = .set es ep t) (he : es.toList = ents P w L) (hz : t.place.size = es.size) (dm : t.dummies = #[]) (hm : es.size ≤ t.mask) (nd : (L.map (·.2)).Nodup) (tup : ∀ p ∈ L, IsX P w s.heap p.2 p.1)
    (ld : w.params.followText "set-order" = true ∨ t.led = true) (few : L.length ≤ 76) {want M : Nat} (hw : SetTable.sizeAbove want - 1 = M) (hM : MaskOk M) (h128 : SetTable.sizeAbove want ≤ 128) (room : L.length * 5 < M * 3) {Q : Unit → Shared → Prop}
    (q : ∀ h' L' es' ep' t', Heap.SameBut a s.heap h' → Tb P w h' a L' es' ep' t' → L'.Perm L → Q () { s with heap := h' }) : wpAny (model P w) A (setRelay a want) Q E s := by
  have sl := ents_len he
  obtain ⟨t', order, e, hp, T, em, el, _, _⟩ := relaid_ok t (hs := es.map (·.1)) (wanted := want) hw hM (by rw [Array.size_map, sl]; omega)
  rw [Array.size_map, sl] at hp
  obtain ⟨L2, r1, r2, r3⟩ := reorder he hp
  rw [← r3] at T
  have s2 : (order.filterMap (es[·]?)).size = es.size := by rw [ents_len r1, r2.length_eq, sl]
  rw [setRelay_eq]
  refine wpAny_bind (wpAny_setState_of ho hd (fits_by dm hz hm) ?_)
  dsimp only
  refine wp_if_neg (by rw [sizeLine_eq]; omega) ?_
  try refine wpAny_bind (wpAny_pure ?_)
  rw [e]
  dsimp only
  refine wpAny_bind (wp_if_neg (by rw [s2]; simp) ?_)
  try refine wpAny_bind (wpAny_pure ?_)
  refine wpAny_pure ?_
  dsimp only
  have sb : Heap.SameBut a s.heap (s.heap.update a (Obj.putSet (order.filterMap (es[·]?)) t')) := Heap.SameBut.update ..
  refine wpAny_storeSet_of ho hd (q _ L2 (order.filterMap (es[·]?)) (ep + 1) t' sb ⟨⟨_, store_at ho hd, ⟨ex.1, ex.2.1, ex.2.2⟩, rfl⟩, r1, T, (r2.map (·.2)).nodup_iff.mpr nd, fun p m => IsX.off (tup p (r2.mem_iff.mp m)) ho hd sb, by rw [el]; exact ld, by rw [r2.length_eq, em]; exact room, by rw [r2.length_eq]; exact few⟩ r2) (by rw [s2, sl, sizeLine_eq]; omega)
theorem Tb.add (R : Tb P w s.heap a L es ep t) {x : Addr} {k : XK} (hx : IsX P w s.heap k x) (hu : A.units < cLine) (few : k ∉ L.map (·.2) → L.length + 1 ≤ 76) {Q : Bool → Shared → Prop}
    (q : ∀ b h' L' es' ep' t', Heap.SameBut a s.heap h' → Tb P w h' a L' es' ep' t' → (k ∈ L.map (·.2) → L' = L) → (k ∉ L.map (·.2) → L'.Perm ((x, k) :: L)) → Q b { s with heap := h' }) :
    wpAny (model P w) A (setAddHashed a (.ref x) (hsX P w k)) Q E s := by
  obtain ⟨o, ho, ex, hd⟩ := R.ob
  have sl := ents_len R.en
  have room0 := R.room
  unfold setAddHashed
  rw [show (100000 : Nat) = 99999 + 1 from rfl]
  refine wpAny_holding ?_
  rw [setAddHashedIn_succ]
  refine wpAny_bind (wpAny_setState_of ho hd R.fit ?_)
  dsimp only
  refine wp_if_neg (by simp [byScan, Value.scannable]) ?_
  try refine wpAny_bind (wpAny_pure ?_)
  refine wpAny_bind (seek_add R hx hu (fun m => ?_) fun K m f2 f3 => ?_)
  · dsimp only
    exact wpAny_pure (q false s.heap L es ep t (Heap.SameBut.refl a s.heap) R (fun _ => rfl) fun z => absurd m z)
  · have few := few m
    dsimp only
    refine wpAny_bind (wpAny_setState_of ho hd R.fit ?_)
    dsimp only
    obtain ⟨q1, q2, q3, q4, q5, _, _, _, q9⟩ := R.tab.put f2 f3
    generalize t.put (way t.mask (hsX P w k) K) = pt at q1 q3 q4 q5 q9 ⊢
    obtain ⟨t1, p⟩ := pt
    dsimp only at q1 q3 q4 q5 q9 ⊢
    subst q1
    refine hbv_if hx fun v => ?_
    obtain ⟨t2, e2, q3, q4, q5, q9⟩ : ∃ t2 : SetTable, (if v = true then t1 else { t1 with plain := false }) = t2 ∧ TabOk t2 ((L.map (rh P w)).take (SetTable.below t.place (way t.mask (hsX P w k) K)) ++ hsX P w k :: (L.map (rh P w)).drop (SetTable.below t.place (way t.mask (hsX P w k) K))) ∧ t2.mask = t.mask ∧ t2.led = t.led ∧ t2.fill = (L.map (rh P w)).length + 1 := by
      cases v
      · exact ⟨_, if_neg Bool.false_ne_true, ⟨q3.ris, q3.dm, q3.sz, q3.mok, q3.bd, q3.reach⟩, q4, q5, q9⟩
      · exact ⟨_, if_pos rfl, q3, q4, q5, q9⟩
    rw [e2]
    clear e2
    generalize t2 = t1 at q3 q4 q5 q9 ⊢
    have ein : (SetTable.insertAt es (SetTable.below t.place (way t.mask (hsX P w k) K)) (hsX P w k, Value.ref x)).toList = ents P w (L.take (SetTable.below t.place (way t.mask (hsX P w k) K)) ++ (x, k) :: L.drop (SetTable.below t.place (way t.mask (hsX P w k) K))) := by
      rw [SetTable.toList_insertAt, R.en]
      unfold ents
      rw [List.map_append, List.map_cons, List.map_take, List.map_drop] <;> rfl
    have hhs : ∀ p, (L.take p ++ (x, k) :: L.drop p).map (rh P w) = (L.map (rh P w)).take p ++ hsX P w k :: (L.map (rh P w)).drop p := fun p => by
      rw [List.map_append, List.map_cons, List.map_take, List.map_drop] <;> rfl
    generalize SetTable.below t.place (way t.mask (hsX P w k) K) = p at q2 q3 ein ⊢
    have pm := ins_perm L p (x, k)
    rw [← hhs p] at q3
    generalize L.take p ++ (x, k) :: L.drop p = L1 at pm q3 ein
    have l1 : L1.length = L.length + 1 := pm.length_eq
    have nd1 : (L1.map (·.2)).Nodup := (pm.map (·.2)).nodup_iff.mpr (List.nodup_cons.mpr ⟨m, R.nd⟩)
    have es1l := (ents_len ein).trans l1
    generalize SetTable.insertAt es p (hsX P w k, Value.ref x) = es1 at ein es1l ⊢
    have sb : Heap.SameBut a s.heap (s.heap.update a (Obj.putSet es1 t1)) := Heap.SameBut.update ..
    have ho1 := store_at (es' := es1) (t' := t1) ho hd
    refine wpAny_bind (wpAny_storeSet_of ho hd ?_ (by rw [es1l, sizeLine_eq]; omega))
    generalize s.heap.update a (Obj.putSet es1 t1) = h1 at sb ho1 ⊢
    have tup1 : ∀ p ∈ L1, IsX P w h1 p.2 p.1 := fun p mp => (List.mem_cons.mp (pm.mem_iff.mp mp)).elim (fun e => by rw [e]; exact IsX.off hx ho hd sb) fun mp => IsX.off (R.tup p mp) ho hd sb
    have ld1 : w.params.followText "set-order" = true ∨ t1.led = true := by rw [q5]; exact R.led
    rw [List.length_map] at q9
    have full : t1.tooFull = true ↔ (L.length + 1) * 5 ≥ t1.mask * 3 := by
      unfold SetTable.tooFull
      rw [decide_eq_true_eq, q9]
    by_cases hf : t1.tooFull = true
    · first
        | (refine wpAny_bind ?_; refine wp_if_pos (by simp [hf]) ?_)
        | (refine wp_if_pos (by simp [hf]) ?_; refine wpAny_bind ?_)
      have big := full.mp hf
      rw [sl]
      have sz1 : t1.place.size = es1.size := by
        have z := q3.sz
        rw [List.length_map] at z
        rw [z, l1, es1l]
      have two : (t.mask = 7 ∧ L.length = 4) ∨ (t.mask = 31 ∧ L.length = 18) := by
        rw [q4] at big
        rcases R.tab.mok with e | e | e <;> rw [e] at big room0
        · exact .inl ⟨e, by omega⟩
        · exact .inr ⟨e, by omega⟩
        · omega
      have go : ∀ M, SetTable.sizeAbove (SetTable.grown (L.length + 1)) - 1 = M → MaskOk M → SetTable.sizeAbove (SetTable.grown (L.length + 1)) ≤ 128 → (L.length + 1) * 5 < M * 3 →
          wpAny (model P w) A (setRelay a (SetTable.grown (L.length + 1))) (fun _ s' => wpAny (model P w) A (pure true) Q E s') E { s with heap := h1 } := fun M g1 g2 g3 g4 =>
        relay (s := { s with heap := h1 }) ho1 ⟨ex.1, ex.2.1, ex.2.2⟩ rfl ein sz1 q3.dm (by rw [es1l, q4]; rcases two with ⟨_, _⟩ | ⟨_, _⟩ <;> omega) nd1 tup1 ld1 (by rw [l1]; exact few) g1 g2 g3 (by rw [l1]; exact g4) fun h2 L2 es2 ep2 t2 sb2 R2 pm2 =>
          wpAny_pure (q true h2 L2 es2 ep2 t2 (sb.trans sb2) R2 (fun z => absurd z m) fun _ => pm2.trans pm)
      rcases two with ⟨_, e2⟩ | ⟨_, e2⟩
      · exact go 31 (by rw [e2, size_20]) (.inr (.inl rfl)) (by rw [e2, size_20]; decide) (by omega)
      · exact go 127 (by rw [e2, size_76]) (.inr (.inr rfl)) (by rw [e2, size_76]; decide) (by omega)
    · first
        | refine wp_if_neg (by simp [hf]) ?_
        | (refine wpAny_bind ?_; refine wp_if_neg (by simp [hf]) ?_; refine wpAny_pure ?_)
      have small : ¬ (L.length + 1) * 5 ≥ t1.mask * 3 := fun z => hf (full.mpr z)
      exact wpAny_pure (q true h1 L1 es1 (ep + 1) t1 sb ⟨⟨_, ho1, ⟨ex.1, ex.2.1, ex.2.2⟩, rfl⟩, ein, q3, nd1, tup1, ld1, by rw [l1]; omega, by rw [l1]; exact few⟩ (fun z => absurd z m) fun _ => pm)
/-! set(xs) of a list of such tuples -/
/-- what the set has got from the first i items -/
structure Has (ks : List Row) (i : Nat) (L : List Row) : Prop where
  sub : ∀ p ∈ L, p ∈ ks.take i
  all : ∀ p ∈ ks.take i, p.2 ∈ L.map (·.2)
theorem snoc_take {α : Type} {l : List α} {i : Nat} {x : α} (e : l[i]? = some x) : l.take (i + 1) = l.take i ++ [x] := by
  rw [List.take_succ, e, Option.toList_some]
theorem Has.next {ks L L' : List Row} {i : Nat} {x : Row} (g : Has ks i L) (e : ks[i]? = some x) (c1 : x.2 ∈ L.map (·.2) → L' = L) (c2 : x.2 ∉ L.map (·.2) → L'.Perm (x :: L)) : Has ks (i + 1) L' := by
  by_cases m : x.2 ∈ L.map (·.2)
  · rw [c1 m]
    refine ⟨fun p hp => ?_, fun p hp => ?_⟩ <;> rw [snoc_take e] at *
    · exact List.mem_append_left _ (g.sub p hp)
    · exact (List.mem_append.mp hp).elim (g.all p) fun z => by rw [List.mem_singleton.mp z]; exact m
  · have pm := c2 m
    refine ⟨fun p hp => ?_, fun p hp => ?_⟩ <;> rw [snoc_take e] at *
    · refine (List.mem_cons.mp (pm.mem_iff.mp hp)).elim (fun z => ?_) fun z => List.mem_append_left _ (g.sub p z)
      rw [z]
      exact List.mem_append_right _ List.mem_cons_self
    · rw [(pm.map (·.2)).mem_iff]
      exact (List.mem_append.mp hp).elim (fun z => List.mem_cons_of_mem _ (g.all p z)) fun z => by rw [List.mem_singleton.mp z]; exact List.mem_cons_self
theorem Tb.kept {h h' : Heap} (R : Tb P w h a L es ep t) (ka : ∀ o, h.get? a = some o → h'.get? a = some o) (kt : ∀ p ∈ L, IsX P w h' p.2 p.1) : Tb P w h' a L es ep t := by
  obtain ⟨o, ho, r⟩ := R.ob
  exact ⟨⟨o, ka o ho, r⟩, R.en, R.tab, R.nd, kt, R.led, R.room, R.few⟩
def nset (w : World) : Obj := { cls := .type "set", dict := none, data := .set #[] 0 (.fresh 0 0 (!w.params.followText "set-order")) }
theorem Tb.new {h : Heap} (ho : h.get? a = some (nset w)) : Tb P w h a [] #[] 0 (.fresh 0 0 (!w.params.followText "set-order")) := by
  refine ⟨⟨_, ho, ⟨rfl, rfl, rfl⟩, rfl⟩, rfl, ⟨List.Pairwise.nil, rfl, rfl, .inl rfl, fun x m => (by cases m), fun i h j e => (by simp at e)⟩, List.nodup_nil, fun p m => (by cases m), ?_, (by show 0 * 5 < 7 * 3; decide), Nat.zero_le _⟩
  show _ ∨ (!w.params.followText "set-order") = true
  cases w.params.followText "set-order"
  · exact .inr rfl
  · exact .inl rfl
/-- no more keys than the table takes -/
def Few (ks : List Row) : Prop := ∃ D : List XK, D.length ≤ 76 ∧ ∀ p ∈ ks, p.2 ∈ D
theorem nd_len {α : Type} [DecidableEq α] : ∀ (l D : List α), l.Nodup → (∀ x ∈ l, x ∈ D) → l.length ≤ D.length
  | [], _, _, _ => Nat.zero_le _
  | x :: l, D, n, m => by
    have mx := m x List.mem_cons_self
    have z := nd_len l (D.erase x) (List.nodup_cons.mp n).2 fun y hy => (List.mem_erase_of_ne (fun e : y = x => (List.nodup_cons.mp n).1 (by rw [← e]; exact hy))).mpr (m y (List.mem_cons_of_mem _ hy))
    rw [List.length_erase_of_mem mx] at z
    have := List.length_pos_of_mem mx
    rw [List.length_cons]
    omega
theorem fill_loop {I : Addr} {fp wr : List Addr} {G : Array GenState → Array GenState → Prop} {n : Nat} {Pv : Nat → Value → Prop} {St : Nat → Shared → Prop} {R : Result → Shared → Prop} (W : WalksS P w A.in1 I fp wr G n Pv St) (S : Addr) (hS : S ∉ fp) (ks : List Row) (hn : n = ks.length) (few : Few ks)
    (hv : ∀ i v, Pv i v → ∃ p, ks[i]? = some p ∧ v = .ref p.1) (h0 : Heap) (hk : ∀ p ∈ ks, IsX P w h0 p.2 p.1) (hS0 : h0.get? S = none) (hw0 : ∀ b ∈ wr, h0.get? b = none) (hu : A.in1.units < cLine) :
    ∀ (m i : Nat) (s : Shared), n - i = m → i ≤ n → St i s → (∀ b o, h0.get? b = some o → s.heap.get? b = some o) → (∃ L es ep t, Tb P w s.heap S L es ep t ∧ Has ks i L) →
      (∀ s' L es ep t, Moved (S :: wr) G s s' → Tb P w s'.heap S L es ep t → Has ks n L → (∀ b o, h0.get? b = some o → s'.heap.get? b = some o) → R (.ok (.ret .none)) s') →
      codeAny (model P w) A (.builtin "set.update.loop" ⟨[.ref S, .ref I], []⟩) R s := by
  have Sw : S ∉ wr := fun h => hS (W.sub _ h)
  have keep : ∀ {s s' : Shared}, Moved wr G s s' → (∀ b o, h0.get? b = some o → s.heap.get? b = some o) → ∀ b o, h0.get? b = some o → s'.heap.get? b = some o := fun mv kp b o e => mv.heap b o (fun hb => by rw [hw0 b hb] at e; cases e) (kp b o e)
  intro m
  induction m with
  | zero =>
    rintro i s hm hi st kp ⟨L, es, ep, t, tb, g⟩ hR
    obtain rfl : i = n := by omega
    refine codeAny_builtin F.entry_set_update_loop ?_
    rw [Around.under_plainId F.plain_set_update_loop _]
    show wpAny _ A.in1 (pyNext (.ref I) >>= _) _ _ s
    refine wpAny_bind (W.done s _ _ st fun s' mv => ?_)
    have kp2 := keep mv kp
    show wpAny _ A.in1 (ret Value.none) _ _ s'
    exact wpAny_pure (hR s' L es ep t (mv.mono fun b hb => List.mem_cons_of_mem _ hb) (tb.kept (fun o e => mv.heap S o Sw e) fun p hp => IsX.kept (hk p (List.mem_of_mem_take (g.sub p hp))) kp2) g kp2)
  | succ m ih =>
    rintro i s hm hi st kp ⟨L, es, ep, t, tb, g⟩ hR
    refine codeAny_builtin F.entry_set_update_loop ?_
    rw [Around.under_plainId F.plain_set_update_loop _]
    show wpAny _ A.in1 (pyNext (.ref I) >>= _) _ _ s
    refine wpAny_bind (W.item i s _ _ (by omega) st fun v s' pv st2 mv => ?_)
    obtain ⟨p, hp, rfl⟩ := hv i v pv
    have kp2 := keep mv kp
    have tb2 : Tb P w s'.heap S L es ep t := tb.kept (fun o e => mv.heap S o Sw e) fun q hq => IsX.kept (hk q (List.mem_of_mem_take (g.sub q hq))) kp2
    have hx : IsX P w s'.heap p.2 p.1 := IsX.kept (hk p (List.mem_of_getElem? hp)) kp2
    have room : p.2 ∉ L.map (·.2) → L.length + 1 ≤ 76 := fun nm => by
      obtain ⟨D, d1, d2⟩ := few
      have z := nd_len (p.2 :: L.map (·.2)) D (List.nodup_cons.mpr ⟨nm, tb.nd⟩) fun k mk => by
        rcases List.mem_cons.mp mk with e | mk
        · rw [e]
          exact d2 p (List.mem_of_getElem? hp)
        · obtain ⟨q, mq, e⟩ := List.mem_map.mp mk
          rw [← e]
          exact d2 q (List.mem_of_mem_take (g.sub q mq))
      rw [List.length_cons, List.length_map] at z
      omega
    show wpAny _ A.in1 (holding [Value.ref p.1] (setAdd S (.ref p.1)) >>= _) _ _ s'
    refine wpAny_bind (wpAny_holding ?_)
    unfold setAdd
    refine wpAny_holding (wpAny_bind (wpAny_pyHash_tuple hu hx ?_))
    refine Tb.add (s := { s' with toks := s'.toks + (p.2.length + 1) }) tb2 hx hu room fun b h' L' es' ep' t' sb tb3 c1 c2 => ?_
    have kp3 : ∀ b o, h0.get? b = some o → h'.get? b = some o := fun b o e => (sb.2 b fun z => by rw [z, hS0] at e; cases e).trans (kp2 b o e)
    refine wpAny_pure ⟨plainId_quiet F.plain_set_update_loop _, ih (i + 1) _ (by omega) (by omega) (W.frame _ s' _ _ st2 (Nat.le_add_right _ _) fun b hb o e => ?_) kp3 ⟨L', es', ep', t', tb3, g.next hp c1 c2⟩ fun s2 L2 es2 ep2 t2 mv2 tb4 g4 kp4 => ?_⟩
    · rw [sb.2 b fun h : b = S => hS (by rw [← h]; exact hb)]
      exact e
    · refine hR s2 L2 es2 ep2 t2 (Moved.trans W.gtrans ((mv.mono fun b hb => List.mem_cons_of_mem _ hb).then_heap (Nat.le_add_right _ _) fun b o hb e => ?_) mv2) tb4 g4 kp4
      rw [sb.2 b fun h : b = S => hb (by rw [h]; exact List.mem_cons_self)]
      exact e
set_option maxHeartbeats 3200000 in
theorem call_set {l : Addr} {items : Array Value} (ks : List Row) {Q : Value → Shared → Prop} (hh : A.handled = none) (hl : s.heap.IsList l items) (hit : items.toList = ks.map fun p => Value.ref p.1) (hk : ∀ p ∈ ks, IsX P w s.heap p.2 p.1) (few : Few ks) (hu : A.units + 3 < cLine)
    (h : ∀ (h' : Heap) (tk : Nat) L es ep t, Tb P w h' s.heap.objs.size L es ep t → Has ks ks.length L → (∀ b o, s.heap.get? b = some o → h'.get? b = some o) → Q (.ref s.heap.objs.size) { s with heap := h', toks := tk }) :
    wpAny (model P w) A (call (.type "set") [.ref l]) Q E s := by
  have isz : items.size = ks.length := by rw [← Array.length_toList, hit, List.length_map]
  obtain ⟨c, tl, mro⟩ := PySem.F.called_set.mro
  have made := PySem.F.called_set.made
  have sub := PySem.F.called_set.sub
  refine wpAny_call (codeAny_of_tree ?_)
  show wpAny _ _ (callAny (.type "set") _) _ _ _
  refine wpAny_pure ⟨Code.quiet_builtin _ (by decide +kernel), codeAny_builtin PySem.F.entry_type_call ?_⟩
  rw [Around.under_plain (weight_type_call_type "set" [.ref l] []) rfl]
  have u1 := PySem.F.called_set.notType
  have u2 := PySem.F.called_set.canCreate
  have u3 := PySem.F.typeCall_set_1 (.ref l)
  repeat (any_goals (first | assumption | wp_step))
  refine codeAny_mono (TxS.code_set_new_led (.ref l) (E := E) (Q₁ := fun obj s₁ => obj = .ref s.heap.objs.size ∧ s₁ = { s with heap := s.heap.push (nset w) }) ⟨rfl, rfl⟩) fun r s₁ hr => ?_
  cases r with
  | error e => exact hr
  | ok fl =>
    cases fl with
    | ret obj =>
      obtain ⟨rfl, rfl⟩ := hr
      have gS : (s.heap.push (nset w)).get? s.heap.objs.size = some (nset w) := Heap.get?_push_size _ rfl
      have tS : Shared.TypeIs { s with heap := s.heap.push (nset w) } (.ref s.heap.objs.size) "set" := ⟨_, gS, rfl⟩
      have li := PySem.F.called_set.init.lookup
      have bi := PySem.F.called_set.init.bind (.ref s.heap.objs.size)
      repeat (any_goals (first | assumption | wp_step))
      refine codeAny_mono (codeAny_call_builtin (R := wants (fun r s₂ => r = .none ∧ ∃ h' tk L es ep t, s₂ = { s with heap := h', toks := tk } ∧ Tb P w h' s.heap.objs.size L es ep t ∧ Has ks ks.length L ∧ (∀ b o, s.heap.get? b = some o → h'.get? b = some o)) E)
        PySem.F.called_set.init.plain PySem.F.entry_set_init (check_set_init_1 tS ?_)) fun r₂ s₂ hr₂ => ?_
      · obtain ⟨⟨c1, c2, c3, c4⟩, hol, hcl, nl, hdl⟩ := hl
        simp only at hcl hdl
        subst hcl hdl
        have hol2 : (s.heap.push (nset w)).get? l = some { cls := .type "list", dict := c2, data := .seq items nl, slots := c4 } := Heap.get?_push_of_some _ hol
        have v1 := F.sub_list_set
        have v2 := F.sub_list_frozenset
        have v3 : (Value.type "list" == Value.type "dict") = false := by decide
        have hl1 : (s.heap.push (nset w)).IsList l items := ⟨_, hol2, rfl, nl, rfl⟩
        unfold Builtin.«set.__init__» noKeywords Builtin.Frozenset.updateFrom
        generalize hPI : pyIter = PI
        wp_walk
        subst hPI
        refine wpAny_pyIter_list hl1 (wpAny_bind (wpAny_runValue ?_))
        have lS : l < s.heap.objs.size := Heap.lt_size hol
        have hz : (s.heap.push (nset w)).objs.size = s.heap.objs.size + 1 := Heap.size_push ..
        have hv : ∀ (i : Nat) (v : Value), items[i]? = some v → ∃ p, ks[i]? = some p ∧ v = .ref p.1 := fun i v e => by
          rw [← Array.getElem?_toList, hit, List.getElem?_map] at e
          cases q : ks[i]? with
          | none => rw [q] at e; cases e
          | some p =>
            rw [q] at e
            exact ⟨p, rfl, (Option.some.inj e).symm⟩
        have off : ∀ b, s.heap.objs.size ≤ b → s.heap.get? b = none := fun b hb => Heap.get?_none_of_le hb
        refine fill_loop ((Walks.list (show A.in1.in1.in1.handled = none by simp [hh]) _ l (by rw [hz]; exact Nat.ne_of_lt (Nat.lt_succ_of_lt lS)) items).toS) s.heap.objs.size (by rw [hz]; simp only [List.mem_cons, List.not_mem_nil, or_false, not_or]; exact ⟨Nat.ne_of_lt (Nat.lt_succ_self _), Nat.ne_of_gt lS⟩) ks isz few hv s.heap hk (off _ (Nat.le_refl _)) (fun b hb => off b (by
            rw [List.mem_singleton.mp hb, hz]
            exact Nat.le_succ _)) hu (items.size - 0) 0 _ (by omega) (Nat.zero_le _) ⟨⟨_, Heap.get?_push_size _ rfl, rfl, rfl⟩, hl1.push _⟩ (fun b o e => Heap.get?_push_of_some _ (Heap.get?_push_of_some _ e)) ?hS0 ?hR
        case hS0 => exact ⟨[], #[], 0, _, Tb.new (Heap.get?_push_of_some _ gS), fun p hp => (by cases hp), fun p hp => (by simp at hp)⟩
        case hR =>
          intro s' L es ep t mv tb g kp
          obtain ⟨h', g2, d', tk', os'⟩ := s'
          obtain rfl : g2 = s.gens := mv.gens
          obtain rfl : d' = s.drawn := mv.drawn
          obtain rfl : os' = s.os := mv.os
          show wpAny _ _ _ _ _ _
          refine wpAny_pure ?_
          show wpAny _ _ (ret Value.none) _ _ _
          rw [isz] at g
          exact wpAny_pure ⟨rfl, h', tk', L, es, ep, t, rfl, tb, g, kp⟩
      · cases r₂ with
        | error e => exact hr₂
        | ok fl₂ =>
          cases fl₂ with
          | ret r =>
            obtain ⟨rfl, h', tk, L, es, ep, t, rfl, tb, g, kp⟩ := hr₂
            repeat (any_goals (first | assumption | wp_step))
            exact h _ _ _ _ _ _ tb g kp
          | _ => exact hr₂.elim
    | _ => exact hr.elim
end
/-! sorted(such a set), the tuples of texts alone -/
open PyProof.Rows.G
def tx : Nat → Bool := fun _ => true
/-- a key as it is compared -/
def pk (k : XK) : List (Int ⊕ List Nat) := k.map fun x => match x with
  | .inl i => .inl i
  | .inr y => .inr y.cps.toList
def Txt (k : XK) : Prop := k ≠ [] ∧ ∀ x ∈ k, ∃ y : Str, x = Sum.inr y
section
variable {P : Program} {w : World} {A : Around} {E : Value → Shared → Prop} {s : Shared} {a : Addr} {L : List Row} {es : Array (Int × Value)} {ep : Nat} {t : SetTable}
theorem items_key {k : XK} {us : List Value} (x : ItemsAre (mixKind P w) k us) (hk : ∀ x ∈ k, ∃ y : Str, x = Sum.inr y) : ∀ i, tupItems tx i us = some (pk k) := by
  induction x with
  | nil => exact fun _ => rfl
  | @cons z v ks vs e _ ih =>
    intro i
    obtain ⟨y, rfl⟩ := hk z List.mem_cons_self
    rcases keyIs_shape (k := Sum.inr y) (v := v) e with ⟨_, _, c, _⟩ | ⟨y2, t, c, rfl⟩
    · cases c
    · cases c
      have z := ih (fun x m => hk x (List.mem_cons_of_mem _ m)) (i + 1)
      unfold tupItems
      rw [if_pos (show tx i = true from rfl), z] <;> rfl
theorem isX_key {h : Heap} {k : XK} {b : Addr} (x : IsX P w h k b) (hk : Txt k) : tupKeyC h tx (.ref b) = some (pk k) ∧ ∃ f, TupOf h tx (.ref b) f := by
  obtain ⟨o, its, n, ho, hc, hd, hi⟩ := x
  have z := items_key hi hk.2 0
  refine ⟨?_, ?_⟩
  · unfold tupKeyC
    rw [if_pos (by simp only [isTupObj, ho, hc]; decide)]
    simp only [tupKey, ho, hd]
    exact z
  · obtain ⟨l⟩ := its
    cases hi with
    | nil => exact absurd rfl hk.1
    | @cons c v ks vs e _ =>
      obtain ⟨y, rfl⟩ := hk.2 c List.mem_cons_self
      rcases keyIs_shape (k := Sum.inr y) (v := v) e with ⟨_, _, q, _⟩ | ⟨y2, t, _, rfl⟩
      · cases q
      · exact ⟨_, b, o, _, n, rfl, ho, hc, hd, rfl, (fun q => absurd (show true = false from q) (by decide)), fun _ => ⟨_, _, rfl⟩⟩
theorem tups_of {h : Heap} : ∀ {us : List Value}, (∀ u ∈ us, ∃ f, TupOf h tx u f) → ∃ fs, TupsOf h tx us fs
  | [], _ => ⟨[], .nil⟩
  | u :: us, hu => by
    obtain ⟨f, tf⟩ := hu u List.mem_cons_self
    obtain ⟨fs, z⟩ := tups_of fun v m => hu v (List.mem_cons_of_mem _ m)
    exact ⟨f :: fs, .cons tf z⟩
theorem map_nodup {α β : Type} {f : α → β} {l : List α} (h : (l.map f).Nodup) : l.Nodup := List.Pairwise.of_map f (fun _ _ ne e => ne (congrArg f e)) h
theorem back_refs (L : List Row) : ∀ {us : List Value}, (∀ u ∈ us, ∃ q ∈ L, u = Value.ref q.1) → ∃ L1 : List Row, us = L1.map (fun q => Value.ref q.1) ∧ ∀ q ∈ L1, q ∈ L
  | [], _ => ⟨[], rfl, fun q m => (by cases m)⟩
  | u :: us, hu => by
    obtain ⟨q, m, e⟩ := hu u List.mem_cons_self
    obtain ⟨L1, e1, m1⟩ := back_refs L fun v mv => hu v (List.mem_cons_of_mem _ mv)
    exact ⟨q :: L1, by rw [List.map_cons, e, e1], fun r mr => (List.mem_cons.mp mr).elim (fun z => by rw [z]; exact m) (m1 r)⟩
theorem sorted_set (R : Tb P w s.heap a L es ep t) (hh : A.handled = none) (hk : ∀ p ∈ L, Txt p.2)
    (hQ : ∀ s' d (out : List Value) (c : Nat) (L' : List Row), (∀ b o, s.heap.get? b = some o → s'.heap.get? b = some o) → s'.gens = s.gens → s'.os = s.os → s.heap.objs.size ≤ d → s'.heap.get? d = some (seqObj "list" out.toArray c) → out = L'.map (fun q => Value.ref q.1) → L'.Perm L →
      L'.Pairwise (fun q r => lexLt itemOrd (pk r.2) (pk q.2) = false) → Q (.ref d) s') : wpAny (model P w) A (call (.builtin "sorted") [.ref a]) Q E s := by
  obtain ⟨o, ho, ex, hd⟩ := R.ob
  have sl := ents_len R.en
  have fw := R.few
  refine Calls.call_function_entry kind_sorted plain_sorted entry_sorted (args_sorted1 _) ?_
  unfold Builtin.«sorted»
  refine wpAny_bind (m := checkCount "sorted" 1 1 _) (wpAny_pure ?_)
  refine wpAny_bind (collect_set (A := A.in1) hh ⟨o, ho, ex.1, hd⟩ R.fit (by unfold scanBound; omega) R.tab.ris R.led fun s1 us k1 hz g1 o1 pm => ?_)
  have ee : es.toList.map (·.2) = L.map fun q => Value.ref q.1 := by
    rw [R.en, ents, List.map_map] <;> rfl
  rw [ee] at pm
  have ul : us.length ≤ 76 := by rw [pm.length_eq, List.length_map]; exact fw
  have small : us.length ≤ sizeLine := by rw [sizeLine_eq]; omega
  refine wpAny_bind (wpAny_newList ?_ small)
  have hoL : (s1.heap.push (seqObj "list" us.toArray 0)).get? s1.heap.objs.size = some (seqObj "list" us.toArray 0) := Heap.get?_push_size _ rfl
  have kp : ∀ b u, s.heap.get? b = some u → (s1.heap.push (seqObj "list" us.toArray 0)).get? b = some u := fun b u e => Heap.get?_push_of_some _ (k1 b u e)
  have at1 : ∀ u ∈ us, ∃ q ∈ L, u = Value.ref q.1 := fun u m => by
    obtain ⟨q, mq, e⟩ := List.mem_map.mp (pm.mem_iff.mp m)
    exact ⟨q, mq, e.symm⟩
  have key : ∀ q ∈ L, tupKeyC (s1.heap.push (seqObj "list" us.toArray 0)) tx (.ref q.1) = some (pk q.2) ∧ ∃ f, TupOf (s1.heap.push (seqObj "list" us.toArray 0)) tx (.ref q.1) f := fun q m => isX_key (P := P) (w := w) (IsX.kept (R.tup q m) kp) (hk q m)
  obtain ⟨fs, ht⟩ := tups_of (h := s1.heap.push (seqObj "list" us.toArray 0)) (us := us) fun u m => by
    obtain ⟨q, mq, rfl⟩ := at1 u m
    exact (key q mq).2
  refine wpAny_bind (wpAny_holding (wpAny_call_entry slot_list_sort ⟨_, hoL, rfl⟩ entry_list_sort
    (list_sort_tups (s := { s1 with heap := s1.heap.push (seqObj "list" us.toArray 0) }) hoL ht (fun u m => by
      obtain ⟨q, mq, rfl⟩ := at1 u m
      exact ⟨_, (key q mq).1⟩) small fun st' a1 a2 a3 => ⟨_, rfl, ?_⟩) (args_list_sort _)))
  have both : ∀ p ∈ (arrOf st').toList, p.1 = p.2 ∧ p.1 ∈ us := fun p hp => by
    have z := (Array.perm_iff_toList_perm.mp a1).mem_iff.mp hp
    rw [pairsOf_toList] at z
    exact mem_zip_self z
  have perm2 : ((arrOf st').map (·.2)).toList.Perm us := by
    have z := (Array.perm_iff_toList_perm.mp a1).map (·.2)
    rw [pairsOf_toList] at z
    rw [Array.toList_map]
    refine z.trans (.of_eq ?_)
    have y := List.map_snd_zip (l₁ := us) (l₂ := us) (Nat.le_refl _)
    simpa using y
  obtain ⟨L', el, ml⟩ := back_refs L (us := ((arrOf st').map (·.2)).toList) fun u m => at1 u (perm2.mem_iff.mp m)
  have one : ∀ q ∈ L, ∀ r ∈ L, q.1 = r.1 → q = r := fun q mq r mr e => by
    have z := R.tup q mq
    rw [e] at z
    exact Prod.ext e (z.inj (R.tup r mr))
  have nref : (L.map fun q => Value.ref q.1).Nodup := by
    refine List.pairwise_map.mpr (List.Pairwise.imp_of_mem (fun {q r} mq mr ne e => ?_) (map_nodup R.nd))
    injection e with e
    exact ne (one q mq r mr e)
  have pm2 : (L'.map fun q => Value.ref q.1).Perm (L.map fun q => Value.ref q.1) := by
    rw [← el]
    exact perm2.trans pm
  have pL : L'.Perm L := by
    refine (List.perm_ext_iff_of_nodup (map_nodup (pm2.nodup_iff.mpr nref)) (map_nodup R.nd)).mpr fun q => ⟨ml q, fun mq => ?_⟩
    obtain ⟨r, mr, e⟩ := List.mem_map.mp (pm2.mem_iff.mpr (List.mem_map.mpr ⟨q, mq, rfl⟩))
    injection e with e
    rw [← one r (ml r mr) q mq e]
    exact mr
  obtain ⟨c, hc⟩ := sortedHeap_at (vs := us) (out := (arrOf st').map (·.2)) hoL
  refine wpAny_pure ⟨_, rfl, hQ _ s1.heap.objs.size ((arrOf st').map (·.2)).toList c L' (fun b u e => ?_) g1 o1 hz (by rw [Array.toArray_toList]; exact hc) el pL ?_⟩
  · have z := k1 b u e
    have lt := Heap.lt_size z
    show (sortedHeap (s1.heap.push (seqObj "list" us.toArray 0)) s1.heap.objs.size us _).get? b = some u
    rw [sortedHeap_old (Nat.ne_of_lt lt) (by rw [size_push']; exact Nat.lt_succ_of_lt lt)]
    exact Heap.get?_push_of_some _ z
  · rw [List.pairwise_iff_getElem]
    intro i j hi hj hij
    have lz : L'.length = (arrOf st').size := by
      have z := congrArg List.length el
      rw [Array.length_toList, Array.size_map, List.length_map] at z
      exact z.symm
    have hk2 := a2 i j (Nat.le_of_lt hij) (by rw [← a1.size_eq, ← lz]; exact hj)
    have kk : ∀ (i : Nat) (hi : i < L'.length), KK (tupKindC (s1.heap.push (seqObj "list" us.toArray 0)) tx) (arrOf st') i = pk L'[i].2 := fun i hi => by
      have hi2 : i < (arrOf st').size := by rw [← lz]; exact hi
      obtain ⟨m1, m2⟩ := both (arrOf st')[i] (by simp)
      have e3 : (arrOf st')[i].2 = Value.ref L'[i].1 := by
        have z := congrArg (fun l : List Value => l[i]?) el
        rw [List.getElem?_map, List.getElem?_eq_getElem hi, Array.getElem?_toList, Array.getElem?_map, Array.getElem?_eq_getElem hi2] at z
        exact Option.some.inj z
      unfold KK
      rw [getElem?_pos (arrOf st') i hi2]
      dsimp only
      rw [m1, e3, (key _ (ml _ (List.getElem_mem hi))).1] <;> rfl
    rw [kk i hi, kk j hj] at hk2
    exact hk2
end
/-! the rules -/
/-- the set, without the tuples themselves -/
structure Tb0 (P : Program) (w : World) (h : Heap) (a : Addr) (L : List Row) : Prop where
  ex : ∃ (es : Array (Int × Value)) (ep : Nat) (t : SetTable), (∃ o, h.get? a = some o ∧ o.ExactSet ∧ o.data = .set es ep t) ∧ es.toList = ents P w L ∧ TabOk t (L.map (rh P w)) ∧ (L.map (·.2)).Nodup ∧ (w.params.followText "set-order" = true ∨ t.led = true) ∧ L.length * 5 < t.mask * 3 ∧ L.length ≤ 76
def SetO (P : Program) (w : World) (a : Addr) (L : List Row) : HO := .ext fun h => Tb0 P w h a L
theorem setO_new {P : Program} {w : World} {H : Hp} {h : Heap} {a : Addr} {L : List Row} {es : Array (Int × Value)} {ep : Nat} {t : SetTable} (R : Tb P w h a L es ep t) : ObjOk P w H h a (SetO P w a L) := by
  obtain ⟨o, ho, r⟩ := R.ob
  refine ⟨⟨es, ep, t, ⟨o, ho, r⟩, R.en, R.tab, R.nd, R.led, R.room, R.few⟩, ⟨o, ho⟩, fun h1 h2 x k => ?_⟩
  obtain ⟨es, ep, t, ⟨o, ho, r⟩, q⟩ := x.ex
  exact ⟨es, ep, t, ⟨o, k o ho, r⟩, q⟩
theorem items_vals {P : Program} {w : World} : ∀ {k : XK} {us : List Value}, Vals (k.map kV) us → ItemsAre (mixKind P w) k us
  | [], _, .nil => .nil
  | _ :: _, _, .cons r x => .cons (kV_is r) (items_vals x)
section
variable {X : Cx}
theorem isX_of {pins : List (Addr × Obj)} {σ : L2.St} {H : Hp} {s : Shared} {b : Addr} {k : XK} (I : Inv X pins σ H s) (h : SqT X.K H b (k.map kV)) : IsX X.prog X.w s.heap k b := by
  obtain ⟨its, r, ⟨o, ho, hc, n, hd⟩, _⟩ := I.tuple h
  exact ⟨o, its.toArray, n, ho, hc, hd, by simpa using items_vals r⟩
theorem row_refs : ∀ {ks : List Row} {us : List Value}, Vals (ks.map fun p => V.ref p.1) us → us = ks.map fun p => Value.ref p.1
  | [], _, .nil => rfl
  | _ :: _, _, .cons r x => by
    cases r
    rw [List.map_cons, row_refs x]
theorem refs_row : ∀ (ks : List Row), Vals (ks.map fun p => V.ref p.1) (ks.map fun p => Value.ref p.1)
  | [] => .nil
  | _ :: ks => .cons rfl (refs_row ks)
def rSetT (K : PySem.W.Frag) (P : Program) (w : World) : List V → Hp → VK → Prop := fun xs H Q => ∃ (l : Addr) (ks : List Row), xs = [V.ref l] ∧ SqL K H l (ks.map fun p => V.ref p.1) ∧ (∀ p ∈ ks, SqT K H p.1 (p.2.map kV)) ∧ Few ks ∧
  ∀ a L, H a = none → (∀ p ∈ L, p ∈ ks) → (∀ p ∈ ks, p.2 ∈ L.map (·.2)) → Q (.ref a) (upd H a (SetO P w a L))
theorem cr_setT (hc : X.calm = true) (hu : X.A.units + 64 < cLine) : CallR X (.type "set") (rSetT X.K X.prog X.w) := by
  intro pins s σ H xs us Q I r h
  obtain ⟨l, ks, rfl, hl, hk, fw, q⟩ := h
  rw [Vals.ref1 r]
  obtain ⟨its, rv, pl, hz⟩ := I.list hl
  refine call_set (P := X.prog) (w := X.w) ks (I.ok.hd hc) pl.isList (by simpa using row_refs rv) (fun p hp => isX_of I (hk p hp)) fw (by omega) fun h' tk L es ep t R g k => ?_
  refine ⟨.ref s.heap.objs.size, _, I.laid (t' := tk) k (Nat.le_refl _) (setO_new R), rfl, q _ L (I.hok.fresh (Nat.le_refl _)) (fun p hp => List.mem_of_mem_take (g.sub p hp)) fun p hp => g.all p (by rw [List.take_length]; exact hp)⟩
def rSortT (K : PySem.W.Frag) (P : Program) (w : World) : List V → Hp → VK → Prop := fun xs H Q => ∃ (a : Addr) (L : List Row), xs = [V.ref a] ∧ H a = some (SetO P w a L) ∧ (∀ p ∈ L, SqT K H p.1 (p.2.map kV)) ∧ (∀ p ∈ L, Txt p.2) ∧
  ∀ (L' : List Row) (d : Addr), L'.Perm L → (L'.map (·.2)).Nodup → L'.length ≤ 76 → L'.Pairwise (fun q r => lexLt itemOrd (pk r.2) (pk q.2) = false) → H d = none → Q (.ref d) (upd H d (.lst (L'.map fun q => V.ref q.1)))
theorem cr_sortT (hc : X.calm = true) : CallR X (.builtin "sorted") (rSortT X.K X.prog X.w) := by
  intro pins s σ H xs us Q I r h
  obtain ⟨a, L, rfl, ha, hk, tk, q⟩ := h
  have R0 : Tb0 X.prog X.w s.heap a L := (I.hok a _ ha).1
  obtain ⟨es, ep, t, ob, r1, r2, r3, r4, r5, r6⟩ := R0.ex
  rw [Vals.ref1 r]
  refine sorted_set ⟨ob, r1, r2, r3, fun p hp => isX_of I (hk p hp), r4, r5, r6⟩ (I.ok.hd hc) tk fun s' d out c L' k g o hd hg eo pm pw => ?_
  have fw : L'.length ≤ 76 := by rw [pm.length_eq]; exact r6
  have hn : H d = none := I.hok.fresh hd
  have J : Inv X pins σ (upd H d (.lst (L'.map fun q => V.ref q.1))) { s with heap := s'.heap, gens := s'.gens, drawn := s'.drawn, toks := s'.toks } :=
    I.call (ch := []) (Un.laid k hd hn) (I.hok.laid k hd ⟨by rw [List.length_map, sizeLine_eq]; omega, out, c, by rw [eo]; exact refs_row L', hg⟩) (by rw [g]; exact I.bare) (fun _ z => nomatch z)
  have e : s' = { s with heap := s'.heap, gens := s'.gens, drawn := s'.drawn, toks := s'.toks } := by
    cases s'
    cases s
    cases o
    rfl
  rw [e]
  exact ⟨.ref d, _, J, rfl, q L' d pm ((pm.map (·.2)).nodup_iff.mpr r3) fw pw hn⟩
end
end XS
/-! ### dict(t), t a tuple of pairs (name, box) without a dict of its own -/
namespace L2
open PySem PySem.Spec PyProof.Rows
def rowKv (rs : My.Rw) : List (Key × V) := rs.map fun r => (Sum.inr r.1, V.int r.2)
theorem prs_raw {X : Cx} {pins : List (Addr × Obj)} {σ : L2.St} {H : Hp} {s : Shared} (I : Inv X pins σ H s) : ∀ {us : List V} {rs : My.Rw} {its : List Value}, My.Prs X.K H us rs → Vals us its →
    ∃ (prs : List (Value × Value)) (As : List Addr), its = As.map Value.ref ∧ As.length = prs.length ∧ prs.length = rs.length ∧ KV (rowKv rs) (prs.zipWith (fun p r => (Sum.inr r.1, p.2)) rs) ∧
      ∀ (j : Nat) (k v : Value), prs[j]? = some (k, v) → ∃ (A : Addr) (r : Str × Int), As[j]? = some A ∧ rs[j]? = some r ∧ s.heap.IsTuple A #[k, v] ∧ (∃ t, k = Value.str r.1 t)
  | _, _, _, .nil, .nil => ⟨[], [], rfl, rfl, rfl, .nil, fun j k v e => by simp at e⟩
  | _, _, _, .cons (p := p) (n := n) (b := b) t ps, .cons (b := u) ru rv => by
    obtain rfl : u = Value.ref p := ru
    obtain ⟨prs, As, e, l1, l2, kv, at1⟩ := prs_raw I ps rv
    obtain ⟨its, r, it, _⟩ := I.tuple t
    obtain ⟨u1, u2, rfl, r1, r2⟩ := vals2 r
    obtain ⟨t1, rfl⟩ := r1
    refine ⟨(Value.str n t1, u2) :: prs, p :: As, by rw [List.map_cons, e], by rw [List.length_cons, List.length_cons, l1], by rw [List.length_cons, List.length_cons, l2], .cons ⟨rfl, r2⟩ kv, fun j k v ej => ?_⟩
    cases j with
    | zero =>
      cases ej
      exact ⟨p, _, rfl, rfl, it, t1, rfl⟩
    | succ j => exact at1 j k v ej
def rDictG (K : PySem.W.Frag) : List V → Hp → VK → Prop := fun xs H Q => ∃ (t : Addr) (us : List V) (rs : My.Rw), xs = [V.ref t] ∧ TG.GT H t us ∧ My.Prs K H us rs ∧ ∀ p, H p = none → Q (.ref p) (upd H p (.dK (mergeK [] (rowKv rs))))
section
variable {X : Cx}
theorem call_dictG (hc : X.calm = true) : CallR X (.type "dict") (rDictG X.K) := by
  intro pins s σ H xs us Q I r h
  obtain ⟨t, vs, rs, rfl, ⟨o, hd, ht⟩, hp, q⟩ := h
  rw [Vals.ref1 r]
  obtain ⟨ho, hz, its, rv, o2, ho2, hc2, n, hdat⟩ := (show ObjOk X.prog X.w H s.heap t (.frz o (.tup vs)) from I.hok t _ ht)
  rw [ho] at ho2
  cases ho2
  obtain ⟨prs, As, e, l1, l2, kv, at1⟩ := prs_raw I hp rv
  have hl : prs.length ≤ sizeLine := by
    rw [l2, ← hp.len]
    exact hz
  let Ts : Nat → Addr := fun j => (As[j]?).getD 0
  have big : (s.heap.objs.size == sysModules) = false := beq_eq_false_iff_ne.mpr (Nat.ne_of_gt I.big)
  refine PySem.call_dict_pairs (knd := mixKind X.prog X.w) (kvs := prs.zipWith (fun p r => (Sum.inr r.1, p.2)) rs) (PairArg.tuple t its.toArray Ts prs) (I.ok.hd hc) ⟨⟨o, n, ho, hc2, hd, hdat⟩, by rw [List.size_toArray, e, List.length_map, l1], fun j k v ej => ?_⟩ ⟨by rw [List.length_zipWith, l2, Nat.min_self], fun j k v ej => ?_⟩ hl fun h' tk hd' k => ?_
  · obtain ⟨A, r, e1, e2, it, _⟩ := at1 j k v ej
    have eT : Ts j = A := by show (As[j]?).getD 0 = A; rw [e1] <;> rfl
    refine ⟨?_, .inl (by rw [eT]; exact it)⟩
    rw [eT, List.getElem?_toArray, e, List.getElem?_map, e1] <;> rfl
  · obtain ⟨A, r, e1, e2, it, t1, rfl⟩ := at1 j k v ej
    refine ⟨Sum.inr r.1, ?_, kV_is (k := Sum.inr r.1) ⟨t1, rfl⟩⟩
    rw [List.getElem?_zipWith, ej, e2]
  · have hlen : (mergeK [] (rowKv rs)).length ≤ sizeLine := by
      refine Nat.le_trans (length_mergeK (rowKv rs) []) ?_
      rw [List.length_nil, Nat.zero_add]
      unfold rowKv
      rw [List.length_map, ← l2]
      exact hl
    exact ⟨.ref s.heap.objs.size, upd H s.heap.objs.size (.dK (mergeK [] (rowKv rs))), I.laid (t' := tk) (fun b u e => k b u (by intro z; cases z) e) (Nat.le_refl _) (show ObjOk X.prog X.w _ _ _ (.dK (mergeK [] (rowKv rs))) from ⟨hlen, big, _, KV.merge kv .nil, hd'⟩), rfl, q _ (I.hok.fresh (Nat.le_refl _))⟩
end
end L2
namespace My
open PySem PySem.Spec PyProof.Rows L2
/-! ### how deep a tree is -/
/-- each walk of n names or more from there ends at nothing -/
def FlatN (S : PS) (n : Nat) (o : Option Int) : Prop := ∀ ns : List Str, n ≤ ns.length → walkF S o ns = none
section
variable {S S' : PS} {n : Nat} {o : Option Int}
theorem FlatN.none : FlatN S n none := fun ns _ => walkF_none S ns
theorem FlatN.next (h : FlatN S (n + 1) o) (m : Str) : FlatN S n (nextF S o m) := fun ns hn => h (m :: ns) (by rw [List.length_cons]; omega)
theorem FlatN.of (h : ∀ m, FlatN S n (nextF S o m)) : FlatN S (n + 1) o := fun ns hn => by
  cases ns with
  | nil => simp at hn
  | cons m ns => exact h m ns (by rw [List.length_cons] at hn; omega)
theorem FlatN.mono {k : Nat} (h : FlatN S n o) (hk : n ≤ k) : FlatN S k o := fun ns hn => h ns (by omega)
theorem FlatN.leaf {z : Int} {v : Int} (h : bxO S (some z) = some (.leaf v)) : FlatN S 1 (some z) := FlatN.of fun m => by
  have : nextF S (some z) m = Option.none := by unfold nextF; rw [rowsO_bx, h] <;> rfl
  rw [this]
  exact FlatN.none
def Lo (S : PS) : Prop := ∀ o m y, nextF S o m = some y → y ≤ S.made
theorem Lo.of {R : List Int} (hi : TInv S R) : Lo S := fun _ _ _ e => (hi.low e).2.1
theorem Lo.mkB (h : Lo S) {rs : Rw} (hr : ∀ m y, findR rs m = some y → y ≤ S.made) : Lo (mkB S rs) := fun o m y e => by
  rw [mkB_made]
  cases o with
  | none => cases e
  | some z =>
    unfold nextF at e
    rw [rowsO_bx, bxO_mkB] at e
    by_cases q : z = (S.made : Int) + 1
    · rw [if_pos q] at e
      have := hr m y e
      omega
    · rw [if_neg q, ← rowsO_bx] at e
      have := h (some z) m y e
      omega
/-- old boxes: as before -/
theorem FlatN.ext (hi : Lo S) (x : Ext S S') : ∀ {n : Nat} {o : Option Int}, (∀ z, o = some z → z ≤ S.made) → FlatN S n o → FlatN S' n o := fun {n o} ho h ns hn => by
  have key : ∀ (ns : List Str) (o : Option Int), (∀ z, o = some z → z ≤ S.made) → walkF S' o ns = walkF S o ns := fun ns => by
    induction ns with
    | nil => intro o _; rfl
    | cons m ns ih =>
      intro o ho
      have e : nextF S' o m = nextF S o m := by unfold nextF; rw [x.rows ho]
      rw [walkF_cons, walkF_cons, e]
      exact ih _ fun z e => hi _ _ _ e
  rw [key ns o ho]
  exact h ns hn
/-- a branch made anew -/
theorem FlatN.branch {z : Int} {rs : Rw} (h : bxO S (some z) = some (.branch rs)) (hr : ∀ m, FlatN S n (findR rs m)) : FlatN S (n + 1) (some z) := FlatN.of fun m => by
  have : nextF S (some z) m = findR rs m := by unfold nextF; rw [rowsO_bx, h] <;> rfl
  rw [this]
  exact hr m
end
/-- a chain of branches made anew -/
theorem lead_flat {S S0 : PS} {R : List Int} (hi : TInv S R) (h0 : Lo S0) (x0 : Ext S S0) {z : Int} (hz : z ≤ S0.made) : ∀ (ns : List Str) (o : Option Int) (n : Nat), Fit S o → FlatN S (n + ns.length) o → FlatN S0 n (some z) →
    FlatN (leadF (pairsF S o ns) S0 z).1 (n + ns.length) (some (leadF (pairsF S o ns) S0 z).2) ∧ Lo (leadF (pairsF S o ns) S0 z).1 ∧ (leadF (pairsF S o ns) S0 z).2 ≤ (leadF (pairsF S o ns) S0 z).1.made
  | [], o, n, _, _, h => ⟨h, h0, hz⟩
  | m :: ns, o, n, f, h, hz2 => by
    have f2 : Fit S (nextF S o m) := fun y ey => (hi.low ey).1
    obtain ⟨ih, lo, le⟩ := lead_flat hi h0 x0 hz ns (nextF S o m) n f2 (h.next m) hz2
    have hle : ∀ y, o = some y → y ≤ S0.made := fun y ey => by have := f.le hi y ey; have := x0.made; omega
    show FlatN (leadF ((o, m) :: pairsF S (nextF S o m) ns) S0 z).1 (n + ns.length + 1) (some (leadF ((o, m) :: pairsF S (nextF S o m) ns) S0 z).2) ∧ Lo (leadF ((o, m) :: pairsF S (nextF S o m) ns) S0 z).1 ∧ (leadF ((o, m) :: pairsF S (nextF S o m) ns) S0 z).2 ≤ (leadF ((o, m) :: pairsF S (nextF S o m) ns) S0 z).1.made
    rw [leadF_cons]
    dsimp only
    generalize hL : leadF (pairsF S (nextF S o m) ns) S0 z = L at ih lo le ⊢
    have xL : Ext S0 L.1 := by rw [← hL]; exact Ext.lead _ _ _
    have er : rowsO L.1 o = rowsO S o := by rw [xL.rows hle, x0.rows (fun y ey => f.le hi y ey)]
    have hb := bxO_mkB L.1 (putR (rowsO L.1 o) m L.2) ((L.1.made : Int) + 1)
    rw [if_pos rfl] at hb
    have hrow : ∀ k y, findR (putR (rowsO L.1 o) m L.2) k = some y → y ≤ L.1.made := fun k y e => by
      rw [findR_putR] at e
      split at e
      · cases e; exact le
      · exact lo o k y e
    refine ⟨FlatN.branch hb fun k => ?_, lo.mkB hrow, by rw [mkB_made]; omega⟩
    rw [findR_putR]
    by_cases q : k = m
    · rw [if_pos q]
      exact FlatN.ext lo (Ext.mkB _ _) (fun y e => by cases e; exact le) ih
    · rw [if_neg q, er]
      have hn : FlatN S (n + ns.length) (findR (rowsO S o) k) := h.next k
      have hy : ∀ y, findR (rowsO S o) k = some y → y ≤ S.made := fun y e => (hi.low (o := o) (n := k) e).2.1
      exact FlatN.ext (Lo.of hi) ((x0.trans xL).trans (Ext.mkB _ _)) hy hn
/-- every tree of a store -/
def Low (X : TS) : Prop := ∀ z ∈ X.top :: X.shots.map (·.2), FlatN X.S 9 (some z)
theorem Low.new : Low TS.new := fun z hz => by
  have e : z = 1 := by simpa [TS.new] using hz
  subst e
  refine (FlatN.branch (n := 0) (bxO_some (b := .branch []) (c := 1) (by rw [TS.new_box, if_pos rfl])) fun m => ?_).mono (by decide)
  exact FlatN.none
/-- what is let go changes nothing above -/
theorem FlatN.les {S S' : PS} {R R' : List Int} (h : TInv S R) (h' : TInv S' R') (l : Les S S') {n : Nat} {z : Int} (hz : (S'.box z).isSome = true) (f : FlatN S n (some z)) : FlatN S' n (some z) := fun ns hn => by
  have hle : z ≤ S.made := by
    obtain ⟨x, ex⟩ := Option.isSome_iff_exists.mp hz
    have := (h'.ok.dom z x ex).2
    rw [l.made] at this
    exact this
  rw [(walk_same h h' (fun z b c _ e => l.sub z b c e) ns (some z) (fun y e => by cases e; exact hz) (fun y e => by cases e; exact hle)).1]
  exact f ns hn
theorem FlatN.hold {S : PS} {y : Int} {n : Nat} {o : Option Int} (f : FlatN S n o) : FlatN (S.hold y) n o := fun ns hn => by
  have key : ∀ (ns : List Str) (o : Option Int), walkF (S.hold y) o ns = walkF S o ns := fun ns => by
    induction ns with
    | nil => intro o; rfl
    | cons m ns ih =>
      intro o
      have e : nextF (S.hold y) o m = nextF S o m := by
        cases o with
        | none => rfl
        | some z => unfold nextF; rw [rowsO_bx, rowsO_bx, bxO_hold]
      rw [walkF_cons, walkF_cons, e]
      exact ih _
  rw [key]
  exact f ns hn
section
variable {X : TS}
theorem TS.Ok.boxLe (ok : X.Ok) {z : Int} (hz : z ∈ X.top :: X.shots.map (·.2)) : z ≤ X.S.made := by
  obtain ⟨x, ex⟩ := Option.isSome_iff_exists.mp (ok.t.there z hz)
  exact (ok.t.ok.dom z x ex).2
theorem Low.turn (ok : X.Ok) (lw : Low X) {S : PS} {t : Int} (tm : TMid S (X.top :: X.shots.map (·.2)) t) (ext : Ext X.S S) (hb : isBr (bxO S (some t)) = true) (hf : FlatN S 9 (some t)) : Low (X.turn S t).1 := fun z hz => by
  have ok' := ok.turn tm ext hb
  have l : Les (S.hold t) (X.turn S t).1.S := Les.letGo (S.hold t) X.top
  have f : FlatN (S.hold t) 9 (some z) := by
    rcases List.mem_cons.mp hz with e | hz
    · rw [show z = t from e]
      exact hf.hold
    · have hz : z ∈ X.shots.map (·.2) := hz
      exact (FlatN.ext (Lo.of ok.t.toTInv) ext (fun y e => by cases e; exact ok.boxLe (List.mem_cons_of_mem _ hz)) (lw z (List.mem_cons_of_mem _ hz))).hold
  exact FlatN.les (tm.toTInv.hold tm.is) ok'.t.toTInv l (ok'.t.there z hz) f
theorem Low.put (ok : X.Ok) (lw : Low X) {ns : List Str} (hp : PathL ns) (n : Int) (hm : X.S.made ≤ 2800) : Low (X.putN ns n).1 := by
  have h8 := hp.le
  have tm := ok.putMid hp.ok n (by omega)
  refine lw.turn ok tm (ok.putExt ns n) (isBr_lead _ _ (pairsF_ne _ _ hp.ne)) ?_
  have hL0 : Lo (X.S.new (.leaf n)) := Lo.of (ok.t.leaf n (by omega)).toTInv
  have hb : bxO (X.S.new (.leaf n)) (some ((X.S.made : Int) + 1)) = some (.leaf n) := by rw [bxO_new, if_pos rfl]
  have := lead_flat ok.t.toTInv hL0 (Ext.new X.S (.leaf n)) (z := (X.S.made : Int) + 1) (by show _ ≤ ((X.S.made + 1 : Nat) : Int); omega) ns (some X.top) (9 - ns.length) ok.fit (by rw [show 9 - ns.length + ns.length = 9 by omega]; exact lw _ List.mem_cons_self) ((FlatN.leaf hb).mono (by omega))
  rw [show 9 - ns.length + ns.length = 9 by omega] at this
  exact this.1
theorem Low.cut (ok : X.Ok) (lw : Low X) {i : List Str} {l : Str} (h8 : i.length ≤ 8) (hok : ∀ m ∈ i, okN m = true) (hm : X.S.made ≤ 2800) : Low (X.cutN i l).1 := by
  have tm := ok.cutMid (i := i) (l := l) hok (by omega)
  have hbr : isBr (bxO (X.cutS i l).1 (some (X.cutS i l).2)) = true := by
    cases i with
    | nil =>
      show isBr (bxO (mkB X.S _) (some ((X.S.made : Int) + 1))) = true
      rw [bxO_mkB, if_pos rfl] <;> rfl
    | cons m i => exact isBr_lead _ _ (pairsF_ne _ _ (by simp))
  refine lw.turn ok tm (ok.cutExt i l) hbr ?_
  have hw : FlatN X.S (9 - i.length) (walkF X.S (some X.top) i) := fun ns hn => by
    rw [← walkF_app]
    exact lw _ List.mem_cons_self (i ++ ns) (by rw [List.length_append]; omega)
  have hrow : ∀ m y, findR (delR (rowsO X.S (walkF X.S (some X.top) i)) l) m = some y → y ≤ X.S.made := fun m y e => by
    rw [findR_delR] at e
    split at e
    · cases e
    · exact Lo.of ok.t.toTInv _ m y e
  have hL0 := (Lo.of ok.t.toTInv).mkB hrow
  have x0 := Ext.mkB X.S (delR (rowsO X.S (walkF X.S (some X.top) i)) l)
  have hb := bxO_mkB X.S (delR (rowsO X.S (walkF X.S (some X.top) i)) l) ((X.S.made : Int) + 1)
  rw [if_pos rfl] at hb
  have hf : FlatN (mkB X.S (delR (rowsO X.S (walkF X.S (some X.top) i)) l)) (9 - i.length) (some ((X.S.made : Int) + 1)) := by
    rw [show 9 - i.length = (9 - i.length - 1) + 1 by omega] at hw ⊢
    refine FlatN.branch hb fun m => ?_
    rw [findR_delR]
    by_cases q : m = l
    · rw [if_pos q]; exact FlatN.none
    · rw [if_neg q]
      exact FlatN.ext (Lo.of ok.t.toTInv) x0 (fun y e => Lo.of ok.t.toTInv _ m y e) (hw.next m)
  have := lead_flat ok.t.toTInv hL0 x0 (z := (X.S.made : Int) + 1) (by rw [mkB_made]; omega) i (some X.top) (9 - i.length) ok.fit (by rw [show 9 - i.length + i.length = 9 by omega]; exact lw _ List.mem_cons_self) hf
  rw [show 9 - i.length + i.length = 9 by omega] at this
  exact this.1
theorem Low.snap (lw : Low X) : Low X.snapF := fun z hz => by
  have hz : z ∈ X.top :: (X.shots ++ [((X.taken : Int) + 1, X.top)]).map (·.2) := hz
  have hz2 : z ∈ X.top :: X.shots.map (·.2) := by
    rw [List.map_append] at hz
    rcases List.mem_cons.mp hz with e | hz
    · rw [e]; exact List.mem_cons_self
    · rcases List.mem_append.mp hz with hz | hz
      · exact List.mem_cons_of_mem _ hz
      · have : z = X.top := by simpa using hz
        rw [this]; exact List.mem_cons_self
  exact (lw z hz2).hold
theorem Low.drop (ok : X.Ok) (lw : Low X) {k y : Int} (h : X.shot k = some y) : Low (X.dropN k y).1 := fun z hz => by
  have ok' := ok.drop h
  have l : Les X.S (X.dropN k y).1.S := Les.letGo X.S y
  have hz2 : z ∈ X.top :: X.shots.map (·.2) := by
    rcases List.mem_cons.mp hz with e | hz
    · rw [show z = X.top from e]; exact List.mem_cons_self
    · obtain ⟨p, hp, rfl⟩ := List.mem_map.mp hz
      exact List.mem_cons_of_mem _ (List.mem_map.mpr ⟨p, delI_sub _ _ p hp, rfl⟩)
  exact FlatN.les ok.t.toTInv ok'.t.toTInv l (ok'.t.there z hz) (lw z hz2)
theorem Low.back (ok : X.Ok) (lw : Low X) {k y : Int} (h : X.shot k = some y) : Low (X.turn X.S y).1 := by
  have hm : y ∈ X.top :: X.shots.map (·.2) := List.mem_cons_of_mem _ (List.mem_map.mpr ⟨_, findI_mem h, rfl⟩)
  obtain ⟨rs, c, e⟩ := ok.br y hm
  exact lw.turn ok (ok.t.mid (ok.shotIs h)) (Ext.refl _) (isBr_of e) (lw y hm)
end
/-! ### two views told apart -/
def putAll (acc more : Rw) : Rw := more.foldl (fun acc r => putR acc r.1 r.2) acc
theorem putAll_srt : ∀ (more : Rw) {acc : Rw}, SrR acc → SrR (putAll acc more)
  | [], _, h => h
  | r :: more, _, h => putAll_srt more (h.put r.1 r.2)
theorem putAll_is : ∀ (more : Rw) (acc : Rw) (k : Str), (findR (putAll acc more) k).isSome = ((findR acc k).isSome || (findR more k).isSome)
  | [], acc, k => by show (findR acc k).isSome = _; rw [findR_nil]; simp
  | r :: more, acc, k => by
    show (findR (putAll (putR acc r.1 r.2) more) k).isSome = _
    rw [putAll_is more, findR_putR, findR_cons]
    by_cases q : k = r.1
    · rw [if_pos q, if_pos q.symm]; simp
    · rw [if_neg q, if_neg (fun e => q e.symm)]
/-- the names of two branches' rows, rising -/
def uniN (a b : Rw) : List Str := (putAll (putAll [] a) b).map (·.1)
theorem uniN_srt (a b : Rw) : (uniN a b).Pairwise (fun x y => ltS x y = true) := List.pairwise_map.mpr (putAll_srt b (putAll_srt a List.Pairwise.nil))
theorem mem_uniN {a b : Rw} {k : Str} : k ∈ uniN a b ↔ (findR a k).isSome = true ∨ (findR b k).isSome = true := by
  have h : k ∈ uniN a b ↔ (findR (putAll (putAll [] a) b) k).isSome = true := by
    unfold uniN
    have := findR_none (m := putAll (putAll [] a) b) (n := k)
    constructor
    · intro hm
      cases e : findR (putAll (putAll [] a) b) k with
      | some y => rfl
      | none => exact absurd hm (this.mp e)
    · intro hs
      refine Decidable.byContradiction fun hn => ?_
      rw [this.mpr hn] at hs
      cases hs
  rw [h, putAll_is, putAll_is, findR_nil, Option.isSome_none, Bool.false_or, Bool.or_eq_true]
/-- what compare tells: each place whose number changed, and how many places were looked at -/
def cmpF (S : PS) : Nat → List Str → Option Int → Option Int → List (List Str × V × V) × Nat
  | 0, _, _, _ => ([], 0)
  | n + 1, p, a, b => if a = b then ([], 0) else
    ((if numB (bxO S a) = numB (bxO S b) then [] else [(p, numB (bxO S a), numB (bxO S b))]) ++ (((uniN (rowsO S a) (rowsO S b)).map fun m => cmpF S n (p ++ [m]) (nextF S a m) (nextF S b m)).map (·.1)).flatten,
      1 + (((uniN (rowsO S a) (rowsO S b)).map fun m => cmpF S n (p ++ [m]) (nextF S a m) (nextF S b m)).map (·.2)).sum)
theorem FlatN.zero {S : PS} {o : Option Int} (h : FlatN S 0 o) : o = Option.none := h [] (Nat.zero_le _)
theorem cmpF_zero {S : PS} {a b : Option Int} (p : List Str) (ha : FlatN S 0 a) (hb : FlatN S 0 b) : a = b ∧ cmpF S 0 p a b = ([], 0) := ⟨(FlatN.zero ha).trans (FlatN.zero hb).symm, rfl⟩
/-- more than enough depth changes nothing -/
theorem cmpF_more {S : PS} : ∀ (n : Nat) (p : List Str) (a b : Option Int), FlatN S n a → FlatN S n b → cmpF S (n + 1) p a b = cmpF S n p a b
  | 0, p, a, b, ha, hb => by
    unfold cmpF
    rw [if_pos ((FlatN.zero ha).trans (FlatN.zero hb).symm)]
  | n + 1, p, a, b, ha, hb => by
    have ih : ∀ m, cmpF S (n + 1) (p ++ [m]) (nextF S a m) (nextF S b m) = cmpF S n (p ++ [m]) (nextF S a m) (nextF S b m) := fun m => cmpF_more n _ _ _ (ha.next m) (hb.next m)
    rw [cmpF, cmpF]
    simp only [ih]
end My
namespace My
open PySem PySem.Spec PyProof.Rows L2
/-! ### what stands at which places of a tree -/
def AtB (S : PS) (o : Option Int) (ns : List Str) : Option Bx := bxO S (walkF S o ns)
theorem AtB.cons (S : PS) (o : Option Int) (m : Str) (ns : List Str) : AtB S o (m :: ns) = AtB S (nextF S o m) ns := rfl
theorem AtB.nil (S : PS) (o : Option Int) : AtB S o [] = bxO S o := rfl
theorem AtB.none (S : PS) (ns : List Str) : AtB S Option.none ns = Option.none := by
  unfold AtB
  rw [walkF_none] <;> rfl
theorem AtB.ext {S S' : PS} (lo : Lo S) (x : Ext S S') : ∀ (ns : List Str) {o : Option Int}, (∀ z, o = some z → z ≤ S.made) → AtB S' o ns = AtB S o ns
  | [], o, ho => by
    cases o with
    | none => rfl
    | some z => exact x.same z (ho z rfl)
  | m :: ns, o, ho => by
    have e : nextF S' o m = nextF S o m := by unfold nextF; rw [x.rows ho]
    rw [AtB.cons, AtB.cons, e]
    exact AtB.ext lo x ns fun z q => lo _ _ _ q
theorem AtB.hold (S : PS) (y : Int) : ∀ (ns : List Str) (o : Option Int), AtB (S.hold y) o ns = AtB S o ns
  | [], o => bxO_hold S y o
  | m :: ns, o => by
    have e : nextF (S.hold y) o m = nextF S o m := by
      cases o with
      | none => rfl
      | some z => unfold nextF; rw [rowsO_bx, rowsO_bx, bxO_hold]
    rw [AtB.cons, AtB.cons, e]
    exact AtB.hold S y ns _
theorem AtB.les {S S' : PS} {R R' : List Int} (h : TInv S R) (h' : TInv S' R') (l : Les S S') {z : Int} (hz : (S'.box z).isSome = true) (ns : List Str) : AtB S' (some z) ns = AtB S (some z) ns := by
  have hle : z ≤ S.made := by
    obtain ⟨x, ex⟩ := Option.isSome_iff_exists.mp hz
    have := (h'.ok.dom z x ex).2
    rw [l.made] at this
    exact this
  exact (walk_same h h' (fun z b c _ e => l.sub z b c e) ns (some z) (fun y e => by cases e; exact hz) (fun y e => by cases e; exact hle)).2
/-- a way led to a new box: what stands below the new top -/
theorem lead_at {S S0 : PS} {R : List Int} (hi : TInv S R) (h0 : Lo S0) (x0 : Ext S S0) {z : Int} (hz : z ≤ S0.made) : ∀ (pa : List Str) (o : Option Int), Fit S o →
    (∀ ns b, AtB (leadF (pairsF S o pa) S0 z).1 (some (leadF (pairsF S o pa) S0 z).2) ns = some b → (ns.length < pa.length ∧ ns <+: pa ∧ isBr (some b) = true) ∨ (∃ r, ns = pa ++ r ∧ AtB S0 (some z) r = some b) ∨ AtB S o ns = some b) ∧
    Lo (leadF (pairsF S o pa) S0 z).1 ∧ (leadF (pairsF S o pa) S0 z).2 ≤ (leadF (pairsF S o pa) S0 z).1.made
  | [], o, _ => ⟨fun ns b e => .inr (.inl ⟨ns, rfl, e⟩), h0, hz⟩
  | m :: pa, o, f => by
    have f2 : Fit S (nextF S o m) := fun y ey => (hi.low ey).1
    obtain ⟨ih, lo, le⟩ := lead_at hi h0 x0 hz pa (nextF S o m) f2
    have hle : ∀ y, o = some y → y ≤ S0.made := fun y ey => by have := f.le hi y ey; have := x0.made; omega
    show (∀ ns b, AtB (leadF ((o, m) :: pairsF S (nextF S o m) pa) S0 z).1 (some (leadF ((o, m) :: pairsF S (nextF S o m) pa) S0 z).2) ns = some b → (ns.length < pa.length + 1 ∧ ns <+: m :: pa ∧ isBr (some b) = true) ∨ (∃ r, ns = m :: pa ++ r ∧ AtB S0 (some z) r = some b) ∨ AtB S o ns = some b) ∧ Lo (leadF ((o, m) :: pairsF S (nextF S o m) pa) S0 z).1 ∧ (leadF ((o, m) :: pairsF S (nextF S o m) pa) S0 z).2 ≤ (leadF ((o, m) :: pairsF S (nextF S o m) pa) S0 z).1.made
    rw [leadF_cons]
    dsimp only
    generalize hL : leadF (pairsF S (nextF S o m) pa) S0 z = L at ih lo le ⊢
    have xL : Ext S0 L.1 := by rw [← hL]; exact Ext.lead _ _ _
    have er : rowsO L.1 o = rowsO S o := by rw [xL.rows hle, x0.rows (fun y ey => f.le hi y ey)]
    have hb := bxO_mkB L.1 (putR (rowsO L.1 o) m L.2) ((L.1.made : Int) + 1)
    rw [if_pos rfl] at hb
    have hrow : ∀ k y, findR (putR (rowsO L.1 o) m L.2) k = some y → y ≤ L.1.made := fun k y e => by
      rw [findR_putR] at e
      split at e
      · cases e; exact le
      · exact lo o k y e
    refine ⟨fun ns b e => ?_, lo.mkB hrow, by rw [mkB_made]; omega⟩
    cases ns with
    | nil =>
      rw [AtB.nil, hb] at e
      cases e
      exact .inl ⟨by simp, List.nil_prefix, rfl⟩
    | cons k ns =>
      have en : nextF (mkB L.1 (putR (rowsO L.1 o) m L.2)) (some ((L.1.made : Int) + 1)) k = findR (putR (rowsO L.1 o) m L.2) k := by
        unfold nextF
        rw [rowsO_bx, hb] <;> rfl
      rw [AtB.cons, en, findR_putR] at e
      by_cases q : k = m
      · rw [if_pos q, AtB.ext lo (Ext.mkB _ _) ns (fun y e => by cases e; exact le)] at e
        subst q
        rcases ih ns b e with ⟨h1, h2, h3⟩ | ⟨r, h1, h2⟩ | h
        · exact .inl ⟨by rw [List.length_cons]; omega, List.cons_prefix_cons.mpr ⟨rfl, h2⟩, h3⟩
        · exact .inr (.inl ⟨r, by rw [h1] <;> rfl, h2⟩)
        · exact .inr (.inr h)
      · rw [if_neg q, er] at e
        have hy : ∀ y, findR (rowsO S o) k = some y → y ≤ S.made := fun y e => (hi.low (o := o) (n := k) e).2.1
        rw [AtB.ext (Lo.of hi) ((x0.trans xL).trans (Ext.mkB _ _)) ns hy] at e
        exact .inr (.inr e)
/-! ### all trees of a store within given paths -/
def Pre (D : List (List Str)) (ns : List Str) : Prop := ns = [] ∨ ∃ p ∈ D, ns <+: p
/-- each place lies on a path of D, each leaf at the end of one -/
def InD (S : PS) (D : List (List Str)) (z : Int) : Prop := ∀ ns b, AtB S (some z) ns = some b → Pre D ns ∧ (isLf (some b) = true → ns ∈ D)
structure Wth (X : TS) (D : List (List Str)) : Prop where
  tr : ∀ z ∈ X.top :: X.shots.map (·.2), InD X.S D z
  ln : ∀ p ∈ D, 1 ≤ p.length ∧ p.length ≤ 8
theorem Pre.mono {D D' : List (List Str)} {ns : List Str} (h : Pre D ns) (hs : ∀ p ∈ D, p ∈ D') : Pre D' ns := h.imp id fun ⟨p, hp, q⟩ => ⟨p, hs p hp, q⟩
theorem Wth.mono {X : TS} {D : List (List Str)} (w : Wth X D) {p : List Str} (hp : 1 ≤ p.length ∧ p.length ≤ 8) : Wth X (D ++ [p]) :=
  ⟨fun z hz ns b e => ⟨(w.tr z hz ns b e).1.mono fun q hq => List.mem_append_left _ hq, fun l => List.mem_append_left _ ((w.tr z hz ns b e).2 l)⟩, fun q hq => (List.mem_append.mp hq).elim (w.ln q) fun h => by rw [List.mem_singleton.mp h]; exact hp⟩
theorem Wth.new : Wth TS.new [] := by
  refine ⟨fun z hz => ?_, fun p hp => nomatch hp⟩
  have e : z = 1 := by simpa [TS.new] using hz
  subst e
  have hb : bxO TS.new.S (some 1) = some (.branch []) := bxO_some (c := 1) (by rw [TS.new_box, if_pos rfl])
  intro ns b e
  cases ns with
  | nil =>
    rw [AtB.nil, hb] at e
    cases e
    exact ⟨.inl rfl, fun l => nomatch l⟩
  | cons m ns =>
    have en : nextF TS.new.S (some 1) m = none := by unfold nextF; rw [rowsO_bx, hb] <;> rfl
    rw [AtB.cons, en, AtB.none] at e
    cases e
section
variable {X : TS} {D : List (List Str)}
theorem InD.hold {S : PS} {y z : Int} (h : InD S D z) : InD (S.hold y) D z := fun ns b e => h ns b (by rw [← e, AtB.hold])
theorem Wth.turn (ok : X.Ok) (w : Wth X D) {S : PS} {t : Int} (tm : TMid S (X.top :: X.shots.map (·.2)) t) (ext : Ext X.S S) (hb : isBr (bxO S (some t)) = true) (hf : InD S D t) : Wth (X.turn S t).1 D := ⟨fun z hz => by
  have ok' := ok.turn tm ext hb
  have l : Les (S.hold t) (X.turn S t).1.S := Les.letGo (S.hold t) X.top
  have f : InD (S.hold t) D z := by
    rcases List.mem_cons.mp hz with e | hz
    · rw [show z = t from e]
      exact hf.hold
    · have hz : z ∈ X.shots.map (·.2) := hz
      refine InD.hold fun ns b e => w.tr z (List.mem_cons_of_mem _ hz) ns b ?_
      rw [← e]
      exact (AtB.ext (Lo.of ok.t.toTInv) ext ns (fun y e => by cases e; exact ok.boxLe (List.mem_cons_of_mem _ hz))).symm
  exact fun ns b e => f ns b (by rw [← e]; exact (AtB.les (tm.toTInv.hold tm.is) ok'.t.toTInv l (ok'.t.there z hz) ns).symm), w.ln⟩
theorem Wth.put (ok : X.Ok) (w : Wth X D) {ns : List Str} (hp : PathL ns) (n : Int) (hm : X.S.made ≤ 2800) : Wth (X.putN ns n).1 (D ++ [ns]) := by
  have h8 := hp.le
  have tm := ok.putMid hp.ok n (by omega)
  have h1 : 1 ≤ ns.length := List.length_pos_iff.mpr hp.ne
  refine (w.mono ⟨h1, h8⟩).turn ok tm (ok.putExt ns n) (isBr_lead _ _ (pairsF_ne _ _ hp.ne)) fun q b e => ?_
  have hL0 : Lo (X.S.new (.leaf n)) := Lo.of (ok.t.leaf n (by omega)).toTInv
  have hb : bxO (X.S.new (.leaf n)) (some ((X.S.made : Int) + 1)) = some (.leaf n) := by rw [bxO_new, if_pos rfl]
  obtain ⟨L, _, _⟩ := lead_at ok.t.toTInv hL0 (Ext.new X.S (.leaf n)) (z := (X.S.made : Int) + 1) (by show _ ≤ ((X.S.made + 1 : Nat) : Int); omega) ns (some X.top) ok.fit
  rcases L q b e with ⟨_, p1, p2⟩ | ⟨r, rfl, p2⟩ | p
  · refine ⟨.inr ⟨ns, List.mem_append_right _ List.mem_cons_self, p1⟩, fun l => ?_⟩
    cases b with
    | leaf v => cases p2
    | branch rs => cases l
  · have er : r = [] := by
      cases r with
      | nil => rfl
      | cons m r =>
        have en : nextF (X.S.new (.leaf n)) (some ((X.S.made : Int) + 1)) m = none := by unfold nextF; rw [rowsO_bx, hb] <;> rfl
        rw [AtB.cons, en, AtB.none] at p2
        cases p2
    rw [er, List.append_nil]
    exact ⟨.inr ⟨ns, List.mem_append_right _ List.mem_cons_self, List.prefix_rfl⟩, fun _ => List.mem_append_right _ List.mem_cons_self⟩
  · exact (w.mono ⟨h1, h8⟩).tr X.top List.mem_cons_self q b p
theorem Wth.cut (ok : X.Ok) (w : Wth X D) {i : List Str} {l : Str} (h8 : i.length ≤ 8) (hok : ∀ m ∈ i, okN m = true) (hm : X.S.made ≤ 2800) (hw : (walkF X.S (some X.top) (i ++ [l])).isSome = true) : Wth (X.cutN i l).1 D := by
  have tm := ok.cutMid (i := i) (l := l) hok (by omega)
  have hbr : isBr (bxO (X.cutS i l).1 (some (X.cutS i l).2)) = true := by
    cases i with
    | nil =>
      show isBr (bxO (mkB X.S _) (some ((X.S.made : Int) + 1))) = true
      rw [bxO_mkB, if_pos rfl] <;> rfl
    | cons m i => exact isBr_lead _ _ (pairsF_ne _ _ (by simp))
  refine w.turn ok tm (ok.cutExt i l) hbr fun q b e => ?_
  have hrow : ∀ m y, findR (delR (rowsO X.S (walkF X.S (some X.top) i)) l) m = some y → y ≤ X.S.made := fun m y e => by
    rw [findR_delR] at e
    split at e
    · cases e
    · exact Lo.of ok.t.toTInv _ m y e
  have hL0 := (Lo.of ok.t.toTInv).mkB hrow
  have x0 := Ext.mkB X.S (delR (rowsO X.S (walkF X.S (some X.top) i)) l)
  have hb := bxO_mkB X.S (delR (rowsO X.S (walkF X.S (some X.top) i)) l) ((X.S.made : Int) + 1)
  rw [if_pos rfl] at hb
  -- what was cut stood below i
  obtain ⟨y, ey⟩ := Option.isSome_iff_exists.mp hw
  have pi : Pre D i := by
    obtain ⟨x, ex⟩ := Option.isSome_iff_exists.mp (ok.t.toTInv.walk (i ++ [l]) ok.fit y ey)
    have z := (w.tr X.top List.mem_cons_self (i ++ [l]) x.1 (by unfold AtB; rw [ey]; exact bxO_some (c := x.2) ex)).1
    rcases z with z | ⟨p, hp, z⟩
    · simp at z
    · exact .inr ⟨p, hp, (List.prefix_append i [l]).trans z⟩
  obtain ⟨L, _, _⟩ := lead_at ok.t.toTInv hL0 x0 (z := (X.S.made : Int) + 1) (by rw [mkB_made]; omega) i (some X.top) ok.fit
  rcases L q b e with ⟨_, p1, p2⟩ | ⟨r, rfl, p2⟩ | p
  · refine ⟨?_, fun l => ?_⟩
    · rcases pi with pi | ⟨p, hp, pi⟩
      · rw [pi] at p1
        exact .inl (List.prefix_nil.mp p1)
      · exact .inr ⟨p, hp, p1.trans pi⟩
    · cases b with
      | leaf v => cases p2
      | branch rs => cases l
  · cases r with
    | nil =>
      rw [AtB.nil, hb] at p2
      cases p2
      rw [List.append_nil]
      exact ⟨pi, fun l => nomatch l⟩
    | cons m r =>
      have en : nextF (mkB X.S (delR (rowsO X.S (walkF X.S (some X.top) i)) l)) (some ((X.S.made : Int) + 1)) m = findR (delR (rowsO X.S (walkF X.S (some X.top) i)) l) m := by unfold nextF; rw [rowsO_bx, hb] <;> rfl
      rw [AtB.cons, en, findR_delR] at p2
      by_cases q : m = l
      · rw [if_pos q, AtB.none] at p2
        cases p2
      · have hy : ∀ y, findR (rowsO X.S (walkF X.S (some X.top) i)) m = some y → y ≤ X.S.made := fun y e => Lo.of ok.t.toTInv _ m y e
        rw [if_neg q, AtB.ext (Lo.of ok.t.toTInv) x0 r hy] at p2
        refine w.tr X.top List.mem_cons_self (i ++ m :: r) b ?_
        unfold AtB at p2 ⊢
        rw [walkF_app]
        exact p2
  · exact w.tr X.top List.mem_cons_self q b p
theorem Wth.snap (w : Wth X D) : Wth X.snapF D := ⟨fun z hz => by
  have hz : z ∈ X.top :: (X.shots ++ [((X.taken : Int) + 1, X.top)]).map (·.2) := hz
  have hz2 : z ∈ X.top :: X.shots.map (·.2) := by
    rw [List.map_append] at hz
    rcases List.mem_cons.mp hz with e | hz
    · rw [e]; exact List.mem_cons_self
    · rcases List.mem_append.mp hz with hz | hz
      · exact List.mem_cons_of_mem _ hz
      · have : z = X.top := by simpa using hz
        rw [this]; exact List.mem_cons_self
  exact (w.tr z hz2).hold, w.ln⟩
theorem Wth.drop (ok : X.Ok) (w : Wth X D) {k y : Int} (h : X.shot k = some y) : Wth (X.dropN k y).1 D := ⟨fun z hz => by
  have ok' := ok.drop h
  have l : Les X.S (X.dropN k y).1.S := Les.letGo X.S y
  have hz2 : z ∈ X.top :: X.shots.map (·.2) := by
    rcases List.mem_cons.mp hz with e | hz
    · rw [show z = X.top from e]; exact List.mem_cons_self
    · obtain ⟨p, hp, rfl⟩ := List.mem_map.mp hz
      exact List.mem_cons_of_mem _ (List.mem_map.mpr ⟨p, delI_sub _ _ p hp, rfl⟩)
  exact fun ns b e => w.tr z hz2 ns b (by rw [← e]; exact (AtB.les ok.t.toTInv ok'.t.toTInv l (ok'.t.there z hz) ns).symm), w.ln⟩
theorem Wth.back (ok : X.Ok) (w : Wth X D) {k y : Int} (h : X.shot k = some y) : Wth (X.turn X.S y).1 D := by
  have hm : y ∈ X.top :: X.shots.map (·.2) := List.mem_cons_of_mem _ (List.mem_map.mpr ⟨_, findI_mem h, rfl⟩)
  obtain ⟨rs, c, e⟩ := ok.br y hm
  exact w.turn ok (ok.t.mid (ok.shotIs h)) (Ext.refl _) (isBr_of e) (w.tr y hm)
theorem Wth.flat (ok : X.Ok) (w : Wth X D) {z : Int} (hz : z ∈ X.top :: X.shots.map (·.2)) : FlatN X.S 9 (some z) := fun ns hn => by
  cases e : walkF X.S (some z) ns with
  | none => rfl
  | some y =>
    obtain ⟨x, ex⟩ := Option.isSome_iff_exists.mp (ok.t.toTInv.walk ns (fun v e => by cases e; exact ok.t.there z hz) y e)
    rcases (w.tr z hz ns x.1 (by unfold AtB; rw [e]; exact bxO_some (c := x.2) ex)).1 with q | ⟨p, hp, q⟩
    · rw [q] at hn
      simp at hn
    · have := q.length_le
      have := (w.ln p hp).2
      omega
end
end My
namespace My
open PySem PySem.Spec PyProof.Rows L2
/-! ### paths in order -/
def ltP (p q : List Str) : Bool := lexLt itemOrd (XS.pk (p.map Sum.inr)) (XS.pk (q.map Sum.inr))
theorem ltP_irr (p : List Str) : ltP p p = false := lex_irrefl _
theorem ltP_trans {p q r : List Str} (h : ltP p q = true) (g : ltP q r = true) : ltP p r = true := lex_trans _ _ _ h g
theorem ltP_as {p q : List Str} (h : ltP p q = true) : ltP q p = false := by
  cases e : ltP q p with
  | false => rfl
  | true =>
    have := ltP_trans h e
    rw [ltP_irr] at this
    cases this
theorem pk_inj : ∀ {p q : List Str}, XS.pk (p.map Sum.inr) = XS.pk (q.map Sum.inr) → p = q
  | [], [], _ => rfl
  | [], _ :: _, h => by cases h
  | _ :: _, [], h => by cases h
  | x :: p, y :: q, h => by
    have h1 := (List.cons.inj h).1
    have h2 := pk_inj (p := p) (q := q) (List.cons.inj h).2
    have h3 : x.cps.toList = y.cps.toList := Sum.inr.inj h1
    have h4 : x = y := by
      obtain ⟨⟨a⟩⟩ := x
      obtain ⟨⟨b⟩⟩ := y
      simpa using h3
    rw [h2, h4]
theorem ltP_or {p q : List Str} (h1 : ltP p q = false) (h2 : ltP q p = false) : p = q := pk_inj (lex_total _ _ h1 h2)
theorem ltP_nil (m : Str) (q : List Str) : ltP [] (m :: q) = true := rfl
theorem ltP_same (m : Str) (p q : List Str) : ltP (m :: p) (m :: q) = ltP p q := lex_self _ _ _
theorem ltP_lt {m k : Str} (h : ltS m k = true) (p q : List Str) : ltP (m :: p) (k :: q) = true := lex_true.mpr (.inl h)
theorem ltP_app (a : List Str) (p q : List Str) : ltP (a ++ p) (a ++ q) = ltP p q := by
  induction a with
  | nil => rfl
  | cons m a ih => rw [List.cons_append, List.cons_append, ltP_same, ih]
/-- two lists in the same strict order with the same members are the same -/
theorem srt_ext {α : Type} {lt : α → α → Prop} (irr : ∀ a, ¬ lt a a) (tr : ∀ a b c, lt a b → lt b c → lt a c) : ∀ {l k : List α}, l.Pairwise lt → k.Pairwise lt → (∀ x, x ∈ l ↔ x ∈ k) → l = k
  | [], [], _, _, _ => rfl
  | [], y :: k, _, _, h => absurd ((h y).mpr List.mem_cons_self) List.not_mem_nil
  | x :: l, [], _, _, h => absurd ((h x).mp List.mem_cons_self) List.not_mem_nil
  | x :: l, y :: k, hl, hk, h => by
    obtain ⟨l1, l2⟩ := List.pairwise_cons.mp hl
    obtain ⟨k1, k2⟩ := List.pairwise_cons.mp hk
    have e : x = y := by
      rcases List.mem_cons.mp ((h x).mp List.mem_cons_self) with e | m
      · exact e
      · rcases List.mem_cons.mp ((h y).mpr List.mem_cons_self) with e | m2
        · exact e.symm
        · exact absurd (tr _ _ _ (l1 y m2) (k1 x m)) (irr x)
    subst e
    rw [srt_ext irr tr l2 k2 fun z => ?_]
    have hz := h z
    rw [List.mem_cons, List.mem_cons] at hz
    constructor
    · intro m
      rcases hz.mp (.inr m) with e | m2
      · rw [e] at m
        exact absurd (l1 _ m) (irr _)
      · exact m2
    · intro m
      rcases hz.mpr (.inr m) with e | m2
      · rw [e] at m
        exact absurd (k1 _ m) (irr _)
      · exact m2
/-- blocks, one for each of the rising names, each with its name ahead -/
theorem blocks {β : Type} (p : List Str) (pa : β → List Str) (f : Str → List β) : ∀ (ns : List Str), ns.Pairwise (fun a b => ltS a b = true) → (∀ m ∈ ns, ∀ r ∈ f m, ∃ t, pa r = p ++ m :: t) → (∀ m ∈ ns, (f m).Pairwise fun r q => ltP (pa r) (pa q) = true) → ((ns.map f).flatten).Pairwise fun r q => ltP (pa r) (pa q) = true
  | [], _, _, _ => List.Pairwise.nil
  | m :: ns, hs, h1, h2 => by
    obtain ⟨s1, s2⟩ := List.pairwise_cons.mp hs
    rw [List.map_cons, List.flatten_cons, List.pairwise_append]
    refine ⟨h2 m List.mem_cons_self, blocks p pa f ns s2 (fun k hk => h1 k (List.mem_cons_of_mem _ hk)) (fun k hk => h2 k (List.mem_cons_of_mem _ hk)), fun r hr q hq => ?_⟩
    obtain ⟨L, hL, hq⟩ := List.mem_flatten.mp hq
    obtain ⟨k, hk, rfl⟩ := List.mem_map.mp hL
    obtain ⟨t, et⟩ := h1 m List.mem_cons_self r hr
    obtain ⟨u, eu⟩ := h1 k (List.mem_cons_of_mem _ hk) q hq
    rw [et, eu, ltP_app]
    exact ltP_lt (s1 k hk) t u
theorem mem_blocks {β : Type} {f : Str → List β} {ns : List Str} {r : β} : r ∈ (ns.map f).flatten ↔ ∃ m ∈ ns, r ∈ f m := by
  rw [List.mem_flatten]
  constructor
  · rintro ⟨L, hL, hr⟩
    obtain ⟨m, hm, rfl⟩ := List.mem_map.mp hL
    exact ⟨m, hm, hr⟩
  · rintro ⟨m, hm, hr⟩
    exact ⟨_, List.mem_map.mpr ⟨m, hm, rfl⟩, hr⟩
/-! ### what compare tells, place by place -/
def nAt (S : PS) (o : Option Int) (ns : List Str) : V := numB (AtB S o ns)
theorem nAt_none (S : PS) (ns : List Str) : nAt S none ns = .non := by unfold nAt; rw [AtB.none] <;> rfl
theorem cmpF_succ (S : PS) (n : Nat) (p : List Str) {a b : Option Int} (h : a ≠ b) : (cmpF S (n + 1) p a b).1 = (if numB (bxO S a) = numB (bxO S b) then [] else [(p, numB (bxO S a), numB (bxO S b))]) ++ ((uniN (rowsO S a) (rowsO S b)).map fun m => (cmpF S n (p ++ [m]) (nextF S a m) (nextF S b m)).1).flatten ∧
    (cmpF S (n + 1) p a b).2 = 1 + ((uniN (rowsO S a) (rowsO S b)).map fun m => (cmpF S n (p ++ [m]) (nextF S a m) (nextF S b m)).2).sum := by
  rw [cmpF, if_neg h, List.map_map, List.map_map]
  exact ⟨rfl, rfl⟩
theorem cmpF_same (S : PS) (n : Nat) (p : List Str) (a : Option Int) : cmpF S n p a a = ([], 0) := by
  cases n with
  | zero => rfl
  | succ n => rw [cmpF, if_pos rfl]
theorem cmpF_path {S : PS} : ∀ (n : Nat) (p : List Str) (a b : Option Int), (∀ r ∈ (cmpF S n p a b).1, ∃ t, r.1 = p ++ t) ∧ (cmpF S n p a b).1.Pairwise fun r q => ltP r.1 q.1 = true
  | 0, _, _, _ => ⟨fun r hr => (by cases hr), List.Pairwise.nil⟩
  | n + 1, p, a, b => by
    by_cases h : a = b
    · subst h
      rw [cmpF_same]
      exact ⟨fun r hr => (by cases hr), List.Pairwise.nil⟩
    · rw [(cmpF_succ S n p h).1]
      have h1 : ∀ m ∈ uniN (rowsO S a) (rowsO S b), ∀ r ∈ (cmpF S n (p ++ [m]) (nextF S a m) (nextF S b m)).1, ∃ t, r.1 = p ++ m :: t := fun m _ r hr => by
        obtain ⟨t, e⟩ := (cmpF_path n (p ++ [m]) (nextF S a m) (nextF S b m)).1 r hr
        exact ⟨t, by rw [e, List.append_assoc] <;> rfl⟩
      have h2 := blocks p (fun r : List Str × V × V => r.1) (fun m => (cmpF S n (p ++ [m]) (nextF S a m) (nextF S b m)).1) _ (uniN_srt (rowsO S a) (rowsO S b)) h1 fun m _ => (cmpF_path n (p ++ [m]) (nextF S a m) (nextF S b m)).2
      refine ⟨fun r hr => ?_, List.pairwise_append.mpr ⟨?_, h2, fun r hr q hq => ?_⟩⟩
      · rcases List.mem_append.mp hr with hr | hr
        · split at hr
          · cases hr
          · rw [List.mem_singleton.mp hr]
            exact ⟨[], by rw [List.append_nil]⟩
        · obtain ⟨m, hm, hr⟩ := mem_blocks.mp hr
          obtain ⟨t, e⟩ := h1 m hm r hr
          exact ⟨_, e⟩
      · split
        · exact List.Pairwise.nil
        · exact List.pairwise_singleton _ _
      · obtain ⟨m, hm, hq⟩ := mem_blocks.mp hq
        obtain ⟨t, e⟩ := h1 m hm q hq
        split at hr
        · cases hr
        · rw [List.mem_singleton.mp hr, e]
          have := ltP_app p [] (m :: t)
          rw [List.append_nil] at this
          rw [this]
          exact ltP_nil m t
theorem nAt_off {S : PS} {a b : Option Int} {m : Str} {ns : List Str} (h : nAt S (nextF S a m) ns ≠ nAt S (nextF S b m) ns) : m ∈ uniN (rowsO S a) (rowsO S b) := by
  rw [mem_uniN]
  cases e1 : findR (rowsO S a) m with
  | some y => exact .inl rfl
  | none =>
    cases e2 : findR (rowsO S b) m with
    | some y => exact .inr rfl
    | none =>
      refine absurd ?_ h
      show nAt S (findR (rowsO S a) m) ns = nAt S (findR (rowsO S b) m) ns
      rw [e1, e2]
theorem mem_cmpF {S : PS} : ∀ (n : Nat) (p : List Str) (a b : Option Int), FlatN S n a → FlatN S n b → ∀ r, r ∈ (cmpF S n p a b).1 ↔ ∃ ns, r = (p ++ ns, nAt S a ns, nAt S b ns) ∧ nAt S a ns ≠ nAt S b ns
  | 0, p, a, b, ha, hb, r => by
    have e1 := FlatN.zero ha
    have e2 := FlatN.zero hb
    subst e1 e2
    constructor
    · intro h
      cases h
    · rintro ⟨ns, _, h⟩
      exact absurd rfl h
  | n + 1, p, a, b, ha, hb, r => by
    by_cases h : a = b
    · subst h
      rw [cmpF_same]
      constructor
      · intro h
        cases h
      · rintro ⟨ns, _, h⟩
        exact absurd rfl h
    · rw [(cmpF_succ S n p h).1, List.mem_append, mem_blocks]
      constructor
      · rintro (hr | ⟨m, hm, hr⟩)
        · split at hr
          · cases hr
          · rw [List.mem_singleton.mp hr]
            exact ⟨[], by rw [List.append_nil] <;> rfl, by assumption⟩
        · obtain ⟨ns, e, ne⟩ := (mem_cmpF n (p ++ [m]) _ _ (ha.next m) (hb.next m) r).mp hr
          exact ⟨m :: ns, by rw [e, List.append_assoc] <;> rfl, ne⟩
      · rintro ⟨ns, e, ne⟩
        cases ns with
        | nil =>
          refine .inl ?_
          rw [if_neg (show ¬ numB (bxO S a) = numB (bxO S b) from ne), e, List.append_nil]
          exact List.mem_cons_self
        | cons m ns =>
          refine .inr ⟨m, nAt_off ne, (mem_cmpF n (p ++ [m]) _ _ (ha.next m) (hb.next m) r).mpr ⟨ns, ?_, ne⟩⟩
          rw [e, List.append_assoc] <;> rfl
/-- a list of paths in order, those of them where the numbers differ -/
def dueF (S : PS) (a b : Option Int) (L : List (List Str)) : List (List Str × V × V) := (L.filter fun ns => decide (nAt S a ns ≠ nAt S b ns)).map fun ns => (ns, nAt S a ns, nAt S b ns)
theorem due_cmp {S : PS} {a b : Option Int} (ha : FlatN S 9 a) (hb : FlatN S 9 b) {L : List (List Str)} (hs : L.Pairwise fun p q => ltP p q = true) (hm : ∀ ns, nAt S a ns ≠ nAt S b ns → ns ∈ L) : dueF S a b L = (cmpF S 9 [] a b).1 := by
  refine srt_ext (lt := fun r q : List Str × V × V => ltP r.1 q.1 = true) (fun r h => by rw [ltP_irr] at h; cases h) (fun _ _ _ h g => ltP_trans h g) (List.pairwise_map.mpr (hs.sublist List.filter_sublist)) (cmpF_path 9 [] a b).2 fun r => ?_
  rw [mem_cmpF 9 [] a b ha hb r]
  unfold dueF
  constructor
  · intro h
    obtain ⟨ns, hn, rfl⟩ := List.mem_map.mp h
    exact ⟨ns, rfl, of_decide_eq_true (List.mem_filter.mp hn).2⟩
  · rintro ⟨ns, rfl, ne⟩
    exact List.mem_map.mpr ⟨ns, List.mem_filter.mpr ⟨hm ns ne, decide_eq_true ne⟩, rfl⟩
/-- the other way round: the same places, the numbers exchanged -/
theorem uniN_comm (a b : Rw) : uniN a b = uniN b a := srt_ext (lt := fun x y => ltS x y = true) (fun a h => by rw [ltS_irr] at h; cases h) (fun _ _ _ h g => ltS_tr h g) (uniN_srt a b) (uniN_srt b a) fun x => by rw [mem_uniN, mem_uniN, Or.comm]
theorem cmpF_comm {S : PS} : ∀ (n : Nat) (p : List Str) (a b : Option Int), cmpF S n p b a = ((cmpF S n p a b).1.map fun r => (r.1, r.2.2, r.2.1), (cmpF S n p a b).2)
  | 0, _, _, _ => rfl
  | n + 1, p, a, b => by
    by_cases h : a = b
    · subst h
      rw [cmpF_same] <;> rfl
    · have h2 : b ≠ a := fun e => h e.symm
      obtain ⟨e1, e2⟩ := cmpF_succ S n p h
      obtain ⟨f1, f2⟩ := cmpF_succ S n p h2
      refine Prod.ext ?_ ?_
      · rw [f1]
        dsimp only
        rw [e1, List.map_append, List.map_flatten, List.map_map, uniN_comm]
        congr 1
        · by_cases q : numB (bxO S a) = numB (bxO S b)
          · rw [if_pos q, if_pos q.symm] <;> rfl
          · rw [if_neg q, if_neg fun z => q z.symm] <;> rfl
        · congr 1
          refine List.map_congr_left fun m _ => ?_
          rw [cmpF_comm n] <;> rfl
      · rw [f2]
        dsimp only
        rw [e2, uniN_comm]
        congr 2
        refine List.map_congr_left fun m _ => ?_
        rw [cmpF_comm n]
/-! ### how many places there are -/
def plF (S : PS) : Nat → List Str → Option Int → List (List Str)
  | 0, _, _ => []
  | _ + 1, _, none => []
  | n + 1, p, some z => p :: ((rowsO S (some z)).map fun r => plF S n (p ++ [r.1]) (some r.2)).flatten
def cntF (S : PS) : Nat → Option Int → Nat
  | 0, _ => 0
  | _ + 1, none => 0
  | n + 1, some z => 1 + ((rowsO S (some z)).map fun r => cntF S n (some r.2)).sum
theorem plF_len (S : PS) : ∀ (n : Nat) (p : List Str) (o : Option Int), (plF S n p o).length = cntF S n o
  | 0, _, _ => rfl
  | _ + 1, _, none => rfl
  | n + 1, p, some z => by
    unfold plF cntF
    rw [List.length_cons, List.length_flatten, List.map_map, Nat.add_comm]
    congr 2
    exact List.map_congr_left fun r _ => plF_len S n (p ++ [r.1]) (some r.2)
theorem findR_mem {rs : Rw} (h : SrR rs) {r : Str × Int} (hr : r ∈ rs) : findR rs r.1 = some r.2 := by
  induction rs with
  | nil => cases hr
  | cons q rs ih =>
    obtain ⟨h1, h2⟩ := List.pairwise_cons.mp h
    rw [findR_cons]
    rcases List.mem_cons.mp hr with e | hr
    · rw [e, if_pos rfl]
    · rw [if_neg fun e => ltS_ne (h1 r hr) e]
      exact ih h2 hr
theorem blocksR {β : Type} (p : List Str) (pa : β → List Str) (f : Str × Int → List β) : ∀ (rs : Rw), SrR rs → (∀ r ∈ rs, ∀ q ∈ f r, ∃ t, pa q = p ++ r.1 :: t) → (∀ r ∈ rs, (f r).Pairwise fun q u => ltP (pa q) (pa u) = true) → ((rs.map f).flatten).Pairwise fun q u => ltP (pa q) (pa u) = true
  | [], _, _, _ => List.Pairwise.nil
  | r :: rs, hs, h1, h2 => by
    obtain ⟨s1, s2⟩ := List.pairwise_cons.mp hs
    rw [List.map_cons, List.flatten_cons, List.pairwise_append]
    refine ⟨h2 r List.mem_cons_self, blocksR p pa f rs s2 (fun k hk => h1 k (List.mem_cons_of_mem _ hk)) (fun k hk => h2 k (List.mem_cons_of_mem _ hk)), fun q hq u hu => ?_⟩
    obtain ⟨L, hL, hu⟩ := List.mem_flatten.mp hu
    obtain ⟨k, hk, rfl⟩ := List.mem_map.mp hL
    obtain ⟨t, et⟩ := h1 r List.mem_cons_self q hq
    obtain ⟨v, ev⟩ := h1 k (List.mem_cons_of_mem _ hk) u hu
    rw [et, ev, ltP_app]
    exact ltP_lt (s1 k hk) t v
theorem plF_in {S : PS} {R : List Int} (hi : TInv S R) : ∀ (n : Nat) (p : List Str) (o : Option Int), Fit S o → (∀ q ∈ plF S n p o, ∃ ns, q = p ++ ns ∧ (AtB S o ns).isSome = true) ∧ (plF S n p o).Pairwise fun q u => ltP q u = true
  | 0, _, _, _ => ⟨fun q hq => (by cases hq), List.Pairwise.nil⟩
  | _ + 1, _, none, _ => ⟨fun q hq => (by cases hq), List.Pairwise.nil⟩
  | n + 1, p, some z, f => by
    obtain ⟨s1, _, s3⟩ := rowsO_srt hi (some z)
    have ih : ∀ r ∈ rowsO S (some z), _ := fun r hr => plF_in hi n (p ++ [r.1]) (some r.2) fun y e => by cases e; exact s3 r hr
    have h1 : ∀ r ∈ rowsO S (some z), ∀ q ∈ plF S n (p ++ [r.1]) (some r.2), ∃ t, q = p ++ r.1 :: t := fun r hr q hq => by
      obtain ⟨t, e, _⟩ := (ih r hr).1 q hq
      exact ⟨t, by rw [e, List.append_assoc] <;> rfl⟩
    unfold plF
    refine ⟨fun q hq => ?_, List.pairwise_cons.mpr ⟨fun q hq => ?_, blocksR p (fun q => q) (fun r => plF S n (p ++ [r.1]) (some r.2)) _ s1 h1 fun r hr => (ih r hr).2⟩⟩
    · rcases List.mem_cons.mp hq with e | hq
      · exact ⟨[], by rw [e, List.append_nil], by rw [AtB.nil, bxO_is]; exact f z rfl⟩
      · obtain ⟨L, hL, hq⟩ := List.mem_flatten.mp hq
        obtain ⟨r, hr, rfl⟩ := List.mem_map.mp hL
        obtain ⟨t, e, ht⟩ := (ih r hr).1 q hq
        refine ⟨r.1 :: t, by rw [e, List.append_assoc] <;> rfl, ?_⟩
        rw [AtB.cons, show nextF S (some z) r.1 = some r.2 from findR_mem s1 hr]
        exact ht
    · obtain ⟨L, hL, hq⟩ := List.mem_flatten.mp hq
      obtain ⟨r, hr, rfl⟩ := List.mem_map.mp hL
      obtain ⟨t, e⟩ := h1 r hr q hq
      have := ltP_app p [] (r.1 :: t)
      rw [List.append_nil] at this
      rw [e, this]
      exact ltP_nil _ _
def pres (D : List (List Str)) : List (List Str) := [] :: (D.map fun p => (List.range (p.length + 1)).map p.take).flatten
theorem mem_pres {D : List (List Str)} {ns : List Str} (h : Pre D ns) : ns ∈ pres D := by
  rcases h with h | ⟨p, hp, h⟩
  · rw [h]; exact List.mem_cons_self
  · refine List.mem_cons_of_mem _ (List.mem_flatten.mpr ⟨_, List.mem_map.mpr ⟨p, hp, rfl⟩, List.mem_map.mpr ⟨List.length ns, List.mem_range.mpr (Nat.lt_succ_of_le h.length_le), ?_⟩⟩)
    exact (List.prefix_iff_eq_take.mp h).symm
theorem pres_len {D : List (List Str)} (h : ∀ p ∈ D, p.length ≤ 8) : (pres D).length ≤ 1 + 9 * D.length := by
  unfold pres
  rw [List.length_cons, List.length_flatten, List.map_map]
  have : ∀ D : List (List Str), (∀ p ∈ D, p.length ≤ 8) → (D.map (List.length ∘ fun p => (List.range (p.length + 1)).map p.take)).sum ≤ 9 * D.length := fun D => by
    induction D with
    | nil => exact fun _ => Nat.le_refl _
    | cons p D ih =>
      intro h
      have h1 := h p List.mem_cons_self
      have h2 := ih fun q hq => h q (List.mem_cons_of_mem _ hq)
      rw [List.map_cons, List.sum_cons, List.length_cons]
      simp only [Function.comp_apply, List.length_map, List.length_range] at h2 ⊢
      omega
  have := this D h
  omega
theorem srt_nodup {l : List (List Str)} (h : l.Pairwise fun q u => ltP q u = true) : l.Nodup := h.imp fun {a b} e q => by rw [q, ltP_irr] at e; cases e
theorem Wth.cnt {X : TS} {D : List (List Str)} (ok : X.Ok) (w : Wth X D) {z : Int} (hz : z ∈ X.top :: X.shots.map (·.2)) (n : Nat) : cntF X.S n (some z) ≤ 1 + 9 * D.length := by
  obtain ⟨h1, h2⟩ := plF_in ok.t.toTInv n [] (some z) fun y e => by cases e; exact ok.t.there z hz
  rw [← plF_len X.S n []]
  refine Nat.le_trans (XS.nd_len _ (pres D) (srt_nodup h2) fun q hq => ?_) (pres_len fun p hp => (w.ln p hp).2)
  obtain ⟨ns, e, hb⟩ := h1 q hq
  obtain ⟨b, hb⟩ := Option.isSome_iff_exists.mp hb
  rw [e, List.nil_append]
  exact mem_pres (w.tr z hz ns b hb).1
theorem nAt_leaf {S : PS} {o : Option Int} {ns : List Str} (h : nAt S o ns ≠ .non) : ∃ n, AtB S o ns = some (.leaf n) := by
  unfold nAt at h
  cases e : AtB S o ns with
  | none => rw [e] at h; exact absurd rfl h
  | some b =>
    cases b with
    | leaf n => exact ⟨n, rfl⟩
    | branch rs => rw [e] at h; exact absurd rfl h
theorem Wth.nAt {X : TS} {D : List (List Str)} (w : Wth X D) {a b : Int} (ha : a ∈ X.top :: X.shots.map (·.2)) (hb : b ∈ X.top :: X.shots.map (·.2)) {ns : List Str} (h : nAt X.S (some a) ns ≠ nAt X.S (some b) ns) : ns ∈ D := by
  by_cases e : My.nAt X.S (some a) ns = .non
  · rw [e] at h
    obtain ⟨n, q⟩ := nAt_leaf fun z => h z.symm
    exact (w.tr b hb ns _ q).2 rfl
  · obtain ⟨n, q⟩ := nAt_leaf e
    exact (w.tr a ha ns _ q).2 rfl
theorem Wth.cmp {X : TS} {D : List (List Str)} (ok : X.Ok) (w : Wth X D) {a b : Int} (ha : a ∈ X.top :: X.shots.map (·.2)) (hb : b ∈ X.top :: X.shots.map (·.2)) : (cmpF X.S 9 [] (some a) (some b)).1.length ≤ D.length := by
  rw [← List.length_map (f := fun r : List Str × V × V => r.1)]
  refine XS.nd_len _ D (srt_nodup (List.pairwise_map.mpr (cmpF_path 9 [] (some a) (some b)).2)) fun q hq => ?_
  obtain ⟨r, hr, rfl⟩ := List.mem_map.mp hq
  obtain ⟨ns, e, ne⟩ := (mem_cmpF 9 [] _ _ (w.flat ok ha) (w.flat ok hb) r).mp hr
  rw [e]
  exact w.nAt ha hb ne
/-- how many pairs of places are walked at two places: the alike ones too, but nothing below them -/
def lookF (S : PS) : Nat → Option Int → Option Int → Nat
  | 0, _, _ => 1
  | n + 1, a, b => if a = b then 1 else 1 + ((uniN (rowsO S a) (rowsO S b)).map fun m => lookF S n (nextF S a m) (nextF S b m)).sum
theorem lookF_same (S : PS) (n : Nat) (a : Option Int) : lookF S n a a = 1 := by
  cases n with
  | zero => rfl
  | succ n => rw [lookF, if_pos rfl]
theorem lookF_succ (S : PS) (n : Nat) {a b : Option Int} (h : a ≠ b) : lookF S (n + 1) a b = 1 + ((uniN (rowsO S a) (rowsO S b)).map fun m => lookF S n (nextF S a m) (nextF S b m)).sum := by rw [lookF, if_neg h]
end My
namespace My
open PySem PySem.Spec PyProof.Rows L2
/-! ### one list is changed, and things are made -/
structure Gl (l : Addr) (H H' : Hp) : Prop where
  keep : ∀ b o, H b = some o → b ≠ l → (∀ ps, o ≠ HO.tbl ps) → H' b = some o
  tab : ∀ b, GxR.TabG H b → GxR.TabG H' b
  there : ∀ b o, H b = some o → ∃ o', H' b = some o'
section
variable {l : Addr} {H H1 H2 : Hp}
theorem Gl.of (g : Gr H H1) : Gl l H H1 := ⟨fun b o e _ n => g.keep b o e n, g.tab, g.there⟩
theorem Gl.trans (a : Gl l H H1) (b : Gl l H1 H2) : Gl l H H2 := ⟨fun c o e nl n => b.keep c o (a.keep c o e nl n) nl n, fun c t => b.tab c (a.tab c t), fun c o e => by
  obtain ⟨o1, e1⟩ := a.there c o e
  exact b.there c o1 e1⟩
theorem Gl.put {xs ys : List V} (e : H l = some (.lst xs)) : Gl l H (upd H l (.lst ys)) := ⟨fun b o q n _ => by rw [upd_ne n]; exact q,
  fun b ⟨ps, q, t⟩ => ⟨ps, by rw [upd_ne (ne_of q e (by intro z; cases z))]; exact q, t⟩, fun b o q => by
    by_cases n : b = l
    · exact ⟨_, by rw [n]; exact upd_same⟩
    · exact ⟨o, by rw [upd_ne n]; exact q⟩⟩
theorem Gl.gr (g : Gr H H1) (hl : H l = none) (x : Gl l H1 H2) : Gr H H2 := ⟨fun b o e n => x.keep b o (g.keep b o e n) (fun z => by rw [z, hl] at e; cases e) n, fun b t => x.tab b (g.tab b t), fun b o e => by
  obtain ⟨o1, e1⟩ := g.there b o e
  exact x.there b o1 e1⟩
theorem Gl.free (x : Gl l H H1) {b : Addr} (h : H1 b = none) : H b = none := by
  cases e : H b with
  | none => rfl
  | some o =>
    obtain ⟨o', e'⟩ := x.there b o e
    rw [h] at e'
    cases e'
theorem Gl.t {K : PySem.W.Frag} {ys : List V} (e : H l = some (.lst ys)) (x : Gl l H H1) {a : Addr} {xs : List V} (h : SqT K H a xs) : SqT K H1 a xs := by
  rcases h with (h | ⟨o, h⟩) | h
  · exact .inl (.inl (x.keep _ _ h (ne_of h e (by intro z; cases z)) (fun _ z => by cases z)))
  · exact .inl (.inr ⟨o, x.keep _ _ h (ne_of h e (by intro z; cases z)) (fun _ z => by cases z)⟩)
  · exact .inr h
theorem Gl.frz {ys : List V} (e : H l = some (.lst ys)) (x : Gl l H H1) : Frz H H1 := fun p o u h => x.keep _ _ h (ne_of h e (by intro z; cases z)) (fun _ z => by cases z)
theorem Gl.pile {K : PySem.W.Frag} {C : Addr} {A : PA} {S : PS} {ys : List V} (e : H l = some (.lst ys)) (x : Gl l H H1) (h : PileAt K C H A S) : PileAt K C H1 A S := by
  obtain ⟨kc, kn, kr, e1, e2, e3, d⟩ := h.dcts
  have k : ∀ {b : Addr} {o : HO}, H b = some o → (∀ xs, o ≠ .lst xs) → (∀ ps, o ≠ .tbl ps) → H1 b = some o := fun q n1 n2 => x.keep _ _ q (fun z => by rw [z, e] at q; exact n1 _ (Option.some.inj q).symm) n2
  exact ⟨k h.ins (fun _ z => by cases z) (fun _ z => by cases z), ⟨kc, kn, kr, k e1 (fun _ z => by cases z) (fun _ z => by cases z), k e2 (fun _ z => by cases z) (fun _ z => by cases z), k e3 (fun _ z => by cases z) (fun _ z => by cases z), d.move (fun _ _ => x.t e) (x.frz e)⟩, h.ne⟩
end
/-! ### rows in a dict -/
theorem rowKv_val : ∀ (rs : Rw) (m : Str), valV (rowKv rs) (Sum.inr m) = (findR rs m).map V.int
  | [], _ => rfl
  | r :: rs, m => by
    by_cases q : r.1 = m
    · rw [findR_cons, if_pos q]
      exact valV_pos (p := ((Sum.inr r.1 : Key), V.int r.2)) (r := rowKv rs) (by rw [q])
    · rw [findR_cons, if_neg q, ← rowKv_val rs m]
      exact valV_neg (p := ((Sum.inr r.1 : Key), V.int r.2)) (r := rowKv rs) fun e => q (Sum.inr.inj e)
theorem rowKv_merge : ∀ (rs acc : Rw), (∀ r ∈ rs, findR acc r.1 = none) → SrR rs → mergeK (rowKv acc) (rowKv rs) = rowKv (acc ++ rs)
  | [], acc, _, _ => by rw [List.append_nil] <;> rfl
  | r :: rs, acc, h, s => by
    obtain ⟨s1, s2⟩ := List.pairwise_cons.mp s
    show mergeK (putK (rowKv acc) (Sum.inr r.1) (.int r.2)) (rowKv rs) = _
    have e : putK (rowKv acc) (Sum.inr r.1) (.int r.2) = rowKv (acc ++ [r]) := by
      rw [putK_new _ (by rw [rowKv_val, h r List.mem_cons_self] <;> rfl)]
      unfold rowKv
      rw [List.map_append] <;> rfl
    rw [e, rowKv_merge rs (acc ++ [r]) (fun q hq => ?_) s2, List.append_assoc] <;> try rfl
    refine findR_none.mpr fun hm => ?_
    rw [List.map_append] at hm
    rcases List.mem_append.mp hm with hm | hm
    · exact findR_none.mp (h q (List.mem_cons_of_mem _ hq)) hm
    · have : q.1 = r.1 := by simpa using hm
      exact ltS_ne (s1 q hq) this.symm
theorem rowKv_new {rs : Rw} (s : SrR rs) : mergeK [] (rowKv rs) = rowKv rs := rowKv_merge rs [] (fun r _ => rfl) s
/-- the keys of a dict of texts -/
def TxK (kvs : List (Key × V)) (ss : List Str) : Prop := kvs.map (·.1) = ss.map Sum.inr ∧ ss.Nodup
theorem TxK.put {kvs : List (Key × V)} {ss : List Str} (h : TxK kvs ss) (m : Str) (v : V) : ∃ ss', TxK (putK kvs (Sum.inr m) v) ss' ∧ ∀ x, x ∈ ss' ↔ x ∈ ss ∨ x = m := by
  have hk : ∀ x : Str, (valV kvs (Sum.inr x)).isSome = true ↔ x ∈ ss := fun x => by
    rw [← valV_any, List.any_eq_true]
    constructor
    · rintro ⟨p, hp, ep⟩
      have : (Sum.inr x : Key) ∈ kvs.map (·.1) := List.mem_map.mpr ⟨p, hp, of_decide_eq_true ep⟩
      rw [h.1] at this
      obtain ⟨y, hy, e⟩ := List.mem_map.mp this
      rw [← Sum.inr.inj e]
      exact hy
    · intro hx
      have : (Sum.inr x : Key) ∈ kvs.map (·.1) := by rw [h.1]; exact List.mem_map.mpr ⟨x, hx, rfl⟩
      obtain ⟨p, hp, ep⟩ := List.mem_map.mp this
      exact ⟨p, hp, decide_eq_true ep⟩
  by_cases q : m ∈ ss
  · refine ⟨ss, ⟨?_, h.2⟩, fun x => ⟨.inl, fun z => z.elim id fun e => by rw [e]; exact q⟩⟩
    rw [putK_has ((hk m).mpr q), List.map_map, ← h.1]
    refine List.map_congr_left fun p _ => ?_
    show (if p.1 = Sum.inr m then (p.1, v) else p).1 = p.1
    split <;> rfl
  · have hn : valV kvs (Sum.inr m) = none := by
      cases e : valV kvs (Sum.inr m) with
      | none => rfl
      | some u => exact absurd ((hk m).mp (by rw [e] <;> rfl)) q
    refine ⟨ss ++ [m], ⟨by rw [putK_new v hn, List.map_append, List.map_append, h.1] <;> rfl, List.nodup_append.mpr ⟨h.2, by simp, fun a ha c hc e => ?_⟩⟩, fun x => by rw [List.mem_append, List.mem_singleton]⟩
    rw [List.mem_singleton.mp hc] at e
    exact q (e ▸ ha)
theorem TxK.merge : ∀ (rs : Rw) {kvs : List (Key × V)} {ss : List Str}, TxK kvs ss → ∃ ss', TxK (mergeK kvs (rowKv rs)) ss' ∧ ∀ x, x ∈ ss' ↔ x ∈ ss ∨ x ∈ rs.map (·.1)
  | [], kvs, ss, h => ⟨ss, h, fun x => by simp⟩
  | r :: rs, kvs, ss, h => by
    obtain ⟨s1, h1, m1⟩ := h.put r.1 (.int r.2)
    obtain ⟨s2, h2, m2⟩ := TxK.merge rs h1
    exact ⟨s2, h2, fun x => by rw [m2, m1, List.map_cons, List.mem_cons, or_assoc]⟩
theorem findR_is {rs : Rw} {m : Str} : (findR rs m).isSome = true ↔ m ∈ rs.map (·.1) := by
  have := findR_none (m := rs) (n := m)
  cases e : findR rs m with
  | none => rw [e] at this; simp; simpa using this.mp rfl
  | some y =>
    refine ⟨fun _ => Decidable.byContradiction fun hn => ?_, fun _ => rfl⟩
    rw [this.mpr hn] at e
    cases e
/-- sorted names of both are those told by uniN -/
theorem uni_sorted {a b : Rw} {ys : List Str} (hs : SrtS ys) (hn : ys.Nodup) (hm : ∀ x, x ∈ ys ↔ x ∈ a.map (·.1) ∨ x ∈ b.map (·.1)) : ys = uniN a b :=
  srt_ext (lt := fun x y => ltS x y = true) (fun a h => by rw [ltS_irr] at h; cases h) (fun _ _ _ h g => ltS_tr h g) (strict_of hs hn) (uniN_srt a b) fun x => by rw [hm, mem_uniN, findR_is, findR_is]
theorem uniN_len (a b : Rw) : (uniN a b).length ≤ a.length + b.length := by
  rw [← List.length_map (f := (·.1)) (as := a), ← List.length_map (f := (·.1)) (as := b), ← List.length_append]
  refine XS.nd_len _ _ ((uniN_srt a b).imp fun {x y} h e => by rw [e, ltS_irr] at h; cases h) fun x hx => ?_
  rw [List.mem_append, ← findR_is, ← findR_is]
  exact mem_uniN.mp hx
/-! ### promises: names side by side, compare, changes -/
abbrev Side := Str × Option Int × Option Int
def sideF (a b : Rw) : List Side := (uniN a b).map fun m => (m, findR a m, findR b m)
def Trs (K : PySem.W.Frag) (H : Hp) : List V → List Side → Prop := Paired fun v r => ∃ t, v = .ref t ∧ SqT K H t [.str r.1, oV r.2.1, oV r.2.2]
def spSideBy (K : PySem.W.Frag) : Sp := fun vs H Q _ => ∃ (t1 t2 : Addr) (us1 us2 : List V) (a b : Rw), vs = [.ref t1, .ref t2] ∧ TG.GT H t1 us1 ∧ TG.GT H t2 us2 ∧ Prs K H us1 a ∧ Prs K H us2 b ∧ SrR a ∧ SrR b ∧ a.length ≤ 5000 ∧ b.length ≤ 5000 ∧
  ∀ l ts H', H l = none → Gr H H' → H' l = some (.lst ts) → Trs K H' ts (sideF a b) → Q (.ref l) H'
/-- a change told: the path's list, both numbers -/
abbrev Chg := List Str × V × V
def ChgAt (K : PySem.W.Frag) (H : Hp) (N : Addr → Prop) (v : V) (r : Chg) : Prop := ∃ t p, v = .ref t ∧ SqT K H t [.ref p, r.2.1, r.2.2] ∧ H p = some (.lst (r.1.map V.str)) ∧ N p
def Chgs (K : PySem.W.Frag) (H : Hp) (N : Addr → Prop) : List V → List Chg → Prop := Paired (ChgAt K H N)
theorem pd_imp {α β : Type} {F G : α → β → Prop} (h : ∀ a b, F a b → G a b) : ∀ {l : List α} {k : List β}, Paired F l k → Paired G l k
  | _, _, .nil => .nil
  | _, _, .cons r t => .cons (h _ _ r) (pd_imp h t)
theorem pd_app {α β : Type} {F : α → β → Prop} : ∀ {l l' : List α} {k k' : List β}, Paired F l k → Paired F l' k' → Paired F (l ++ l') (k ++ k')
  | _, _, _, _, .nil, q => q
  | _, _, _, _, .cons r t, q => .cons r (pd_app t q)
theorem pd_len {α β : Type} {F : α → β → Prop} : ∀ {l : List α} {k : List β}, Paired F l k → l.length = k.length
  | _, _, .nil => rfl
  | _, _, .cons _ t => congrArg (· + 1) (pd_len t)
theorem pd_at {α β : Type} {F : α → β → Prop} : ∀ {l : List α} {k : List β} {i : Nat} {a : α}, Paired F l k → l[i]? = some a → ∃ b, k[i]? = some b ∧ F a b
  | _, _, _, _, .nil, e => by simp at e
  | _, _, 0, _, .cons (b := b) r _, e => ⟨b, rfl, by cases e; exact r⟩
  | _, _, i + 1, _, .cons _ t, e => by
    obtain ⟨b, eb, r⟩ := pd_at (i := i) t (by simpa using e)
    exact ⟨b, by simpa using eb, r⟩
theorem Chgs.gl {K : PySem.W.Frag} {H H' : Hp} {fl : Addr} {N : Addr → Prop} (hN : ∀ p, N p → p ≠ fl) {ys : List V} (e : H fl = some (.lst ys)) (x : Gl fl H H') {vs : List V} {rs : List Chg} (h : Chgs K H N vs rs) : Chgs K H' N vs rs := pd_imp (fun _ _ ⟨t, p, q1, q2, q3, q4⟩ => ⟨t, p, q1, x.t e q2, x.keep _ _ q3 (hN p q4) (fun _ z => by cases z), q4⟩) h
theorem Chgs.gr {K : PySem.W.Frag} {H H' : Hp} {N : Addr → Prop} (g : Gr H H') {vs : List V} {rs : List Chg} (h : Chgs K H N vs rs) : Chgs K H' N vs rs := pd_imp (fun _ _ ⟨t, p, q1, q2, q3, q4⟩ => ⟨t, p, q1, g.t q2, g.lst q3, q4⟩) h
def spCompare (K : PySem.W.Frag) (C : Addr) (n : Nat) : Sp := fun vs H Q _ => ∃ (A : PA) (S : PS) (R : List Int) (N : Addr → Prop) (pl fl : Addr) (p : List Str) (fs : List V) (a b : Option Int), vs = [.ref A.p, .ref pl, oV a, oV b, .ref fl] ∧ PileAt K C H A S ∧ TInv S R ∧ FlatN S n a ∧ FlatN S n b ∧
  H pl = some (.lst (p.map V.str)) ∧ H fl = some (.lst fs) ∧ (∀ p, N p → p ≠ fl) ∧ (∀ b, H b = none → N b) ∧ N pl ∧ p.length + n ≤ 1000 ∧ fs.length + (cmpF S n p a b).1.length ≤ 1000000 ∧
  ∀ gs H', Gl fl H H' → H' fl = some (.lst (fs ++ gs)) → Chgs K H' N gs (cmpF S n p a b).1 → Q (.int ((cmpF S n p a b).2 : Int)) H'
/-- what changes tells: a pair of a new list and a number -/
def spChanges (K : PySem.W.Frag) (CS CP : Addr) (ex : Rf → Addr) : Sp := fun vs H Q E => ∃ (B : SA) (X : TS) (x y : V) (v1 v2 : Vw) (z1 z2 : Int), vs = [.ref B.p, x, y] ∧ StAt K CS CP H B X ∧ X.Ok ∧ VwIn K H x v1 ∧ VwIn K H y v2 ∧ X.vw v1 = some z1 ∧ X.vw v2 = some z2 ∧ FlatN X.S 9 (some z1) ∧ FlatN X.S 9 (some z2) ∧ (cmpF X.S 9 [] (some z1) (some z2)).1.length ≤ 1000000 ∧
  ∀ t fl fs H', H t = none → H fl = none → Gr H H' → H' t = some (.tup [.ref fl, .int ((cmpF X.S 9 [] (some z1) (some z2)).2 : Int)]) → H' fl = some (.lst fs) → Chgs K H' (fun b => H b = none ∧ b ≠ fl) fs (cmpF X.S 9 [] (some z1) (some z2)).1 → Q (.ref t) H'
/-- three names of one turn -/
theorem st_g3 {K : PySem.W.Frag} {i j k : Nat} {p : Addr} {x y z : V} {σ : L2.St} {H : Hp} {Q : L2.St → Hp → Prop} (h : SqT K H p [x, y, z]) (q : Q (((σ.set i (some x)).set j (some y)).set k (some z)) H) : gTup K 3 (gCons (gName i) (gCons (gName j) (gCons (gName k) gNil))) (.ref p) σ H Q :=
  ⟨p, [x, y, z], rfl, h, rfl, x, [y, z], rfl, y, [z], rfl, z, [], rfl, rfl, q⟩
/-! ### a list of data told apart from the empty one -/
theorem lay_all {ds : List PyData} (h : ∀ d ∈ ds, PyData.canLay0 d = true ∧ PyData.depth d ≤ 3) : PyData.canLayAll0 ds = true ∧ PyData.depthAll ds ≤ 3 := by
  induction ds with
  | nil => exact ⟨rfl, by decide⟩
  | cons d ds ih =>
    obtain ⟨h1, h2⟩ := h d List.mem_cons_self
    obtain ⟨i1, i2⟩ := ih fun e he => h e (List.mem_cons_of_mem _ he)
    refine ⟨by rw [PyData.canLayAll0, h1, i1] <;> rfl, ?_⟩
    rw [PyData.depthAll]
    omega
theorem st_neNilD {K : PySem.W.Frag} {H : Hp} {Q : VK} {p q : Addr} {vs : List V} {ds : List PyData} (h : SqL K H p vs) (hd : DpAll K H vs ds) (hl : ∀ d ∈ ds, PyData.canLay0 d = true ∧ PyData.depth d ≤ 3) (hq : SqL K H q []) (k : Q (.bl (!vs.isEmpty)) H) : rNeD K (.ref p) (.ref q) H Q := by
  obtain ⟨l1, l2⟩ := lay_all hl
  refine ⟨.list ds, .list [], .lst h hd, .lst hq .nil, ?_, by decide, ?_⟩
  · unfold SeqAt.shaped
    rw [PyData.depth]
    show (PyData.canLayAll0 ds && _) = true
    rw [l1, decide_eq_true (by omega)] <;> rfl
  · have e : PyData.eqv (.list ds) (.list []) = vs.isEmpty := by
      cases hd <;> simp [PyData.eqv, PyData.eqvAll]
    rw [e]
    exact k
theorem okN_str {m : Str} (h : okN m = true) : PyData.strOk m = true := lowS_ok (okN_le h).2.2
theorem dpa_imp {K : PySem.W.Frag} {H : Hp} {α : Type} {F : V → α → Prop} (g : α → PyData) (h : ∀ v a, F v a → Dp K H v (g a)) : ∀ {vs : List V} {as : List α}, Paired F vs as → DpAll K H vs (as.map g)
  | _, _, .nil => .nil
  | _, _, .cons r t => .cons (h _ _ r) (dpa_imp g h t)
theorem lay_okN : ∀ {p : List Str}, (∀ m ∈ p, okN m = true) → PyData.canLayAll0 (p.map PyData.str) = true ∧ PyData.depthAll (p.map PyData.str) ≤ 1
  | [], _ => ⟨rfl, by decide⟩
  | m :: p, h => by
    obtain ⟨h1, h2⟩ := lay_okN (p := p) fun k hk => h k (List.mem_cons_of_mem _ hk)
    refine ⟨?_, ?_⟩
    · rw [List.map_cons, PyData.canLayAll0, h1, PyData.canLay0, okN_str (h m List.mem_cons_self)] <;> rfl
    · rw [List.map_cons, PyData.depthAll, PyData.depth]
      omega
/-! ### the law's walk to the leaves -/
abbrev Wt := List Str × Int
def WtAt (K : PySem.W.Frag) (H : Hp) (v : V) (p : Wt) : Prop := ∃ t a, v = .ref t ∧ SqT K H t [.ref a, .int p.2] ∧ H a = some (.tup (p.1.map V.str))
theorem WtAt.gr {K : PySem.W.Frag} {H H' : Hp} (g : Gr H H') {vs : List V} {W : List Wt} (h : Paired (WtAt K H) vs W) : Paired (WtAt K H') vs W := pd_imp (fun _ _ ⟨t, a, q1, q2, q3⟩ => ⟨t, a, q1, g.t q2, g.tup q3⟩) h
theorem WtAt.mut {K : PySem.W.Frag} {H : Hp} {D : Addr} {xs ys : List V} (e : H D = some (.lst xs)) {vs : List V} {W : List Wt} (h : Paired (WtAt K H) vs W) : Paired (WtAt K (upd H D (.lst ys))) vs W := pd_imp (fun _ _ ⟨t, a, q1, q2, q3⟩ => ⟨t, a, q1, sqT_mut e q2, by rw [upd_ne (ne_of q3 e (by intro z; cases z))]; exact q3⟩) h
def wtD (p : Wt) : PyData := .tuple [.tuple (p.1.map PyData.str), .int p.2]
theorem dp_wt {K : PySem.W.Frag} {H : Hp} {v : V} {p : Wt} (h : WtAt K H v p) : Dp K H v (wtD p) := by
  obtain ⟨t, a, rfl, h1, h2⟩ := h
  exact .tup h1 (.cons (.tup (.of h2) (dp_strs p.1)) (.cons (.int _) .nil))
theorem lay_wt {p : Wt} (h : ∀ m ∈ p.1, okN m = true) : PyData.canLay0 (wtD p) = true ∧ PyData.depth (wtD p) ≤ 3 := by
  obtain ⟨h1, h2⟩ := lay_okN h
  unfold wtD
  refine ⟨?_, ?_⟩
  · show PyData.canLayAll0 [PyData.tuple (p.1.map PyData.str), PyData.int p.2] = true
    rw [PyData.canLayAll0]
    show (PyData.canLayAll0 (p.1.map PyData.str) && PyData.canLayAll0 [PyData.int p.2]) = true
    rw [h1] <;> rfl
  · simp only [PyData.depth, PyData.depthAll]
    omega
theorem keyS_inj {p q : List Str} (h : (p.map Sum.inr : List Key) = q.map Sum.inr) : p = q := by
  induction p generalizing q with
  | nil => cases q with
    | nil => rfl
    | cons => cases h
  | cons m p ih => cases q with
    | nil => cases h
    | cons k q =>
      have h1 := (List.cons.inj h).1
      rw [Sum.inr.inj h1, ih (List.cons.inj h).2]
theorem keyS_iff {p q : List Str} : ((p.map Sum.inr : List Key) = q.map Sum.inr) ↔ p = q := ⟨keyS_inj, fun e => by rw [e]⟩
theorem kV_map (p : List Str) : (p.map Sum.inr : List Key).map kV = p.map V.str := by
  rw [List.map_map] <;> rfl
structure LeafD (S : PS) (z : Int) (kvs : List (List Key × V)) (L : List (List Str)) : Prop where
  keys : kvs.map (·.1) = L.map fun p => (p.map Sum.inr : List Key)
  val : ∀ ns : List Str, (valV kvs (ns.map Sum.inr)).getD .non = nAt S (some z) ns
  mem : ∀ ns, ns ∈ L ↔ nAt S (some z) ns ≠ .non
structure LW (S : PS) (z : Int) (W : List Wt) (kvs : List (List Key × V)) (L : List (List Str)) : Prop where
  keys : kvs.map (·.1) = L.map fun p => (p.map Sum.inr : List Key)
  own : ∀ (ns : List Str) v, valV kvs (ns.map Sum.inr) = some v → v = nAt S (some z) ns ∧ v ≠ .non
  all : ∀ ns : List Str, nAt S (some z) ns ≠ .non → valV kvs (ns.map Sum.inr) = some (nAt S (some z) ns) ∨ ∃ p ∈ W, ∃ r, ns = p.1 ++ r ∧ nAt S (some p.2) r = nAt S (some z) ns
  at' : ∀ p ∈ W, walkF S (some z) p.1 = some p.2 ∧ (S.box p.2).isSome = true ∧ FlatN S 9 (some p.2) ∧ ∀ m ∈ p.1, okN m = true
theorem LW.start {S : PS} {z : Int} (h : (S.box z).isSome = true) (f : FlatN S 9 (some z)) : LW S z [([], z)] [] [] :=
  ⟨rfl, fun _ _ e => (by cases e), fun ns _ => .inr ⟨([], z), List.mem_cons_self, ns, rfl, rfl⟩, fun p hp => by rw [List.mem_singleton.mp hp]; exact ⟨rfl, h, f, fun m hm => nomatch hm⟩⟩
theorem nAt_leafAt {S : PS} {y : Int} {n : Int} (e : bxO S (some y) = some (.leaf n)) {r : List Str} (h : nAt S (some y) r ≠ .non) : r = [] := by
  cases r with
  | nil => rfl
  | cons m r =>
    have en : nextF S (some y) m = none := by unfold nextF; rw [rowsO_bx, e] <;> rfl
    unfold nAt at h
    rw [AtB.cons, en, AtB.none] at h
    exact absurd rfl h
theorem LW.leaf {S : PS} {z : Int} {W : List Wt} {p : Wt} {kvs : List (List Key × V)} {L : List (List Str)} {n : Int} (h : LW S z (W ++ [p]) kvs L) (e : bxO S (some p.2) = some (.leaf n)) : ∃ L', LW S z W (putK kvs (p.1.map Sum.inr) (.int n)) L' ∧ L'.length ≤ L.length + 1 := by
  obtain ⟨w1, w2, w3, w4⟩ := h.at' p (List.mem_append_right _ List.mem_cons_self)
  have hz : nAt S (some z) p.1 = .int n := by
    unfold nAt AtB
    rw [w1, e] <;> rfl
  have own : ∀ (ns : List Str) v, valV (putK kvs (p.1.map Sum.inr) (.int n)) (ns.map Sum.inr) = some v → v = nAt S (some z) ns ∧ v ≠ .non := fun ns v q => by
    rw [valV_put] at q
    by_cases c : ns = p.1
    · rw [if_pos (keyS_iff.mpr c)] at q
      cases q
      exact ⟨by rw [c, hz], by intro z; cases z⟩
    · rw [if_neg fun z => c (keyS_inj z)] at q
      exact h.own ns v q
  have all : ∀ ns : List Str, nAt S (some z) ns ≠ .non → valV (putK kvs (p.1.map Sum.inr) (.int n)) (ns.map Sum.inr) = some (nAt S (some z) ns) ∨ ∃ q ∈ W, ∃ r, ns = q.1 ++ r ∧ nAt S (some q.2) r = nAt S (some z) ns := fun ns hn => by
    rw [valV_put]
    by_cases c : ns = p.1
    · rw [if_pos (keyS_iff.mpr c), c, hz]
      exact .inl rfl
    · rw [if_neg fun z => c (keyS_inj z)]
      rcases h.all ns hn with q | ⟨q, hq, r, er, hr⟩
      · exact .inl q
      · rcases List.mem_append.mp hq with hq | hq
        · exact .inr ⟨q, hq, r, er, hr⟩
        · rw [List.mem_singleton.mp hq] at er hr
          have := nAt_leafAt e (r := r) (by rw [hr]; exact hn)
          rw [this, List.append_nil] at er
          exact absurd er c
  have atW : ∀ q ∈ W, _ := fun q hq => h.at' q (List.mem_append_left _ hq)
  by_cases c : (valV kvs (p.1.map Sum.inr)).isSome = true
  · refine ⟨L, ⟨?_, own, all, atW⟩, Nat.le_succ _⟩
    rw [putK_has c, List.map_map, ← h.keys]
    refine List.map_congr_left fun q _ => ?_
    show (if q.1 = p.1.map Sum.inr then (q.1, V.int n) else q).1 = q.1
    split <;> rfl
  · refine ⟨L ++ [p.1], ⟨?_, own, all, atW⟩, by rw [List.length_append, List.length_singleton]; exact Nat.le_refl _⟩
    have cn : valV kvs (p.1.map Sum.inr) = none := by
      cases q : valV kvs (p.1.map Sum.inr) with
      | none => rfl
      | some v => rw [q] at c; exact absurd rfl c
    rw [putK_new _ cn, List.map_append, List.map_append, h.keys] <;> rfl
theorem LW.branch {S : PS} {R : List Int} (hi : TInv S R) {z : Int} {W : List Wt} {p : Wt} {kvs : List (List Key × V)} {L : List (List Str)} {rs : Rw} (h : LW S z (W ++ [p]) kvs L) (e : bxO S (some p.2) = some (.branch rs)) : LW S z (W ++ rs.map fun r => (p.1 ++ [r.1], r.2)) kvs L := by
  obtain ⟨w1, w2, w3, w4⟩ := h.at' p (List.mem_append_right _ List.mem_cons_self)
  have er : rowsO S (some p.2) = rs := by rw [rowsO_bx, e] <;> rfl
  obtain ⟨s1, s2, s3⟩ := rowsO_srt hi (some p.2)
  rw [er] at s1 s2 s3
  have hn : ∀ r ∈ rs, nextF S (some p.2) r.1 = some r.2 := fun r hr => by unfold nextF; rw [er]; exact findR_mem s1 hr
  refine ⟨h.keys, h.own, fun ns hns => ?_, fun q hq => ?_⟩
  · rcases h.all ns hns with q | ⟨q, hq, r, e1, e2⟩
    · exact .inl q
    · rcases List.mem_append.mp hq with hq | hq
      · exact .inr ⟨q, List.mem_append_left _ hq, r, e1, e2⟩
      · rw [List.mem_singleton.mp hq] at e1 e2
        cases r with
        | nil =>
          refine absurd e2.symm ?_
          have : nAt S (some p.2) [] = .non := by unfold nAt; rw [AtB.nil, e] <;> rfl
          rw [this]
          exact hns
        | cons m r =>
          have ne : nextF S (some p.2) m ≠ none := fun q => by
            have : nAt S (some p.2) (m :: r) = .non := by unfold nAt; rw [AtB.cons, q, AtB.none] <;> rfl
            rw [this] at e2
            exact hns e2.symm
          obtain ⟨y, ey⟩ := Option.ne_none_iff_exists'.mp ne
          have hm : (m, y) ∈ rs := by
            unfold nextF findR at ey
            rw [er] at ey
            obtain ⟨u, eu, e3⟩ := Option.map_eq_some_iff.mp ey
            have hu := List.mem_of_find?_eq_some eu
            have h4 := List.find?_some eu
            have h5 : u.1 = m := by simpa using h4
            rw [← h5, ← e3]
            exact hu
          refine .inr ⟨(p.1 ++ [m], y), List.mem_append_right _ (List.mem_map.mpr ⟨(m, y), hm, rfl⟩), r, by rw [e1, List.append_assoc] <;> rfl, ?_⟩
          rw [← e2]
          unfold nAt
          rw [AtB.cons, ey]
  · rcases List.mem_append.mp hq with hq | hq
    · exact h.at' q (List.mem_append_left _ hq)
    · obtain ⟨r, hr, rfl⟩ := List.mem_map.mp hq
      refine ⟨by rw [walkF_snoc, w1]; exact hn r hr, s3 r hr, ?_, fun m hm => ?_⟩
      · have := (w3.mono (k := 10) (by decide)).next r.1
        rw [hn r hr] at this
        exact this
      · rcases List.mem_append.mp hm with hm | hm
        · exact w4 m hm
        · rw [List.mem_singleton.mp hm]
          exact s2 r hr
theorem LW.fin {S : PS} {z : Int} {kvs : List (List Key × V)} {L : List (List Str)} (h : LW S z [] kvs L) : LeafD S z kvs L := by
  have val : ∀ ns : List Str, (valV kvs (ns.map Sum.inr)).getD .non = nAt S (some z) ns := fun ns => by
    cases e : valV kvs (ns.map Sum.inr) with
    | some v => exact (h.own ns v e).1
    | none =>
      refine Decidable.byContradiction fun hn => ?_
      rcases h.all ns fun q => hn q.symm with q | ⟨q, hq, _⟩
      · rw [e] at q
        cases q
      · cases hq
  refine ⟨h.keys, val, fun ns => ?_⟩
  have hk : ns ∈ L ↔ (valV kvs (ns.map Sum.inr)).isSome = true := by
    rw [← valV_any, List.any_eq_true]
    constructor
    · intro hm
      have : (ns.map Sum.inr : List Key) ∈ kvs.map (·.1) := by rw [h.keys]; exact List.mem_map.mpr ⟨ns, hm, rfl⟩
      obtain ⟨q, hq, e⟩ := List.mem_map.mp this
      exact ⟨q, hq, decide_eq_true e⟩
    · rintro ⟨q, hq, e⟩
      have : (ns.map Sum.inr : List Key) ∈ kvs.map (·.1) := List.mem_map.mpr ⟨q, hq, of_decide_eq_true e⟩
      rw [h.keys] at this
      obtain ⟨q, hq, e⟩ := List.mem_map.mp this
      rw [← keyS_inj e]
      exact hq
  rw [hk]
  constructor
  · intro c
    obtain ⟨v, e⟩ := Option.isSome_iff_exists.mp c
    obtain ⟨h1, h2⟩ := h.own ns v e
    rw [← h1]
    exact h2
  · intro c
    rcases h.all ns c with q | ⟨q, hq, _⟩
    · rw [q] <;> rfl
    · cases hq
/-! how much is left to walk -/
theorem cntF_more {S : PS} {R : List Int} (hi : TInv S R) : ∀ (n : Nat) (o : Option Int), FlatN S n o → cntF S (n + 1) o = cntF S n o
  | 0, o, h => by rw [FlatN.zero h] <;> rfl
  | n + 1, none, _ => rfl
  | n + 1, some z, h => by
    rw [cntF, cntF]
    congr 2
    refine List.map_congr_left fun r hr => cntF_more hi n (some r.2) ?_
    have := h.next r.1
    rw [show nextF S (some z) r.1 = some r.2 from findR_mem (rowsO_srt hi (some z)).1 hr] at this
    exact this
def wsum (S : PS) (W : List Wt) : Nat := (W.map fun p => cntF S 9 (some p.2)).sum
theorem wsum_app (S : PS) (W V : List Wt) : wsum S (W ++ V) = wsum S W + wsum S V := by
  unfold wsum
  rw [List.map_append, List.sum_append]
theorem wsum_len {S : PS} : ∀ (W : List Wt), W.length ≤ wsum S W
  | [] => Nat.le_refl _
  | p :: W => by
    have := wsum_len (S := S) W
    have h : 1 ≤ cntF S 9 (some p.2) := by rw [cntF]; omega
    show W.length + 1 ≤ cntF S 9 (some p.2) + wsum S W
    omega
theorem wsum_leaf {S : PS} {p : Wt} {n : Int} (e : bxO S (some p.2) = some (.leaf n)) : wsum S [p] = 1 := by
  show cntF S 9 (some p.2) + 0 = 1
  rw [cntF, rowsO_bx, e] <;> rfl
theorem wsum_branch {S : PS} {R : List Int} (hi : TInv S R) {p : Wt} {rs : Rw} (h : FlatN S 9 (some p.2)) (e : bxO S (some p.2) = some (.branch rs)) : wsum S [p] = 1 + wsum S (rs.map fun r => (p.1 ++ [r.1], r.2)) := by
  have er : rowsO S (some p.2) = rs := by rw [rowsO_bx, e] <;> rfl
  show cntF S 9 (some p.2) + 0 = _
  unfold wsum
  rw [cntF, er, List.map_map, Nat.add_zero]
  congr 2
  refine List.map_congr_left fun r hr => (cntF_more hi 8 (some r.2) ?_).symm
  have := h.next r.1
  have hs := (rowsO_srt hi (some p.2)).1
  rw [show nextF S (some p.2) r.1 = some r.2 from findR_mem hs (by rw [er]; exact hr)] at this
  exact this
def spLeaves12 (K : PySem.W.Frag) (C : Addr) : Sp := fun vs H Q _ => ∃ (A : PA) (S : PS) (R : List Int) (z : Int), vs = [.ref A.p, .int z] ∧ PileAt K C H A S ∧ TInv S R ∧ (S.box z).isSome = true ∧ FlatN S 9 (some z) ∧ cntF S 9 (some z) ≤ 10000 ∧
  ∀ d kvs L H', H d = none → Gr H H' → H' d = some (.dT kvs) → LeafD S z kvs L → L.length ≤ 10000 → Q (.ref d) H'
def spRows12 (K : PySem.W.Frag) (C : Addr) : Sp := fun vs H Q _ => ∃ (A : PA) (S : PS) (R : List Int) (o : Option Int), vs = [.ref A.p, oV o] ∧ PileAt K C H A S ∧ TInv S R ∧ Fit S o ∧ ∀ d H', H d = none → Gr H H' → H' d = some (.dK (rowKv (rowsO S o))) → Q (.ref d) H'
/-! ### the law's walk over two views at once -/
theorem lookF_more {S : PS} : ∀ (n : Nat) (a b : Option Int), FlatN S n a → FlatN S n b → lookF S (n + 1) a b = lookF S n a b
  | 0, a, b, ha, hb => by
    rw [FlatN.zero ha, FlatN.zero hb, lookF_same, lookF_same]
  | n + 1, a, b, ha, hb => by
    by_cases h : a = b
    · subst h
      rw [lookF_same, lookF_same]
    · rw [lookF_succ S _ h, lookF_succ S _ h]
      congr 2
      exact List.map_congr_left fun m _ => lookF_more n _ _ (ha.next m) (hb.next m)
theorem cmpF_two (S : PS) : ∀ (n : Nat) (p q : List Str) (a b : Option Int), (cmpF S n p a b).2 = (cmpF S n q a b).2
  | 0, _, _, _, _ => rfl
  | n + 1, p, q, a, b => by
    by_cases h : a = b
    · subst h
      rw [cmpF_same, cmpF_same]
    · rw [(cmpF_succ S n p h).2, (cmpF_succ S n q h).2]
      congr 2
      exact List.map_congr_left fun m _ => cmpF_two S n _ _ _ _
abbrev Pr2 := Option Int × Option Int
def lsum (S : PS) (W : List Pr2) : Nat := (W.map fun p => lookF S 9 p.1 p.2).sum
def csum (S : PS) (W : List Pr2) : Nat := (W.map fun p => (cmpF S 9 [] p.1 p.2).2).sum
theorem lsum_app (S : PS) (W V : List Pr2) : lsum S (W ++ V) = lsum S W + lsum S V := by
  unfold lsum
  rw [List.map_append, List.sum_append]
theorem csum_app (S : PS) (W V : List Pr2) : csum S (W ++ V) = csum S W + csum S V := by
  unfold csum
  rw [List.map_append, List.sum_append]
theorem lookF_pos (S : PS) (n : Nat) (a b : Option Int) : 1 ≤ lookF S n a b := by
  cases n with
  | zero => exact Nat.le_refl _
  | succ n =>
    rw [lookF]
    split <;> omega
theorem lsum_len (S : PS) : ∀ (W : List Pr2), W.length ≤ lsum S W
  | [] => Nat.le_refl _
  | p :: W => by
    have h1 := lsum_len S W
    have h2 := lookF_pos S 9 p.1 p.2
    show W.length + 1 ≤ lookF S 9 p.1 p.2 + lsum S W
    omega
def kids (S : PS) (a b : Option Int) : List Pr2 := (uniN (rowsO S a) (rowsO S b)).map fun m => (nextF S a m, nextF S b m)
theorem look_kids {S : PS} (n : Nat) {a b : Option Int} (h : a ≠ b) (ha : FlatN S (n + 1) a) (hb : FlatN S (n + 1) b) : lookF S (n + 1) a b = 1 + ((kids S a b).map fun p => lookF S (n + 1) p.1 p.2).sum := by
  rw [lookF_succ S n h]
  unfold kids
  rw [List.map_map]
  congr 2
  exact List.map_congr_left fun m _ => (lookF_more n _ _ (ha.next m) (hb.next m)).symm
theorem cmp_kids {S : PS} (n : Nat) {a b : Option Int} (h : a ≠ b) (ha : FlatN S (n + 1) a) (hb : FlatN S (n + 1) b) : (cmpF S (n + 1) [] a b).2 = 1 + ((kids S a b).map fun p => (cmpF S (n + 1) [] p.1 p.2).2).sum := by
  rw [(cmpF_succ S n [] h).2]
  unfold kids
  rw [List.map_map]
  congr 2
  refine List.map_congr_left fun m _ => ?_
  show _ = (cmpF S (n + 1) [] (nextF S a m) (nextF S b m)).2
  rw [cmpF_more n [] _ _ (ha.next m) (hb.next m), cmpF_two S n _ []]
theorem sum_same (S : PS) (a : Option Int) : lsum S [(a, a)] = 1 ∧ csum S [(a, a)] = 0 := by
  unfold lsum csum
  rw [List.map_cons, List.map_nil, List.sum_cons, List.sum_nil, List.map_cons, List.map_nil, List.sum_cons, List.sum_nil, lookF_same, cmpF_same]
  exact ⟨rfl, rfl⟩
theorem sum_kids {S : PS} {a b : Option Int} (h : a ≠ b) (ha : FlatN S 9 a) (hb : FlatN S 9 b) : lsum S [(a, b)] = 1 + lsum S (kids S a b) ∧ csum S [(a, b)] = 1 + csum S (kids S a b) := by
  have e1 := look_kids 8 h ha hb
  have e2 := cmp_kids 8 h ha hb
  unfold lsum csum
  rw [List.map_cons, List.map_nil, List.sum_cons, List.sum_nil, List.map_cons, List.map_nil, List.sum_cons, List.sum_nil, Nat.add_zero, Nat.add_zero]
  exact ⟨e1, e2⟩
def spLooked12 (K : PySem.W.Frag) (C : Addr) : Sp := fun vs H Q _ => ∃ (A : PA) (S : PS) (R : List Int) (a b : Int), vs = [.ref A.p, .int a, .int b] ∧ PileAt K C H A S ∧ TInv S R ∧ (S.box a).isSome = true ∧ (S.box b).isSome = true ∧ FlatN S 9 (some a) ∧ FlatN S 9 (some b) ∧ lookF S 9 (some a) (some b) ≤ 10000 ∧ (∀ o, (rowsO S o).length ≤ 2000) ∧
  ∀ H', Gr H H' → Q (.int ((cmpF S 9 [] (some a) (some b)).2 : Int)) H'
/-! how many pairs are walked -/
def lkF (S : PS) : Nat → List Str → Option Int → Option Int → List (List Str)
  | 0, p, _, _ => [p]
  | n + 1, p, a, b => if a = b then [p] else p :: ((uniN (rowsO S a) (rowsO S b)).map fun m => lkF S n (p ++ [m]) (nextF S a m) (nextF S b m)).flatten
theorem lkF_len (S : PS) : ∀ (n : Nat) (p : List Str) (a b : Option Int), (lkF S n p a b).length = lookF S n a b
  | 0, _, _, _ => rfl
  | n + 1, p, a, b => by
    rw [lkF, lookF]
    split
    · rfl
    · rw [List.length_cons, List.length_flatten, List.map_map, Nat.add_comm]
      congr 2
      exact List.map_congr_left fun m _ => lkF_len S n _ _ _
theorem lkF_in {S : PS} {R : List Int} (hi : TInv S R) : ∀ (n : Nat) (p : List Str) (a b : Option Int), (∀ q ∈ lkF S n p a b, ∃ ns, q = p ++ ns ∧ (ns = [] ∨ (AtB S a ns).isSome = true ∨ (AtB S b ns).isSome = true)) ∧ (lkF S n p a b).Pairwise fun q u => ltP q u = true
  | 0, p, _, _ => ⟨fun q hq => ⟨[], by rw [List.mem_singleton.mp hq, List.append_nil], .inl rfl⟩, List.pairwise_singleton _ _⟩
  | n + 1, p, a, b => by
    rw [lkF]
    split
    · exact ⟨fun q hq => ⟨[], by rw [List.mem_singleton.mp hq, List.append_nil], .inl rfl⟩, List.pairwise_singleton _ _⟩
    · have h1 : ∀ m ∈ uniN (rowsO S a) (rowsO S b), ∀ q ∈ lkF S n (p ++ [m]) (nextF S a m) (nextF S b m), ∃ t, q = p ++ m :: t := fun m _ q hq => by
        obtain ⟨t, e, _⟩ := (lkF_in hi n (p ++ [m]) (nextF S a m) (nextF S b m)).1 q hq
        exact ⟨t, by rw [e, List.append_assoc] <;> rfl⟩
      refine ⟨fun q hq => ?_, List.pairwise_cons.mpr ⟨fun q hq => ?_, blocks p (fun q => q) (fun m => lkF S n (p ++ [m]) (nextF S a m) (nextF S b m)) _ (uniN_srt (rowsO S a) (rowsO S b)) h1 fun m _ => (lkF_in hi n (p ++ [m]) (nextF S a m) (nextF S b m)).2⟩⟩
      · rcases List.mem_cons.mp hq with e | hq
        · exact ⟨[], by rw [e, List.append_nil], .inl rfl⟩
        · obtain ⟨m, hm, hq⟩ := mem_blocks.mp hq
          obtain ⟨t, e, ht⟩ := (lkF_in hi n (p ++ [m]) (nextF S a m) (nextF S b m)).1 q hq
          refine ⟨m :: t, by rw [e, List.append_assoc] <;> rfl, .inr ?_⟩
          rw [AtB.cons, AtB.cons]
          rcases ht with ht | ht
          · subst ht
            have there : ∀ o y, nextF S o m = some y → (AtB S (nextF S o m) []).isSome = true := fun o y ey => by
              rw [ey, AtB.nil, bxO_is]
              exact (hi.low ey).1
            rcases mem_uniN.mp hm with hm | hm
            · obtain ⟨y, ey⟩ := Option.isSome_iff_exists.mp hm
              exact .inl (there a y ey)
            · obtain ⟨y, ey⟩ := Option.isSome_iff_exists.mp hm
              exact .inr (there b y ey)
          · exact ht
      · obtain ⟨m, hm, hq⟩ := mem_blocks.mp hq
        obtain ⟨t, e⟩ := h1 m hm q hq
        have := ltP_app p [] (m :: t)
        rw [List.append_nil] at this
        rw [e, this]
        exact ltP_nil _ _
theorem Wth.look {X : TS} {D : List (List Str)} (ok : X.Ok) (w : Wth X D) {a b : Int} (ha : a ∈ X.top :: X.shots.map (·.2)) (hb : b ∈ X.top :: X.shots.map (·.2)) : lookF X.S 9 (some a) (some b) ≤ 1 + 9 * D.length := by
  obtain ⟨h1, h2⟩ := lkF_in ok.t.toTInv 9 [] (some a) (some b)
  rw [← lkF_len X.S 9 []]
  refine Nat.le_trans (XS.nd_len _ (pres D) (srt_nodup h2) fun q hq => ?_) (pres_len fun p hp => (w.ln p hp).2)
  obtain ⟨ns, e, h⟩ := h1 q hq
  rw [e, List.nil_append]
  rcases h with h | h | h
  · exact mem_pres (.inl h)
  · obtain ⟨c, hc⟩ := Option.isSome_iff_exists.mp h
    exact mem_pres (w.tr a ha ns c hc).1
  · obtain ⟨c, hc⟩ := Option.isSome_iff_exists.mp h
    exact mem_pres (w.tr b hb ns c hc).1
/-! ### what is told is held against what is due -/
def isN (v : V) : Prop := v = .non ∨ ∃ n, v = .int n
def Dues (K : PySem.W.Frag) (H : Hp) : List V → List Chg → Prop := Paired fun v r => ∃ t p, v = .ref t ∧ SqT K H t [.ref p, r.2.1, r.2.2] ∧ H p = some (.tup (r.1.map V.str))
def spTold12 (K : PySem.W.Frag) : Sp := fun vs H Q _ => ∃ (t fl dl : Addr) (N : Addr → Prop) (fs ds : List V) (rs : List Chg) (n : Nat), vs = [.ref t, .ref dl, .int (n : Int)] ∧ SqT K H t [.ref fl, .int (n : Int)] ∧ H fl = some (.lst fs) ∧ Chgs K H N fs rs ∧ SqL K H dl ds ∧ Dues K H ds rs ∧
  (∀ r ∈ rs, isN r.2.1 ∧ isN r.2.2 ∧ ∀ m ∈ r.1, okN m = true) ∧ rs.length ≤ 100000 ∧ ∀ H', Gr H H' → Q (.bl true) H'
/-! ### a deed -/
theorem snaps_wth {X : TS} {D : List (List Str)} (w : Wth X D) : ∀ n, Wth (snapsF X n) D
  | 0 => w
  | n + 1 => (snaps_wth w n).snap
theorem put_wth {X X' : TS} {D : List (List Str)} {g : Nat} (ok : X.Ok) (w : Wth X D) {ns : List Str} (hp : PathL ns) {n : Int} (hm : X.S.made ≤ 2800) (h : X.putF ns n = .ok (X', g)) : Wth X' (D ++ [ns]) := by
  rcases TS.putF_ok h with e | e
  · rw [show X' = X from congrArg Prod.fst e]
    exact w.mono ⟨List.length_pos_iff.mpr hp.ne, hp.le⟩
  · rw [show X' = (X.putN ns n).1 from congrArg Prod.fst e]
    exact w.put ok hp n hm
theorem cut_wth {X X' : TS} {D : List (List Str)} {g : Nat} (ok : X.Ok) (w : Wth X D) {ns : List Str} (hp : PathL ns) (hm : X.S.made ≤ 2800) (h : X.cutF ns = .ok (X', g)) : Wth X' D := by
  have h8 := hp.le
  have hl : ns.dropLast.length ≤ 8 := by rw [List.length_dropLast]; omega
  have e := TS.cutF_ok h
  rw [show X' = (X.cutN ns.dropLast (ns.getLastD (Str.ofString ""))).1 from congrArg Prod.fst e]
  refine w.cut ok hl (fun m hm => hp.ok m (List.dropLast_subset ns hm)) hm ?_
  have e2 : ns.dropLast ++ [ns.getLastD (Str.ofString "")] = ns := by
    have := List.dropLast_concat_getLast hp.ne
    rw [List.getLastD_eq_getLast?, List.getLast?_eq_some_getLast hp.ne]
    exact this
  rw [e2]
  unfold TS.cutF at h
  cases q : walkF X.S (some X.top) ns with
  | none => rw [q] at h; cases h
  | some y => rfl
theorem ask_wth {X X' : TS} {D : List (List Str)} {c m : Int} {g : Nat} (ok : X.Ok) (w : Wth X D) (hm : X.S.made ≤ 2800) (h : askF X c m = .ok (X', g)) : ∃ D', Wth X' D' ∧ D'.length ≤ D.length + 1 := by
  have hp := pathA_ok (c / 8)
  have l1 : (D ++ [pathG sizeA (c / 8)]).length ≤ D.length + 1 := by rw [List.length_append, List.length_singleton]; exact Nat.le_refl _
  unfold askF at h
  split at h
  · exact ⟨_, put_wth ok w hp hm h, l1⟩
  · split at h
    · exact ⟨_, cut_wth ok w hp hm h, Nat.le_succ _⟩
    · split at h
      · have h := Except.ok.inj h
        rw [← show (snapsF X (1 + if c / 8 % 16 = 3 then (m % 33).toNat else 0)) = X' from congrArg Prod.fst h]
        exact ⟨_, snaps_wth w _, Nat.le_succ _⟩
      · split at h
        · exact ⟨_, put_wth ok w hp hm h, l1⟩
        · rename_i hne
          have hne : X.nums ≠ [] := fun e => hne (.inl e)
          obtain ⟨z, ez⟩ := ok.shot_of (nthI_at hne (m / 5)).2
          split at h
          · unfold dropO at h
            dsimp only at h
            rw [ez] at h
            have h := Except.ok.inj h
            rw [← show (X.dropN _ z).1 = X' from congrArg Prod.fst h]
            exact ⟨_, w.drop ok ez, Nat.le_succ _⟩
          · unfold backO at h
            dsimp only at h
            rw [ez] at h
            have h := Except.ok.inj h
            rw [← show (X.turn X.S z).1 = X' from congrArg Prod.fst h]
            exact ⟨_, w.back ok ez, Nat.le_succ _⟩
def spDone12 (K : PySem.W.Frag) (CS CP Pb Pn : Addr) : Sp := fun vs H Q _ => ∃ (B : SA) (X : TS) (D : List (List Str)) (c m : Int), vs = [.ref B.p, .int c, .int m] ∧ StAt K CS CP H B X ∧ X.Ok ∧ Wth X D ∧ X.S.made ≤ 2800 ∧ X.taken ≤ 50000 ∧ GxR.TabG H Pb ∧ GxR.TabG H Pn ∧
  ∀ X' D' (g : Nat), X'.Ok → Wth X' D' → D'.length ≤ D.length + 1 → X'.S.made ≤ X.S.made + 9 → X'.taken ≤ X.taken + 33 → SDid K CS CP H B X' (Q (.int (g : Int)))
/-! ### places and numbers compared -/
theorem oV_inj {a b : Option Int} : oV a = oV b ↔ a = b := by
  cases a <;> cases b <;> simp [oV]
theorem scal_oV (a b : Option Int) : scal (oV a) (oV b) = true := by
  cases a <;> cases b <;> rfl
theorem scal_num (a b : Option Bx) : scal (numB a) (numB b) = true := by
  cases a with
  | none => cases b with
    | none => rfl
    | some b => cases b <;> rfl
  | some a => cases b with
    | none => cases a <;> rfl
    | some b => cases a <;> cases b <;> rfl
theorem st_eqO {H : Hp} {Q : VK} {a b : Option Int} (q : Q (.bl (decide (a = b))) H) : rEq (oV a) (oV b) H Q := st_eq (scal_oV a b) (by rw [decide_eq_decide.mpr oV_inj]; exact q)
theorem st_neO {H : Hp} {Q : VK} {a b : Option Int} (q : Q (.bl (!decide (a = b))) H) : rNe (oV a) (oV b) H Q := ⟨scal_oV a b, by rw [decide_eq_decide.mpr oV_inj]; exact q⟩
theorem st_neN {H : Hp} {Q : VK} {a b : Option Bx} (q : Q (.bl (!decide (numB a = numB b))) H) : rNe (numB a) (numB b) H Q := ⟨scal_num a b, q⟩
theorem rows_le {S : PS} {R : List Int} (hi : TInv S R) (o : Option Int) : (rowsO S o).length ≤ 5000 := by
  cases o with
  | none => exact Nat.zero_le _
  | some y =>
    cases ey : S.box y with
    | none => rw [rowsO_none ey]; exact Nat.zero_le _
    | some x => rw [rowsO_some (b := x.1) (c := x.2) ey]; exact hi.ok.len y x ey
theorem st_loopG {J : It} {m : Nat} {G : Hp → Prop} {Y : Nat → V → Prop} {g : L2.TG} {tb : L2.TS} {n : L2.St → Hp → Prop} {rt : VK} {b c : L2.St → Hp → Prop} {σ : L2.St} {H : Hp} (w : Walk J m G (fun i H x H' => H' = H ∧ Y i x)) (Pv : Nat → L2.St → Hp → Prop) (h0 : Pv 0 σ H)
    (hG : ∀ i σ H, i ≤ m → Pv i σ H → G H) (hs : ∀ i x σ H, i < m → Pv i σ H → Y i x → g x σ H fun σ' H' => tb ⟨Pv (i + 1), rt, n, Pv (i + 1)⟩ σ' H') (hd : ∀ σ H, Pv m σ H → n σ H) : LF g tb ⟨n, rt, b, c⟩ σ J H :=
  for_it w Pv h0 hG (fun i x σ H H' hi p y => by
    obtain ⟨rfl, y⟩ := y
    exact hs i x σ H' hi p y) hd
theorem take_flat {α β : Type} {L : List (List α × β)} {i : Nat} {x : List α × β} (h : L[i]? = some x) : ((L.take i).map (·.1)).flatten.length + x.1.length ≤ (L.map (·.1)).flatten.length ∧ ((L.take (i + 1)).map (·.1)).flatten = ((L.take i).map (·.1)).flatten ++ x.1 ∧ (L.take (i + 1)).map (·.2) = (L.take i).map (·.2) ++ [x.2] := by
  obtain ⟨hi, e⟩ := List.getElem?_eq_some_iff.mp h
  have e1 : L.take (i + 1) = L.take i ++ [x] := by rw [List.take_succ_eq_append_getElem hi, e]
  refine ⟨?_, by rw [e1, List.map_append, List.flatten_append] <;> simp, by rw [e1, List.map_append] <;> rfl⟩
  have e2 : (L.map (·.1)).flatten = ((L.take (i + 1)).map (·.1)).flatten ++ ((L.drop (i + 1)).map (·.1)).flatten := by
    rw [← List.flatten_append, ← List.map_append, List.take_append_drop]
  rw [e2, e1, List.map_append, List.flatten_append, List.length_append, List.length_append]
  simp
theorem Trs.gl {K : PySem.W.Frag} {H H' : Hp} {fl : Addr} {ys : List V} (e : H fl = some (.lst ys)) (x : Gl fl H H') {vs : List V} {rs : List Side} (h : Trs K H vs rs) : Trs K H' vs rs := pd_imp (fun _ _ ⟨t, q1, q2⟩ => ⟨t, q1, x.t e q2⟩) h
theorem Trs.gr {K : PySem.W.Frag} {H H' : Hp} (g : Gr H H') {vs : List V} {rs : List Side} (h : Trs K H vs rs) : Trs K H' vs rs := pd_imp (fun _ _ ⟨t, q1, q2⟩ => ⟨t, q1, g.t q2⟩) h
theorem Trs.mut {K : PySem.W.Frag} {H : Hp} {D : Addr} {xs ys : List V} (e : H D = some (.lst xs)) {vs : List V} {rs : List Side} (h : Trs K H vs rs) : Trs K (upd H D (.lst ys)) vs rs := pd_imp (fun _ _ ⟨t, q1, q2⟩ => ⟨t, q1, sqT_mut e q2⟩) h
theorem pd_snoc {α β : Type} {F : α → β → Prop} {l : List α} {k : List β} {a : α} {b : β} (h : Paired F l k) (r : F a b) : Paired F (l ++ [a]) (k ++ [b]) := pd_app h (.cons r .nil)
theorem getD_map (o : Option Int) : (o.map V.int).getD .non = oV o := by cases o <;> rfl
/-! ### what the law's own walks want -/
theorem st_dnewT {σ : L2.St} {H : Hp} {Q : VK} (q : ∀ p, H p = none → Q (.ref p) (upd H p (.dT []))) : tDNewT σ H Q := q
theorem lf_dputT {H : Hp} {a b : Addr} {v : V} {kvs : List (List Key × V)} {k : List Key} {P : Hp → Prop} (h : H a = some (.dT kvs)) (hb : H b = some (.tup (k.map kV))) (hz : kvs.length < 1000000) (q : P (upd H a (.dT (putK kvs k v)))) : ∃ a' H4, V.ref a = .ref a' ∧ DPut H a' (.ref b) v H4 ∧ P H4 := ⟨a, _, rfl, DPut.t h hb (sz_lt hz), q⟩
theorem st_catA {K : PySem.W.Frag} {H : Hp} {Q : VK} {a b : Addr} {p : List Str} {m : Str} (ha : SqT K H a (p.map V.str)) (hb : SqT K H b [.str m]) (hp : p.length ≤ 1000) (q0 : p = [] → Q (.ref b) H) (q : p ≠ [] → ∀ t, H t = none → Q (.ref t) (upd H t (.tup ((p ++ [m]).map V.str)))) : rCatA K (.ref a) (.ref b) H Q :=
  ⟨a, b, _, _, rfl, rfl, ha, hb, by rw [List.length_map, List.length_singleton]; exact sz_of (by omega), fun e => q0 (List.map_eq_nil_iff.mp e), fun _ e => (nomatch e), fun e _ t ht => by
    have := q (fun z => e (by rw [z] <;> rfl)) t ht
    rw [List.map_append] at this
    exact this⟩
theorem prs_pairs {K : PySem.W.Frag} {H : Hp} : ∀ {us : List V} {rs : Rw}, Prs K H us rs → ∃ ps : List Addr, us = ps.map V.ref ∧ Paired (fun p kv => SqT K H p [kV kv.1, kv.2]) ps (rowKv rs)
  | _, _, .nil => ⟨[], rfl, .nil⟩
  | _, _, .cons (p := p) h t => by
    obtain ⟨ps, e, pr⟩ := prs_pairs t
    exact ⟨p :: ps, by rw [e] <;> rfl, .cons h pr⟩
theorem pd_unsnoc {α β : Type} {F : α → β → Prop} : ∀ {l : List α} {k : List β} {b : β}, Paired F l (k ++ [b]) → ∃ l0 a, l = l0 ++ [a] ∧ Paired F l0 k ∧ F a b
  | l, [], b, h => by
    cases h with
    | cons r t =>
      cases t
      exact ⟨[], _, rfl, .nil, r⟩
  | l, c :: k, b, h => by
    cases h with
    | cons r t =>
      obtain ⟨l0, a, e, t0, ra⟩ := pd_unsnoc t
      exact ⟨_ :: l0, a, by rw [e] <;> rfl, .cons r t0, ra⟩
theorem pd_nil {α β : Type} {F : α → β → Prop} {l : List α} (h : Paired F l ([] : List β)) : l = [] := by
  cases h
  rfl
/-- a list of two places -/
def P2At (l : Addr) (H : Hp) (v : V) (p : Pr2) : Prop := ∃ t, v = .ref t ∧ H t = some (.lst [oV p.1, oV p.2]) ∧ t ≠ l
theorem P2At.gr {l : Addr} {H H' : Hp} (g : Gr H H') {vs : List V} {W : List Pr2} (h : Paired (P2At l H) vs W) : Paired (P2At l H') vs W := pd_imp (fun _ _ ⟨t, q1, q2, q3⟩ => ⟨t, q1, g.lst q2, q3⟩) h
theorem P2At.mut {l : Addr} {H : Hp} {o : HO} {vs : List V} {W : List Pr2} (h : Paired (P2At l H) vs W) : Paired (P2At l (upd H l o)) vs W := pd_imp (fun _ _ ⟨t, q1, q2, q3⟩ => ⟨t, q1, by rw [upd_ne q3]; exact q2, q3⟩) h
def oD : Option Int → PyData
  | some z => .int z
  | none => .none
theorem dp_oV {K : PySem.W.Frag} {H : Hp} (o : Option Int) : Dp K H (oV o) (oD o) := by
  cases o
  · exact .non
  · exact .int _
theorem dp_p2 {K : PySem.W.Frag} {H : Hp} {l : Addr} {v : V} {p : Pr2} (h : P2At l H v p) : Dp K H v (.list [oD p.1, oD p.2]) := by
  obtain ⟨t, rfl, h1, _⟩ := h
  exact .lst (.of h1) (.cons (dp_oV _) (.cons (dp_oV _) .nil))
theorem lay_p2 (p : Pr2) : PyData.canLay0 (.list [oD p.1, oD p.2]) = true ∧ PyData.depth (.list [oD p.1, oD p.2]) ≤ 3 := by
  obtain ⟨a, b⟩ := p
  cases a <;> cases b <;> exact ⟨rfl, by simp [oD, PyData.depth, PyData.depthAll]⟩
theorem names_rows (rs : Rw) : (rowKv rs).map (fun kv => kV kv.1) = (rs.map (·.1)).map V.str := by
  unfold rowKv
  rw [List.map_map, List.map_map] <;> rfl
theorem uni_of {a b : Rw} {ns : List Str} (hs : SrtS ns) (hn : ns.Nodup) (hm : ∀ x, x ∈ ns ↔ x ∈ a.map (·.1) ++ b.map (·.1)) : ns = uniN a b := uni_sorted hs hn fun x => by rw [hm, List.mem_append]
theorem oCatA {X : Cx} {K : PySem.W.Frag} (h : X.K = K) : OpR X (binaryOp .Add) (rCatA K) := h ▸ op_catA
theorem st_neTS {K : PySem.W.Frag} {H : Hp} {Q : VK} {a b : Addr} {p : List Str} (ha : SqT K H a (p.map V.str)) (hb : SqT K H b (p.map V.str)) (hp : ∀ m ∈ p, okN m = true) (q : Q (.bl false) H) : rNeD K (.ref a) (.ref b) H Q := by
  obtain ⟨l1, l2⟩ := lay_okN hp
  have sd : SeqAt.shaped (.tuple (p.map PyData.str)) = true := by
    unfold SeqAt.shaped
    rw [PyData.depth]
    show (PyData.canLayAll0 _ && _) = true
    rw [l1, decide_eq_true (by omega)] <;> rfl
  refine ⟨.tuple (p.map PyData.str), .tuple (p.map PyData.str), .tup ha (dp_strs p), .tup hb (dp_strs p), sd, sd, ?_⟩
  rw [SeqAt.eqv_refl _ (SeqAt.canLay_of_shaped sd)]
  exact q
/-! ### many names in one branch -/
def chA (k : Nat) : Nat := ((Str.ofString "cdefgh").cps.toList).getD (k % 6) 0
def chB (k : Nat) : Nat := ((Str.ofString "ijklmno").cps.toList).getD (k / 6) 0
abbrev strB : Str := Str.ofString "b"
def fillN (k : Nat) : Str := (⟨#[chA k]⟩ : Str) ++ repS ⟨#[chB k]⟩ (1 + k % 3)
theorem fillN_ok {k : Nat} (h : k < 42) : okN (fillN k) = true := by
  have : ((List.range 42).all fun k => okN (fillN k)) = true := by decide +kernel
  exact List.all_eq_true.mp this k (List.mem_range.mpr h)
theorem chA_at (k : Nat) : atI (Str.ofString "cdefgh").cps.toList ((k % 6 : Nat) : Int) = some (chA k) := by
  have hl : (Str.ofString "cdefgh").cps.toList.length = 6 := by decide +kernel
  refine atI_nat ?_
  unfold chA
  rw [List.getD_eq_getElem?_getD, List.getElem?_eq_getElem (by rw [hl]; omega)] <;> rfl
theorem chB_at {k : Nat} (h : k < 42) : atI (Str.ofString "ijklmno").cps.toList ((k / 6 : Nat) : Int) = some (chB k) := by
  have hl : (Str.ofString "ijklmno").cps.toList.length = 7 := by decide +kernel
  refine atI_nat ?_
  unfold chB
  rw [List.getD_eq_getElem?_getD, List.getElem?_eq_getElem (by rw [hl]; omega)] <;> rfl
theorem pathL_two {m : Str} (h : okN m = true) : PathL [strB, m] := ⟨by simp, by simp, fun k hk => by
  rcases List.mem_cons.mp hk with e | hk
  · rw [e]; decide +kernel
  · rw [List.mem_singleton.mp hk]; exact h⟩
/-- leaves two names deep, branches above them -/
def Two (X : TS) : Prop := ∀ ns b, AtB X.S (some X.top) ns = some b → (isLf (some b) = true → ns.length = 2) ∧ (isBr (some b) = true → ns.length < 2)
theorem Two.new : Two TS.new := fun ns b e => by
  have hb : bxO TS.new.S (some 1) = some (.branch []) := bxO_some (c := 1) (by rw [TS.new_box, if_pos rfl])
  have e : AtB TS.new.S (some 1) ns = some b := e
  cases ns with
  | nil =>
    rw [AtB.nil, hb] at e
    cases e
    exact ⟨fun l => (nomatch l), fun _ => Nat.zero_lt_two⟩
  | cons m ns =>
    have en : nextF TS.new.S (some 1) m = none := by unfold nextF; rw [rowsO_bx, hb] <;> rfl
    rw [AtB.cons, en, AtB.none] at e
    cases e
section
variable {X : TS}
theorem Two.put (ok : X.Ok) (w : Two X) {x y : Str} (hp : PathL [x, y]) (n : Int) (hm : X.S.made ≤ 2800) : Two (X.putN [x, y] n).1 := fun ns b e => by
  have tm := ok.putMid hp.ok n (by have := hp.le; omega)
  have hb : isBr (bxO (X.putS [x, y] n).1 (some (X.putS [x, y] n).2)) = true := isBr_lead _ _ (pairsF_ne _ _ hp.ne)
  have ok' := ok.turn tm (ok.putExt [x, y] n) hb
  have l : Les ((X.putS [x, y] n).1.hold (X.putS [x, y] n).2) (X.turn (X.putS [x, y] n).1 (X.putS [x, y] n).2).1.S := Les.letGo _ X.top
  have e : AtB (X.turn (X.putS [x, y] n).1 (X.putS [x, y] n).2).1.S (some (X.putS [x, y] n).2) ns = some b := e
  rw [AtB.les (z := (X.putS [x, y] n).2) (tm.toTInv.hold tm.is) ok'.t.toTInv l (ok'.t.there _ List.mem_cons_self), AtB.hold] at e
  have hL0 : Lo (X.S.new (.leaf n)) := Lo.of (ok.t.leaf n (by omega)).toTInv
  have hbn : bxO (X.S.new (.leaf n)) (some ((X.S.made : Int) + 1)) = some (.leaf n) := by rw [bxO_new, if_pos rfl]
  obtain ⟨L, _, _⟩ := lead_at ok.t.toTInv hL0 (Ext.new X.S (.leaf n)) (z := (X.S.made : Int) + 1) (by show _ ≤ ((X.S.made + 1 : Nat) : Int); omega) [x, y] (some X.top) ok.fit
  rcases L ns b e with ⟨p0, _, p2⟩ | ⟨r, rfl, p2⟩ | p
  · refine ⟨fun l => ?_, fun _ => p0⟩
    cases b with
    | leaf v => cases p2
    | branch rs => cases l
  · cases r with
    | nil =>
      rw [AtB.nil, hbn] at p2
      cases p2
      exact ⟨fun _ => rfl, fun q => nomatch q⟩
    | cons m r =>
      have en : nextF (X.S.new (.leaf n)) (some ((X.S.made : Int) + 1)) m = none := by unfold nextF; rw [rowsO_bx, hbn] <;> rfl
      rw [AtB.cons, en, AtB.none] at p2
      cases p2
  · exact w ns b p
theorem Two.snap (w : Two X) : Two X.snapF := fun ns b e => w ns b (by
  have e : AtB (X.S.hold X.top) (some X.top) ns = some b := e
  rw [AtB.hold] at e
  exact e)
/-- such a put is not refused -/
theorem Two.goes (ok : X.Ok) (w : Two X) {x y : Str} (hp : PathL [x, y]) (n : Int) (hm : X.S.made ≤ 2800) : ∃ X' g, X.putF [x, y] n = .ok (X', g) ∧ Two X' := by
  have h0 : isLf (bxO X.S (some X.top)) = false := by
    cases e : bxO X.S (some X.top) with
    | none => rfl
    | some b =>
      cases h : isLf (some b) with
      | false => rfl
      | true => exact absurd ((w [] b e).1 h) (by decide)
  have h1 : isLf (bxO X.S (nextF X.S (some X.top) x)) = false := by
    cases e : bxO X.S (nextF X.S (some X.top) x) with
    | none => rfl
    | some b =>
      cases h : isLf (some b) with
      | false => rfl
      | true => exact absurd ((w [x] b e).1 h) (by simp)
  have hl : X.leafOn [x, y] = false := by
    unfold TS.leafOn pairsF pairsF pairsF
    simp [h0, h1]
  have h2 : isBr (bxO X.S (walkF X.S (some X.top) [x, y])) = false := by
    cases e : bxO X.S (walkF X.S (some X.top) [x, y]) with
    | none => rfl
    | some b =>
      cases h : isBr (some b) with
      | false => rfl
      | true => exact absurd ((w [x, y] b e).2 h) (by simp)
  unfold TS.putF
  rw [if_neg (by rw [hl]; exact Bool.false_ne_true), if_neg (by rw [h2]; exact Bool.false_ne_true)]
  by_cases q : numB (bxO X.S (walkF X.S (some X.top) [x, y])) = .int n
  · rw [if_pos q]
    exact ⟨X, 0, rfl, w⟩
  · rw [if_neg q]
    exact ⟨_, _, rfl, w.put ok hp n hm⟩
end
def spLawS (K : PySem.W.Frag) (Pn Pb : Addr) : Sp := fun vs H Q _ => ∃ (l : Addr) (ns : List Int), vs = [.ref l] ∧ SqL K H l (ns.map V.int) ∧ ns.length ≤ 63 ∧ GxR.TabG H Pb ∧ GxR.TabG H Pn ∧ ∀ H', Q (.bl true) H'
/-! ### what the law holds against each other -/
theorem keys_rows {H : Hp} : ∀ {kvs : List (List Key × V)} {bs : List Addr}, IsKeys H kvs bs → ∃ ks : List XS.Row, bs.map V.ref = ks.map (fun p => V.ref p.1) ∧ (∀ p ∈ ks, H p.1 = some (.tup (p.2.map kV))) ∧ ks.map (·.2) = kvs.map (·.1)
  | _, _, .nil => ⟨[], rfl, (fun p hp => nomatch hp), rfl⟩
  | _, _, .cons (a := kv) (b := b) h t => by
    obtain ⟨ks, e1, e2, e3⟩ := keys_rows t
    refine ⟨(b, kv.1) :: ks, by rw [List.map_cons, e1] <;> rfl, fun p hp => ?_, by rw [List.map_cons, e3] <;> rfl⟩
    rcases List.mem_cons.mp hp with e | hp
    · rw [e]; exact h
    · exact e2 p hp
def unK (k : XS.XK) : List Str := k.map fun x => match x with
  | .inr y => y
  | .inl _ => ⟨#[]⟩
theorem unK_map (ns : List Str) : unK (ns.map Sum.inr) = ns := by
  unfold unK
  rw [List.map_map]
  exact List.map_id'' (fun _ => rfl) ns
theorem at_okN {S : PS} {R : List Int} (hi : TInv S R) : ∀ (ns : List Str) (o : Option Int), AtB S o ns ≠ none → ∀ m ∈ ns, okN m = true
  | [], _, _, _, hm => nomatch hm
  | k :: ns, o, h, m, hm => by
    rw [AtB.cons] at h
    cases e : nextF S o k with
    | none => rw [e, AtB.none] at h; exact absurd rfl h
    | some y =>
      rw [e] at h
      rcases List.mem_cons.mp hm with q | hm
      · rw [q]
        unfold nextF findR at e
        obtain ⟨u, eu, _⟩ := Option.map_eq_some_iff.mp e
        have h5 : u.1 = k := by simpa using List.find?_some eu
        rw [← h5]
        exact (rowsO_srt hi o).2.1 u (List.mem_of_find?_eq_some eu)
      · exact at_okN hi ns _ h m hm
theorem nAt_at {S : PS} {o : Option Int} {ns : List Str} (h : nAt S o ns ≠ .non) : AtB S o ns ≠ none := fun e => h (by unfold nAt; rw [e] <;> rfl)
theorem isN_num (b : Option Bx) : isN (numB b) := by
  cases b with
  | none => exact .inl rfl
  | some b => cases b with
    | leaf n => exact .inr ⟨n, rfl⟩
    | branch rs => exact .inl rfl
theorem chg_ok {S : PS} {R : List Int} (hi : TInv S R) {a b : Option Int} (ha : FlatN S 9 a) (hb : FlatN S 9 b) : ∀ r ∈ (cmpF S 9 [] a b).1, isN r.2.1 ∧ isN r.2.2 ∧ ∀ m ∈ r.1, okN m = true := fun r hr => by
  obtain ⟨ns, rfl, ne⟩ := (mem_cmpF 9 [] a b ha hb r).mp hr
  refine ⟨isN_num _, isN_num _, fun m hm => ?_⟩
  by_cases e : nAt S a ns = .non
  · rw [e] at ne
    exact at_okN hi ns b (nAt_at fun z => ne z.symm) m hm
  · exact at_okN hi ns a (nAt_at e) m hm
theorem view_at {X : TS} (ok : X.Ok) {j : Nat} (hj : j < (V.non :: (X.shots.map (·.1)).map V.int).length) : ∃ x v z, (V.non :: (X.shots.map (·.1)).map V.int)[j]? = some x ∧ (∀ K H, VwIn K H x v) ∧ X.vw v = some z ∧ z ∈ X.top :: X.shots.map (·.2) := by
  cases j with
  | zero => exact ⟨.non, .tree, X.top, rfl, fun _ _ => rfl, rfl, List.mem_cons_self⟩
  | succ j =>
    rw [List.length_cons, List.length_map, List.length_map] at hj
    have hj : j < X.shots.length := by omega
    have hk : X.shots[j].1 ∈ X.nums := List.mem_map.mpr ⟨_, List.getElem_mem hj, rfl⟩
    obtain ⟨z, ez⟩ := ok.shot_of hk
    refine ⟨.int X.shots[j].1, .shot X.shots[j].1, z, ?_, fun _ _ => rfl, ez, List.mem_cons_of_mem _ (List.mem_map.mpr ⟨_, findI_mem ez, rfl⟩)⟩
    rw [List.getElem?_cons_succ, List.getElem?_map, List.getElem?_map, List.getElem?_eq_getElem hj] <;> rfl
theorem Dues.gr {K : PySem.W.Frag} {H H' : Hp} (g : Gr H H') {vs : List V} {rs : List Chg} (h : Dues K H vs rs) : Dues K H' vs rs := pd_imp (fun _ _ ⟨t, p, q1, q2, q3⟩ => ⟨t, p, q1, g.t q2, g.tup q3⟩) h
theorem Dues.gl {K : PySem.W.Frag} {H H' : Hp} {fl : Addr} {ys : List V} (e : H fl = some (.lst ys)) (x : Gl fl H H') {vs : List V} {rs : List Chg} (h : Dues K H vs rs) : Dues K H' vs rs := pd_imp (fun _ _ ⟨t, p, q1, q2, q3⟩ => ⟨t, p, q1, x.t e q2, x.keep _ _ q3 (ne_of q3 e (by intro z; cases z)) (fun _ z => by cases z)⟩) h
theorem Dues.mut {K : PySem.W.Frag} {H : Hp} {D : Addr} {xs ys : List V} (e : H D = some (.lst xs)) {vs : List V} {rs : List Chg} (h : Dues K H vs rs) : Dues K (upd H D (.lst ys)) vs rs := pd_imp (fun _ _ ⟨t, p, q1, q2, q3⟩ => ⟨t, p, q1, sqT_mut e q2, by rw [upd_ne (ne_of q3 e (by intro z; cases z))]; exact q3⟩) h
theorem dueF_take {S : PS} {a b : Option Int} {L : List (List Str)} {i : Nat} {ns : List Str} (h : L[i]? = some ns) : dueF S a b (L.take (i + 1)) = if nAt S a ns = nAt S b ns then dueF S a b (L.take i) else dueF S a b (L.take i) ++ [(ns, nAt S a ns, nAt S b ns)] := by
  obtain ⟨hi, e⟩ := List.getElem?_eq_some_iff.mp h
  unfold dueF
  rw [List.take_succ_eq_append_getElem hi, e, List.filter_append, List.map_append]
  by_cases q : nAt S a ns = nAt S b ns
  · rw [if_pos q, List.filter_cons_of_neg (by simp [q])]
    simp
  · rw [if_neg q, List.filter_cons_of_pos (by simp [q])] <;> rfl
def swp (r : Chg) : Chg := (r.1, r.2.2, r.2.1)
/-- the sorted keys of both: the paths in order, all leaves' paths among them -/
theorem sorted_paths {L' : List XS.Row} {La Lb : List (List Str)} (hk : ∀ p ∈ L', ∃ ns : List Str, p.2 = ns.map Sum.inr) (nd : (L'.map (·.2)).Nodup) (pw : L'.Pairwise (fun q r => lexLt itemOrd (XS.pk r.2) (XS.pk q.2) = false)) : (L'.map fun p => unK p.2).Pairwise fun p q => ltP p q = true := by
  rw [List.pairwise_map]
  rw [List.nodup_iff_pairwise_ne, List.pairwise_map] at nd
  refine (pw.and nd).imp_of_mem fun {q r} hq hr ⟨h1, h2⟩ => ?_
  obtain ⟨n1, e1⟩ := hk q hq
  obtain ⟨n2, e2⟩ := hk r hr
  rw [e1, e2] at h1 h2
  rw [e1, e2, unK_map, unK_map]
  cases c : ltP n1 n2 with
  | true => rfl
  | false => exact absurd (by rw [ltP_or c h1]) h2
end My
namespace My
open PySem PySem.Spec PyProof.Rows L2
local macro_rules | `(tactic| walk_at "v") => `(tactic| ((with_reducible show tVar _ _ _ _); (refine st_var (by rfl) ?_)))
local macro_rules | `(tactic| walk_at "sx") => `(tactic| first
  | walk_at "v"
  | with_reducible refine st_c ?_
  | with_reducible refine st_fld ?_
  | with_reducible refine st_meth ?_
  | with_reducible refine st_putFld ?_
  | with_reducible refine st_op ?_
  | with_reducible refine st_seq ?_
  | with_reducible refine st_asg ?_
  | with_reducible refine st_ifS ?_
  | with_reducible refine st_next ?_
  | with_reducible refine st_ret ?_
  | with_reducible refine st_drop ?_
  | with_reducible refine st_nil ?_
  | with_reducible refine st_cons ?_
  | with_reducible refine st_CB ?_
  | with_reducible refine st_call ?_
  | with_reducible refine st_test ?_
  | with_reducible refine st_tB ?_
  | with_reducible refine st_bl ?_
  | with_reducible refine st_and ?_
  | with_reducible refine st_or ?_
  | with_reducible refine st_not ?_
  | with_reducible refine st_yes ?_
  | with_reducible refine st_andV ?_
  | with_reducible refine st_orV ?_
  | with_reducible refine st_notV ?_
  | with_reducible refine st_ifE ?_
  | with_reducible refine st_chain ?_
  | with_reducible refine st_I0 ?_
  | with_reducible refine st_m1 ?_
  | with_reducible refine st_bm ?_
  | with_reducible refine st_lst ?_
  | with_reducible refine st_tup ?_
  | with_reducible refine st_sl ?_
  | with_reducible refine st_noPart ?_
  | with_reducible refine st_part ?_
  | with_reducible refine st_exi ?_
  | with_reducible refine st_asgSub ?_
  | with_reducible refine st_lc ?_
  | with_reducible refine st_for ?_
  | with_reducible refine st_iL ?_
  | with_reducible refine st_iT ?_
  | with_reducible refine st_iR ?_
  | with_reducible refine st_iS ?_
  | with_reducible refine st_exS ?_
  | with_reducible refine st_starts ?_
  | ((with_reducible refine st_eqS ?hsc ?_); (case hsc => rfl))
  | ((with_reducible refine st_neS ?hsc ?_); (case hsc => rfl))
  | ((with_reducible refine st_eq ?hsc ?_); (case hsc => rfl))
  | ((with_reducible refine st_ne ?hsc ?_); (case hsc => rfl))
  | with_reducible refine st_inSign ?_
  | with_reducible refine isNo_non ?_
  | with_reducible refine isNo_int ?_
  | with_reducible refine isNo_ref ?_
  | with_reducible refine isNo_str ?_
  | with_reducible refine isNot_non ?_
  | with_reducible refine isNot_int ?_
  | with_reducible refine isNot_ref ?_
  | with_reducible refine isNot_str ?_
  | with_reducible refine st_isNo ?_
  | with_reducible refine st_strx ?_
  | with_reducible refine st_tAllS ?_
  | with_reducible refine iteT ?_
  | with_reducible refine iteNT ?_
  | with_reducible refine iteNF ?_
  | with_reducible refine iteF ?_)
local macro_rules | `(tactic| walk_at "sq") => `(tactic| first
  | assumption
  | (refine Gr.l (by assumption) ?_; walk_at "sq")
  | (refine Gr.t (by assumption) ?_; walk_at "sq")
  | (refine Gr.ty (by assumption) ?_; walk_at "sq")
  | (refine Gr.lst (by assumption) ?_; walk_at "sq")
  | (refine Gr.tab (by assumption) _ ?_; walk_at "sq"))
local macro_rules | `(tactic| walk_at "new") => `(tactic| (intro p hp; generalize hH : upd _ p _ = H2; have g := gr_of hp hH; have e := at_of hH; clear hH))
local macro_rules | `(tactic| walk_at "dx") => `(tactic| first
  | with_reducible refine st_bm0 ?_
  | with_reducible refine st_make ?_
  | with_reducible refine st_fldAug ?_
  | with_reducible refine st_dget ?_
  | with_reducible refine st_din ?_
  | with_reducible refine st_dnotin ?_
  | with_reducible refine st_dput ?_
  | with_reducible refine st_daug ?_
  | with_reducible refine st_ddel ?_
  | with_reducible refine st_dget2 ?_
  | with_reducible refine st_dpop2 ?_
  | with_reducible refine st_dnewK ?_
  | with_reducible refine st_delL ?_
  | with_reducible refine st_ltS ?_)
/-! ### the text by places -/
def top (i : Nat) : Stmt := PySem.Challenge.pw_snaptree_k12_whole_changes_told.main.body.getD i (.Pass ⟨0, 0, 0, 0⟩)
abbrev s_wall : Stmt := top 0
abbrev sisName : Stmt := top 13
abbrev schecked : Stmt := top 14
abbrev sisWhole : Stmt := top 17
abbrev sisLeafNumber : Stmt := top 18
abbrev splInit : Stmt := inClass (top 20) 0
abbrev splLeaf : Stmt := inClass (top 20) 1
abbrev splBranch : Stmt := inClass (top 20) 2
abbrev splContent : Stmt := inClass (top 20) 3
abbrev splHold : Stmt := inClass (top 20) 4
abbrev splHolders : Stmt := inClass (top 20) 5
abbrev splLetGo : Stmt := inClass (top 20) 6
abbrev splKept : Stmt := inClass (top 20) 7
abbrev splKindOf : Stmt := inClass (top 20) 8
abbrev splNumberOf : Stmt := inClass (top 20) 9
abbrev splRowsOf : Stmt := inClass (top 20) 10
abbrev splNext : Stmt := inClass (top 20) 11
abbrev splRefuse : Stmt := inClass (top 20) 12
abbrev splLowered : Stmt := inClass (top 20) 13
abbrev splTaken : Stmt := inClass (top 20) 14
abbrev sboxOf : Stmt := top 22
abbrev splaced : Stmt := top 23
abbrev swithout : Stmt := top 24
abbrev splace : Stmt := top 25
abbrev sisAt : Stmt := top 26
abbrev sboxesOn : Stmt := top 28
abbrev scompare : Stmt := top 29
abbrev ssideBy : Stmt := top 30
abbrev sstInit : Stmt := inClass (top 32) 0
abbrev sstPut : Stmt := inClass (top 32) 1
abbrev sstCut : Stmt := inClass (top 32) 2
abbrev sstDrop : Stmt := inClass (top 32) 3
abbrev sstBack : Stmt := inClass (top 32) 4
abbrev sstSnap : Stmt := inClass (top 32) 5
abbrev sstShots : Stmt := inClass (top 32) 6
abbrev sstTop : Stmt := inClass (top 32) 7
abbrev sstKind : Stmt := inClass (top 32) 8
abbrev sstValue : Stmt := inClass (top 32) 9
abbrev sstNames : Stmt := inClass (top 32) 10
abbrev sstChanges : Stmt := inClass (top 32) 11
abbrev sstShotTop : Stmt := inClass (top 32) 12
abbrev sstBoxAt : Stmt := inClass (top 32) 13
abbrev sstLeadTo : Stmt := inClass (top 32) 14
abbrev sstTurnTo : Stmt := inClass (top 32) 15
abbrev snamesBelow : Stmt := top 33
abbrev swhole : Stmt := top 35
abbrev scell : Stmt := top 36
abbrev snameBy : Stmt := top 37
abbrev spathBy : Stmt := top 38
abbrev snumberBy : Stmt := top 39
abbrev scount : Stmt := top 40
abbrev saskedL : Stmt := top 41
abbrev sdoneL : Stmt := top 42
abbrev srowsL : Stmt := top 43
abbrev sleavesL : Stmt := top 44
abbrev slookedL : Stmt := top 45
abbrev stoldL : Stmt := top 46
abbrev slaw : Stmt := top 47
structure Txt (K : PySem.W.Frag) (mg : Str → Option Value) (C_Pile C_Store E_NoBox E_SnapError E_BadPath E_BadNumber E_LeafThere E_BranchThere E_Nothing E_NoShot Pt_is_name Pt_branch : Addr) : Prop where
  len : mg "len" = none
  isinstance : mg "isinstance" = none
  range : mg "range" = none
  sorted : mg "sorted" = none
  all : mg "all" = none
  max : mg "max" = none
  int : mg "int" = none
  bool : mg "bool" = none
  str : mg "str" = none
  list : mg "list" = none
  tuple : mg "tuple" = none
  ValueError : mg "ValueError" = none
  reversed : mg "reversed" = none
  zip : mg "zip" = none
  min : mg "min" = none
  set : mg "set" = none
  dict : mg "dict" = none
  mg_LONGEST_NAME : ∃ t, mg "LONGEST_NAME" = some (.int 8 t)
  mg_LONGEST_PATH : ∃ t, mg "LONGEST_PATH" = some (.int 8 t)
  mg_LIMIT : ∃ t, mg "LIMIT" = some (.int 1000000000000000000000000000000 t)
  cl_Pile : Cls K C_Pile
  mg_Pile : mg "Pile" = some (.ref C_Pile)
  n_Pile_made : NoAttr K C_Pile "made"
  n_Pile__counts : NoAttr K C_Pile "_counts"
  n_Pile__numbers : NoAttr K C_Pile "_numbers"
  n_Pile__rows : NoAttr K C_Pile "_rows"
  cl_Store : Cls K C_Store
  mg_Store : mg "Store" = some (.ref C_Store)
  n_Store_pile : NoAttr K C_Store "pile"
  n_Store__top : NoAttr K C_Store "_top"
  n_Store__shot_tops : NoAttr K C_Store "_shot_tops"
  n_Store__shots_taken : NoAttr K C_Store "_shots_taken"
  mg_NoBox : mg "NoBox" = some (.ref E_NoBox)
  x_NoBox : PySem.W.excIn K E_NoBox [.type "ValueError", .type "Exception", .type "BaseException", .type "object"] "ValueError.__new__" = true
  k_NoBox : PySem.W.keepIn K (.ref E_NoBox) = true
  b_NoBox : PySem.W.subIn K (.ref E_NoBox) (.type "BaseException") = some true
  t_NoBox : PySem.W.typeIn K (.ref E_NoBox) = some (.type "type")
  e_NoBox : PySem.W.exmOne K (.ref E_NoBox) (.ref E_NoBox) = some true
  c_NoBox : ExcC K E_NoBox
  mg_SnapError : mg "SnapError" = some (.ref E_SnapError)
  x_SnapError : PySem.W.excIn K E_SnapError [.type "ValueError", .type "Exception", .type "BaseException", .type "object"] "ValueError.__new__" = true
  k_SnapError : PySem.W.keepIn K (.ref E_SnapError) = true
  b_SnapError : PySem.W.subIn K (.ref E_SnapError) (.type "BaseException") = some true
  t_SnapError : PySem.W.typeIn K (.ref E_SnapError) = some (.type "type")
  e_SnapError : PySem.W.exmOne K (.ref E_SnapError) (.ref E_SnapError) = some true
  c_SnapError : ExcC K E_SnapError
  mg_BadPath : mg "BadPath" = some (.ref E_BadPath)
  x_BadPath : PySem.W.excIn K E_BadPath [.type "ValueError", .type "Exception", .type "BaseException", .type "object"] "ValueError.__new__" = true
  k_BadPath : PySem.W.keepIn K (.ref E_BadPath) = true
  b_BadPath : PySem.W.subIn K (.ref E_BadPath) (.type "BaseException") = some true
  t_BadPath : PySem.W.typeIn K (.ref E_BadPath) = some (.type "type")
  e_BadPath : PySem.W.exmOne K (.ref E_BadPath) (.ref E_BadPath) = some true
  c_BadPath : ExcC K E_BadPath
  mg_BadNumber : mg "BadNumber" = some (.ref E_BadNumber)
  x_BadNumber : PySem.W.excIn K E_BadNumber [.type "ValueError", .type "Exception", .type "BaseException", .type "object"] "ValueError.__new__" = true
  k_BadNumber : PySem.W.keepIn K (.ref E_BadNumber) = true
  b_BadNumber : PySem.W.subIn K (.ref E_BadNumber) (.type "BaseException") = some true
  t_BadNumber : PySem.W.typeIn K (.ref E_BadNumber) = some (.type "type")
  e_BadNumber : PySem.W.exmOne K (.ref E_BadNumber) (.ref E_BadNumber) = some true
  c_BadNumber : ExcC K E_BadNumber
  mg_LeafThere : mg "LeafThere" = some (.ref E_LeafThere)
  x_LeafThere : PySem.W.excIn K E_LeafThere [.type "ValueError", .type "Exception", .type "BaseException", .type "object"] "ValueError.__new__" = true
  k_LeafThere : PySem.W.keepIn K (.ref E_LeafThere) = true
  b_LeafThere : PySem.W.subIn K (.ref E_LeafThere) (.type "BaseException") = some true
  t_LeafThere : PySem.W.typeIn K (.ref E_LeafThere) = some (.type "type")
  e_LeafThere : PySem.W.exmOne K (.ref E_LeafThere) (.ref E_LeafThere) = some true
  c_LeafThere : ExcC K E_LeafThere
  mg_BranchThere : mg "BranchThere" = some (.ref E_BranchThere)
  x_BranchThere : PySem.W.excIn K E_BranchThere [.type "ValueError", .type "Exception", .type "BaseException", .type "object"] "ValueError.__new__" = true
  k_BranchThere : PySem.W.keepIn K (.ref E_BranchThere) = true
  b_BranchThere : PySem.W.subIn K (.ref E_BranchThere) (.type "BaseException") = some true
  t_BranchThere : PySem.W.typeIn K (.ref E_BranchThere) = some (.type "type")
  e_BranchThere : PySem.W.exmOne K (.ref E_BranchThere) (.ref E_BranchThere) = some true
  c_BranchThere : ExcC K E_BranchThere
  mg_Nothing : mg "Nothing" = some (.ref E_Nothing)
  x_Nothing : PySem.W.excIn K E_Nothing [.type "ValueError", .type "Exception", .type "BaseException", .type "object"] "ValueError.__new__" = true
  k_Nothing : PySem.W.keepIn K (.ref E_Nothing) = true
  b_Nothing : PySem.W.subIn K (.ref E_Nothing) (.type "BaseException") = some true
  t_Nothing : PySem.W.typeIn K (.ref E_Nothing) = some (.type "type")
  e_Nothing : PySem.W.exmOne K (.ref E_Nothing) (.ref E_Nothing) = some true
  c_Nothing : ExcC K E_Nothing
  mg_NoShot : mg "NoShot" = some (.ref E_NoShot)
  x_NoShot : PySem.W.excIn K E_NoShot [.type "ValueError", .type "Exception", .type "BaseException", .type "object"] "ValueError.__new__" = true
  k_NoShot : PySem.W.keepIn K (.ref E_NoShot) = true
  b_NoShot : PySem.W.subIn K (.ref E_NoShot) (.type "BaseException") = some true
  t_NoShot : PySem.W.typeIn K (.ref E_NoShot) = some (.type "type")
  e_NoShot : PySem.W.exmOne K (.ref E_NoShot) (.ref E_NoShot) = some true
  c_NoShot : ExcC K E_NoShot
  up_BadPath : PySem.W.exmOne K (.ref E_BadPath) (.ref E_SnapError) = some true
  up_BadNumber : PySem.W.exmOne K (.ref E_BadNumber) (.ref E_SnapError) = some true
  up_Nothing : PySem.W.exmOne K (.ref E_Nothing) (.ref E_SnapError) = some true
  up_LeafThere : PySem.W.exmOne K (.ref E_LeafThere) (.ref E_SnapError) = some true
  up_BranchThere : PySem.W.exmOne K (.ref E_BranchThere) (.ref E_SnapError) = some true
  up_NoShot : PySem.W.exmOne K (.ref E_NoShot) (.ref E_SnapError) = some true
structure Cs_plRefuse (P : Program) (w : World) (K : PySem.W.Frag) (mg : Str → Option Value) (base : Heap) (C_Pile C_Store E_NoBox E_SnapError E_BadPath E_BadNumber E_LeafThere E_BranchThere E_Nothing E_NoShot Pt_is_name Pt_branch : Addr) : Prop where
  isWhole : Df P w K mg base 1 "is_whole" ["thing"] (spIsWhole K)
structure Cs_plBranch (P : Program) (w : World) (K : PySem.W.Frag) (mg : Str → Option Value) (base : Heap) (C_Pile C_Store E_NoBox E_SnapError E_BadPath E_BadNumber E_LeafThere E_BranchThere E_Nothing E_NoShot Pt_is_name Pt_branch : Addr) : Prop where
  plRefuse : Mf P w K mg base 2 C_Pile "_refuse_unless_there" ["self", "box"] (spRefuse K C_Pile E_NoBox)
  plNext : Mf P w K mg base 1 C_Pile "_next_box" ["self"] (spNext C_Pile)
structure Cs_plHold (P : Program) (w : World) (K : PySem.W.Frag) (mg : Str → Option Value) (base : Heap) (C_Pile C_Store E_NoBox E_SnapError E_BadPath E_BadNumber E_LeafThere E_BranchThere E_Nothing E_NoShot Pt_is_name Pt_branch : Addr) : Prop where
  plRefuse : Mf P w K mg base 2 C_Pile "_refuse_unless_there" ["self", "box"] (spRefuse K C_Pile E_NoBox)
structure Cs_stInit (P : Program) (w : World) (K : PySem.W.Frag) (mg : Str → Option Value) (base : Heap) (C_Pile C_Store E_NoBox E_SnapError E_BadPath E_BadNumber E_LeafThere E_BranchThere E_Nothing E_NoShot Pt_is_name Pt_branch : Addr) : Prop where
  mk_Pile : Mi P w K mg base 1 C_Pile "Pile" ["self"] (spInit K C_Pile)
  plBranch : Mf P w K mg base 3 C_Pile "branch" ["self", "rows"] (spBranch K C_Pile E_NoBox Pt_branch)
  plHold : Mf P w K mg base 3 C_Pile "hold" ["self", "box"] (spHold K C_Pile E_NoBox)
structure Cs_checked (P : Program) (w : World) (K : PySem.W.Frag) (mg : Str → Option Value) (base : Heap) (C_Pile C_Store E_NoBox E_SnapError E_BadPath E_BadNumber E_LeafThere E_BranchThere E_Nothing E_NoShot Pt_is_name Pt_branch : Addr) : Prop where
  isName : Df P w K mg base 1 "is_name" ["thing"] (spIsName K Pt_is_name)
structure Cs_namesBelow (P : Program) (w : World) (K : PySem.W.Frag) (mg : Str → Option Value) (base : Heap) (C_Pile C_Store E_NoBox E_SnapError E_BadPath E_BadNumber E_LeafThere E_BranchThere E_Nothing E_NoShot Pt_is_name Pt_branch : Addr) : Prop where
  checked : Df P w K mg base 2 "checked" ["path"] (spChecked K Pt_is_name E_BadPath)
structure Cs_isLeafNumber (P : Program) (w : World) (K : PySem.W.Frag) (mg : Str → Option Value) (base : Heap) (C_Pile C_Store E_NoBox E_SnapError E_BadPath E_BadNumber E_LeafThere E_BranchThere E_Nothing E_NoShot Pt_is_name Pt_branch : Addr) : Prop where
  isWhole : Df P w K mg base 1 "is_whole" ["thing"] (spIsWhole K)
structure Cs_boxOf (P : Program) (w : World) (K : PySem.W.Frag) (mg : Str → Option Value) (base : Heap) (C_Pile C_Store E_NoBox E_SnapError E_BadPath E_BadNumber E_LeafThere E_BranchThere E_Nothing E_NoShot Pt_is_name Pt_branch : Addr) : Prop where
  place : Df P w K mg base 1 "_place" ["rows", "name"] (spPlace K)
  isAt : Df P w K mg base 1 "_is_at" ["rows", "name", "at"] (spIsAt K)
structure Cs_boxesOn (P : Program) (w : World) (K : PySem.W.Frag) (mg : Str → Option Value) (base : Heap) (C_Pile C_Store E_NoBox E_SnapError E_BadPath E_BadNumber E_LeafThere E_BranchThere E_Nothing E_NoShot Pt_is_name Pt_branch : Addr) : Prop where
  boxOf : Df P w K mg base 2 "box_of" ["rows", "name"] (spBoxOf K)
  plRowsOf : Mf P w K mg base 1 C_Pile "rows_of" ["self", "box"] (spRowsOf K C_Pile)
structure Cs_placed (P : Program) (w : World) (K : PySem.W.Frag) (mg : Str → Option Value) (base : Heap) (C_Pile C_Store E_NoBox E_SnapError E_BadPath E_BadNumber E_LeafThere E_BranchThere E_Nothing E_NoShot Pt_is_name Pt_branch : Addr) : Prop where
  place : Df P w K mg base 1 "_place" ["rows", "name"] (spPlace K)
  isAt : Df P w K mg base 1 "_is_at" ["rows", "name", "at"] (spIsAt K)
structure Cs_plLetGo (P : Program) (w : World) (K : PySem.W.Frag) (mg : Str → Option Value) (base : Heap) (C_Pile C_Store E_NoBox E_SnapError E_BadPath E_BadNumber E_LeafThere E_BranchThere E_Nothing E_NoShot Pt_is_name Pt_branch : Addr) : Prop where
  plRefuse : Mf P w K mg base 2 C_Pile "_refuse_unless_there" ["self", "box"] (spRefuse K C_Pile E_NoBox)
  plLowered : Mf P w K mg base 1 C_Pile "_lowered" ["self", "box"] (spLowered K C_Pile)
  plTaken : Mf P w K mg base 1 C_Pile "_taken_away" ["self", "box"] (spTaken K C_Pile)
structure Cs_stTurnTo (P : Program) (w : World) (K : PySem.W.Frag) (mg : Str → Option Value) (base : Heap) (C_Pile C_Store E_NoBox E_SnapError E_BadPath E_BadNumber E_LeafThere E_BranchThere E_Nothing E_NoShot Pt_is_name Pt_branch : Addr) : Prop where
  plHold : Mf P w K mg base 3 C_Pile "hold" ["self", "box"] (spHold K C_Pile E_NoBox)
  plLetGo : Mf P w K mg base 3 C_Pile "let_go" ["self", "box"] (spLetGo K C_Pile E_NoBox)
structure Cs_stLeadTo (P : Program) (w : World) (K : PySem.W.Frag) (mg : Str → Option Value) (base : Heap) (C_Pile C_Store E_NoBox E_SnapError E_BadPath E_BadNumber E_LeafThere E_BranchThere E_Nothing E_NoShot Pt_is_name Pt_branch : Addr) : Prop where
  plBranch : Mf P w K mg base 3 C_Pile "branch" ["self", "rows"] (spBranch K C_Pile E_NoBox Pt_branch)
  placed : Df P w K mg base 2 "placed" ["rows", "name", "box"] (spPlaced K)
  plRowsOf : Mf P w K mg base 1 C_Pile "rows_of" ["self", "box"] (spRowsOf K C_Pile)
  stTurnTo : Mf P w K mg base 4 C_Store "_turn_to" ["self", "top"] (spTurnTo K C_Store C_Pile)
structure Cs_plLeaf (P : Program) (w : World) (K : PySem.W.Frag) (mg : Str → Option Value) (base : Heap) (C_Pile C_Store E_NoBox E_SnapError E_BadPath E_BadNumber E_LeafThere E_BranchThere E_Nothing E_NoShot Pt_is_name Pt_branch : Addr) : Prop where
  plNext : Mf P w K mg base 1 C_Pile "_next_box" ["self"] (spNext C_Pile)
structure Cs_stPut (P : Program) (w : World) (K : PySem.W.Frag) (mg : Str → Option Value) (base : Heap) (C_Pile C_Store E_NoBox E_SnapError E_BadPath E_BadNumber E_LeafThere E_BranchThere E_Nothing E_NoShot Pt_is_name Pt_branch : Addr) : Prop where
  namesBelow : Df P w K mg base 3 "_names_below_top" ["path"] (spNamesBelow K Pt_is_name E_BadPath)
  isLeafNumber : Df P w K mg base 2 "is_leaf_number" ["thing"] (spIsLeafNumber K)
  boxesOn : Df P w K mg base 3 "boxes_on" ["pile", "top", "names"] (spBoxesOn K C_Pile)
  plKindOf : Mf P w K mg base 1 C_Pile "kind_of" ["self", "box"] (spKindOf K C_Pile)
  plNumberOf : Mf P w K mg base 1 C_Pile "number_of" ["self", "box"] (spNumberOf K C_Pile)
  stLeadTo : Mf P w K mg base 5 C_Store "_lead_to" ["self", "branches", "names", "box"] (spLeadTo K C_Store C_Pile Pt_branch)
  plLeaf : Mf P w K mg base 2 C_Pile "leaf" ["self", "number"] (spLeaf K C_Pile)
structure Cs_stSnap (P : Program) (w : World) (K : PySem.W.Frag) (mg : Str → Option Value) (base : Heap) (C_Pile C_Store E_NoBox E_SnapError E_BadPath E_BadNumber E_LeafThere E_BranchThere E_Nothing E_NoShot Pt_is_name Pt_branch : Addr) : Prop where
  plHold : Mf P w K mg base 3 C_Pile "hold" ["self", "box"] (spHold K C_Pile E_NoBox)
structure Cs_stShotTop (P : Program) (w : World) (K : PySem.W.Frag) (mg : Str → Option Value) (base : Heap) (C_Pile C_Store E_NoBox E_SnapError E_BadPath E_BadNumber E_LeafThere E_BranchThere E_Nothing E_NoShot Pt_is_name Pt_branch : Addr) : Prop where
  isWhole : Df P w K mg base 1 "is_whole" ["thing"] (spIsWhole K)
structure Cs_stTop (P : Program) (w : World) (K : PySem.W.Frag) (mg : Str → Option Value) (base : Heap) (C_Pile C_Store E_NoBox E_SnapError E_BadPath E_BadNumber E_LeafThere E_BranchThere E_Nothing E_NoShot Pt_is_name Pt_branch : Addr) : Prop where
  stShotTop : Mf P w K mg base 2 C_Store "_shot_top" ["self", "shot"] (spShotTop K C_Store C_Pile (exA E_BadPath E_BadNumber E_Nothing E_LeafThere E_BranchThere E_NoShot))
structure Cs_compare (P : Program) (w : World) (K : PySem.W.Frag) (mg : Str → Option Value) (base : Heap) (C_Pile C_Store E_NoBox E_SnapError E_BadPath E_BadNumber E_LeafThere E_BranchThere E_Nothing E_NoShot Pt_is_name Pt_branch : Addr) : Prop where
  plNumberOf : Mf P w K mg base 1 C_Pile "number_of" ["self", "box"] (spNumberOf K C_Pile)
  plRowsOf : Mf P w K mg base 1 C_Pile "rows_of" ["self", "box"] (spRowsOf K C_Pile)
  sideBy : Df P w K mg base 1 "_side_by_side" ["before", "after"] (spSideBy K)
structure Cs_stChanges (P : Program) (w : World) (K : PySem.W.Frag) (mg : Str → Option Value) (base : Heap) (C_Pile C_Store E_NoBox E_SnapError E_BadPath E_BadNumber E_LeafThere E_BranchThere E_Nothing E_NoShot Pt_is_name Pt_branch : Addr) : Prop where
  stTop : Mf P w K mg base 3 C_Store "top" ["self", "view"] (spTop K C_Store C_Pile (exA E_BadPath E_BadNumber E_Nothing E_LeafThere E_BranchThere E_NoShot))
  compare : Df P w K mg base 12 "compare" ["pile", "path", "before", "after", "found"] (spCompare K C_Pile 9)
structure Cs_pathBy (P : Program) (w : World) (K : PySem.W.Frag) (mg : Str → Option Value) (base : Heap) (C_Pile C_Store E_NoBox E_SnapError E_BadPath E_BadNumber E_LeafThere E_BranchThere E_Nothing E_NoShot Pt_is_name Pt_branch : Addr) : Prop where
  nameBy : Df P w K mg base 1 "_law_name_by" ["_law_cell"] (spNameBy)
structure Cs_without (P : Program) (w : World) (K : PySem.W.Frag) (mg : Str → Option Value) (base : Heap) (C_Pile C_Store E_NoBox E_SnapError E_BadPath E_BadNumber E_LeafThere E_BranchThere E_Nothing E_NoShot Pt_is_name Pt_branch : Addr) : Prop where
  place : Df P w K mg base 1 "_place" ["rows", "name"] (spPlace K)
  isAt : Df P w K mg base 1 "_is_at" ["rows", "name", "at"] (spIsAt K)
structure Cs_stCut (P : Program) (w : World) (K : PySem.W.Frag) (mg : Str → Option Value) (base : Heap) (C_Pile C_Store E_NoBox E_SnapError E_BadPath E_BadNumber E_LeafThere E_BranchThere E_Nothing E_NoShot Pt_is_name Pt_branch : Addr) : Prop where
  namesBelow : Df P w K mg base 3 "_names_below_top" ["path"] (spNamesBelow K Pt_is_name E_BadPath)
  boxesOn : Df P w K mg base 3 "boxes_on" ["pile", "top", "names"] (spBoxesOn K C_Pile)
  plBranch : Mf P w K mg base 3 C_Pile "branch" ["self", "rows"] (spBranch K C_Pile E_NoBox Pt_branch)
  without : Df P w K mg base 2 "without" ["rows", "name"] (spWithout K)
  plRowsOf : Mf P w K mg base 1 C_Pile "rows_of" ["self", "box"] (spRowsOf K C_Pile)
  stLeadTo : Mf P w K mg base 5 C_Store "_lead_to" ["self", "branches", "names", "box"] (spLeadTo K C_Store C_Pile Pt_branch)
structure Cs_stDrop (P : Program) (w : World) (K : PySem.W.Frag) (mg : Str → Option Value) (base : Heap) (C_Pile C_Store E_NoBox E_SnapError E_BadPath E_BadNumber E_LeafThere E_BranchThere E_Nothing E_NoShot Pt_is_name Pt_branch : Addr) : Prop where
  stShotTop : Mf P w K mg base 2 C_Store "_shot_top" ["self", "shot"] (spShotTop K C_Store C_Pile (exA E_BadPath E_BadNumber E_Nothing E_LeafThere E_BranchThere E_NoShot))
  plLetGo : Mf P w K mg base 3 C_Pile "let_go" ["self", "box"] (spLetGo K C_Pile E_NoBox)
structure Cs_stBack (P : Program) (w : World) (K : PySem.W.Frag) (mg : Str → Option Value) (base : Heap) (C_Pile C_Store E_NoBox E_SnapError E_BadPath E_BadNumber E_LeafThere E_BranchThere E_Nothing E_NoShot Pt_is_name Pt_branch : Addr) : Prop where
  stTurnTo : Mf P w K mg base 4 C_Store "_turn_to" ["self", "top"] (spTurnTo K C_Store C_Pile)
  stShotTop : Mf P w K mg base 2 C_Store "_shot_top" ["self", "shot"] (spShotTop K C_Store C_Pile (exA E_BadPath E_BadNumber E_Nothing E_LeafThere E_BranchThere E_NoShot))
structure Cs_askedL (P : Program) (w : World) (K : PySem.W.Frag) (mg : Str → Option Value) (base : Heap) (C_Pile C_Store E_NoBox E_SnapError E_BadPath E_BadNumber E_LeafThere E_BranchThere E_Nothing E_NoShot Pt_is_name Pt_branch : Addr) : Prop where
  pathBy : Df P w K mg base 2 "_law_path_by" ["_law_cell"] (spPathBy sizeA)
  stShots : Mf P w K mg base 1 C_Store "shot_numbers" ["self"] (spShots K C_Store C_Pile)
  stPut : Mf P w K mg base 6 C_Store "put" ["self", "path", "number"] (spPut K C_Store C_Pile (exA E_BadPath E_BadNumber E_Nothing E_LeafThere E_BranchThere E_NoShot) Pt_branch Pt_is_name)
  numberBy : Df P w K mg base 1 "_law_number_by" ["_law_cell"] (spNumberBy)
  stCut : Mf P w K mg base 6 C_Store "cut" ["self", "path"] (spCut K C_Store C_Pile (exA E_BadPath E_BadNumber E_Nothing E_LeafThere E_BranchThere E_NoShot) Pt_branch Pt_is_name)
  stSnap : Mf P w K mg base 4 C_Store "snap" ["self"] (spSnap K C_Store C_Pile)
  stDrop : Mf P w K mg base 4 C_Store "drop" ["self", "shot"] (spDrop K C_Store C_Pile (exA E_BadPath E_BadNumber E_Nothing E_LeafThere E_BranchThere E_NoShot))
  stBack : Mf P w K mg base 5 C_Store "back" ["self", "shot"] (spBack K C_Store C_Pile (exA E_BadPath E_BadNumber E_Nothing E_LeafThere E_BranchThere E_NoShot))
structure Cs_doneL (P : Program) (w : World) (K : PySem.W.Frag) (mg : Str → Option Value) (base : Heap) (C_Pile C_Store E_NoBox E_SnapError E_BadPath E_BadNumber E_LeafThere E_BranchThere E_Nothing E_NoShot Pt_is_name Pt_branch : Addr) : Prop where
  askedL : Df P w K mg base 7 "_law_asked" ["_law_store", "_law_cell", "_law_more"] (spAskF K C_Store C_Pile (exA E_BadPath E_BadNumber E_Nothing E_LeafThere E_BranchThere E_NoShot) Pt_branch Pt_is_name)
structure Cs_plContent (P : Program) (w : World) (K : PySem.W.Frag) (mg : Str → Option Value) (base : Heap) (C_Pile C_Store E_NoBox E_SnapError E_BadPath E_BadNumber E_LeafThere E_BranchThere E_Nothing E_NoShot Pt_is_name Pt_branch : Addr) : Prop where
  plRefuse : Mf P w K mg base 2 C_Pile "_refuse_unless_there" ["self", "box"] (spRefuse K C_Pile E_NoBox)
structure Cs_leavesL (P : Program) (w : World) (K : PySem.W.Frag) (mg : Str → Option Value) (base : Heap) (C_Pile C_Store E_NoBox E_SnapError E_BadPath E_BadNumber E_LeafThere E_BranchThere E_Nothing E_NoShot Pt_is_name Pt_branch : Addr) : Prop where
  plContent : Mf P w K mg base 3 C_Pile "content" ["self", "box"] (spContent K C_Pile E_NoBox)
structure Cs_rowsL (P : Program) (w : World) (K : PySem.W.Frag) (mg : Str → Option Value) (base : Heap) (C_Pile C_Store E_NoBox E_SnapError E_BadPath E_BadNumber E_LeafThere E_BranchThere E_Nothing E_NoShot Pt_is_name Pt_branch : Addr) : Prop where
  plContent : Mf P w K mg base 3 C_Pile "content" ["self", "box"] (spContent K C_Pile E_NoBox)
structure Cs_lookedL (P : Program) (w : World) (K : PySem.W.Frag) (mg : Str → Option Value) (base : Heap) (C_Pile C_Store E_NoBox E_SnapError E_BadPath E_BadNumber E_LeafThere E_BranchThere E_Nothing E_NoShot Pt_is_name Pt_branch : Addr) : Prop where
  rowsL : Df P w K mg base 4 "_law_rows" ["_law_pile", "_law_box"] (spRows12 K C_Pile)
structure Cs_count (P : Program) (w : World) (K : PySem.W.Frag) (mg : Str → Option Value) (base : Heap) (C_Pile C_Store E_NoBox E_SnapError E_BadPath E_BadNumber E_LeafThere E_BranchThere E_Nothing E_NoShot Pt_is_name Pt_branch : Addr) : Prop where
  whole : Df P w K mg base 1 "_law_whole" ["_law_seen"] (spWhole)
structure Cs_toldL (P : Program) (w : World) (K : PySem.W.Frag) (mg : Str → Option Value) (base : Heap) (C_Pile C_Store E_NoBox E_SnapError E_BadPath E_BadNumber E_LeafThere E_BranchThere E_Nothing E_NoShot Pt_is_name Pt_branch : Addr) : Prop where
  count : Df P w K mg base 2 "_law_count" ["_law_seen", "_law_due"] (spCount)
structure Cs_law (P : Program) (w : World) (K : PySem.W.Frag) (mg : Str → Option Value) (base : Heap) (C_Pile C_Store E_NoBox E_SnapError E_BadPath E_BadNumber E_LeafThere E_BranchThere E_Nothing E_NoShot Pt_is_name Pt_branch : Addr) : Prop where
  mk_Store : Mi P w K mg base 4 C_Store "Store" ["self"] (spInitS K C_Store C_Pile Pt_branch)
  cell : Df P w K mg base 1 "_law_cell_at" ["_law_script", "_law_k"] (spCell K)
  stPut : Mf P w K mg base 6 C_Store "put" ["self", "path", "number"] (spPut K C_Store C_Pile (exA E_BadPath E_BadNumber E_Nothing E_LeafThere E_BranchThere E_NoShot) Pt_branch Pt_is_name)
  stSnap : Mf P w K mg base 4 C_Store "snap" ["self"] (spSnap K C_Store C_Pile)
  stShots : Mf P w K mg base 1 C_Store "shot_numbers" ["self"] (spShots K C_Store C_Pile)
  stChanges : Mf P w K mg base 13 C_Store "changes" ["self", "one", "other"] (spChanges K C_Store C_Pile (exA E_BadPath E_BadNumber E_Nothing E_LeafThere E_BranchThere E_NoShot))
  doneL : Df P w K mg base 8 "_law_done" ["_law_store", "_law_cell", "_law_more"] (spDone12 K C_Store C_Pile Pt_branch Pt_is_name)
  stTop : Mf P w K mg base 3 C_Store "top" ["self", "view"] (spTop K C_Store C_Pile (exA E_BadPath E_BadNumber E_Nothing E_LeafThere E_BranchThere E_NoShot))
  leavesL : Df P w K mg base 4 "_law_leaves" ["_law_pile", "_law_top"] (spLeaves12 K C_Pile)
  lookedL : Df P w K mg base 5 "_law_looked" ["_law_pile", "_law_one", "_law_other"] (spLooked12 K C_Pile)
  toldL : Df P w K mg base 3 "_law_told" ["_law_seen", "_law_due", "_law_looked_here"] (spTold12 K)
section
variable {P : Program} {w : World} {K : PySem.W.Frag} {mg : Str → Option Value} {base : Heap} {C_Pile C_Store E_NoBox E_SnapError E_BadPath E_BadNumber E_LeafThere E_BranchThere E_Nothing E_NoShot Pt_is_name Pt_branch : Addr}
theorem scplInit : FnScope ["self"] ["self"] (defScope splInit) := ⟨rfl, rfl, rfl, by decide +kernel, rfl, by decide +kernel, by decide +kernel⟩
theorem ok_plInit {f : Addr} {fd : FuncData} (F : Fun K "__init__" "Pile.__init__" splInit f fd) (T : Txt K mg C_Pile C_Store E_NoBox E_SnapError E_BadPath E_BadNumber E_LeafThere E_BranchThere E_Nothing E_NoShot Pt_is_name Pt_branch) : FnOk P w K mg base (L2N.CX P w) 1 f fd ["self"] (spInit K C_Pile) := by
  refine F.okN scplInit (fun vs H Q E h => ?_) (fun cdv A outer s H vs Q E hr h => ?_)
  · obtain ⟨p, dx, rfl, _⟩ := h
    rfl
  · obtain ⟨p, dx, rfl, e0, k⟩ := h
    refine ⟨_, (pss_cons (ps_fld (pv 0) pe_int rfl)
  (pss_cons (ps_fld (pv 0) pe_dnewK rfl)
  (pss_cons (ps_fld (pv 0) pe_dnewK rfl)
  (pss_one (ps_fld (pv 0) pe_dnewK rfl))))), ?_⟩
    repeat walk_at "sx"
    refine lf_putFld e0 T.cl_Pile T.n_Pile_made (by show 0 < 1000; decide) ?_
    generalize hH1 : upd H p _ = H1
    have g1 : Gx (fun b => b = p) H H1 := by rw [← hH1]; exact (Gx.refl H).put rfl e0 (by intro z; exact z) (by intro _ z; cases z)
    have p1 : H1 p = some (.ins C_Pile dx (putF "made" (.int 0) [])) := by rw [← hH1]; exact upd_same
    repeat walk_at "sx"
    refine st_dnewK ?_
    walk_at "new"; rename_i c hc H2 g2 c2
    repeat walk_at "sx"
    refine lf_putFld (g2.keep _ _ p1 (fun _ z => by cases z)) T.cl_Pile T.n_Pile__counts (by show 1 < 1000; decide) ?_
    have np1 : p ≠ c := ne_of_none p1 hc
    generalize hH3 : upd H2 p _ = H3
    have g3 : Gx (fun b => b = p) H H3 := by rw [← hH3]; exact (g1.then g2).put rfl (g2.keep _ _ p1 (fun _ z => by cases z)) (by intro z; exact z) (by intro _ z; cases z)
    have p3 : H3 p = some (.ins C_Pile dx (putF "_counts" (.ref c) (putF "made" (.int 0) []))) := by rw [← hH3]; exact upd_same
    have c3 : H3 c = some (.dK []) := by rw [← hH3, upd_ne np1.symm]; exact c2
    repeat walk_at "sx"
    refine st_dnewK ?_
    walk_at "new"; rename_i n hn H4 g4 n4
    repeat walk_at "sx"
    refine lf_putFld (g4.keep _ _ p3 (fun _ z => by cases z)) T.cl_Pile T.n_Pile__numbers (by show 2 < 1000; decide) ?_
    have np2 : p ≠ n := ne_of_none p3 hn
    generalize hH5 : upd H4 p _ = H5
    have g5 : Gx (fun b => b = p) H H5 := by rw [← hH5]; exact (g3.then g4).put rfl (g4.keep _ _ p3 (fun _ z => by cases z)) (by intro z; exact z) (by intro _ z; cases z)
    have p5 : H5 p = some (.ins C_Pile dx (putF "_numbers" (.ref n) (putF "_counts" (.ref c) (putF "made" (.int 0) [])))) := by rw [← hH5]; exact upd_same
    have c5 : H5 c = some (.dK []) := by rw [← hH5, upd_ne np1.symm]; exact g4.dK c3
    have n5 : H5 n = some (.dK []) := by rw [← hH5, upd_ne np2.symm]; exact n4
    repeat walk_at "sx"
    refine st_dnewK ?_
    walk_at "new"; rename_i r hr2 H6 g6 r6
    repeat walk_at "sx"
    refine lf_putFld (g6.keep _ _ p5 (fun _ z => by cases z)) T.cl_Pile T.n_Pile__rows (by show 3 < 1000; decide) ?_
    have np3 : p ≠ r := ne_of_none p5 hr2
    repeat walk_at "sx"
    refine k ⟨p, dx, c, n, r⟩ _ rfl (g1.free hc) (g3.free hn) (g5.free hr2) ((g5.then g6).put rfl (g6.keep _ _ p5 (fun _ z => by cases z)) (by intro z; exact z) (by intro _ z; cases z)) ⟨?_, ⟨[], [], [], ?_, ?_, ?_, Dcts.empty _ _⟩, ne_of_none c3 hn, ne_of_none c5 hr2, ne_of_none n5 hr2⟩
    · rw [upd_same, pfs_init ⟨p, dx, c, n, r⟩] <;> rfl
    · rw [upd_ne np1.symm]; exact g6.dK c5
    · rw [upd_ne np2.symm]; exact g6.dK n5
    · rw [upd_ne np3.symm]; exact r6
theorem scplNext : FnScope ["self"] ["self"] (defScope splNext) := ⟨rfl, rfl, rfl, by decide +kernel, rfl, by decide +kernel, by decide +kernel⟩
theorem ok_plNext {f : Addr} {fd : FuncData} (F : Fun K "_next_box" "Pile._next_box" splNext f fd) (T : Txt K mg C_Pile C_Store E_NoBox E_SnapError E_BadPath E_BadNumber E_LeafThere E_BranchThere E_Nothing E_NoShot Pt_is_name Pt_branch) : FnOk P w K mg base (L2N.CX P w) 1 f fd ["self"] (spNext C_Pile) := by
  refine F.okN scplNext (fun vs H Q E h => ?_) (fun cdv A outer s H vs Q E hr h => ?_)
  · obtain ⟨A, m, kc, rfl, _⟩ := h
    rfl
  · obtain ⟨A, m, kc, rfl, e1, e2, hl, k⟩ := h
    have hu := hu_of hr
    have ncp : A.c ≠ A.p := ne_of e2 e1 (by intro z; cases z)
    refine ⟨_, (pss_cons (ps_fldaug (pv 0) pe_int in_add)
  (pss_cons (ps_dput hu (pe_fldK (K := K) rfl (pv 0) rfl) (pe_fldK (K := K) rfl (pv 0) rfl) pe_int rfl)
  (pss_one (ps_ret (pe_fldK (K := K) rfl (pv 0) rfl))))), ?_⟩
    repeat walk_at "sx"
    refine st_fldAug ?_
    repeat walk_at "sx"
    refine ⟨A.p, C_Pile, A.dx, pfs A m, _, rfl, e1, T.cl_Pile, T.n_Pile_made, (pfs_lk A _).1, ?_⟩
    repeat walk_at "sx"
    refine ⟨_, _, rfl, rfl, ?_⟩
    refine ⟨A.dx, pfs A m, e1, by show 4 < 1000; decide, ?_⟩
    rw [pfs_made]
    repeat walk_at "sx"
    walk_at "dx"
    repeat walk_at "sx"
    refine lf_fld upd_same T.cl_Pile T.n_Pile__counts (pfs_lk A _).2.1 ?_
    repeat walk_at "sx"
    refine lf_fld upd_same T.cl_Pile T.n_Pile_made (pfs_lk A _).1 ?_
    refine lf_dput (k := .inl ((m : Int) + 1)) (by rw [upd_ne ncp]; exact e2) (by omega) ?_
    repeat walk_at "sx"
    refine lf_fld (by rw [upd_ne ncp.symm]; exact upd_same) T.cl_Pile T.n_Pile_made (pfs_lk A _).1 ?_
    exact k
theorem scplNumberOf : FnScope ["self", "box"] ["self", "box"] (defScope splNumberOf) := ⟨rfl, rfl, rfl, by decide +kernel, rfl, by decide +kernel, by decide +kernel⟩
theorem ok_plNumberOf {f : Addr} {fd : FuncData} (F : Fun K "number_of" "Pile.number_of" splNumberOf f fd) (T : Txt K mg C_Pile C_Store E_NoBox E_SnapError E_BadPath E_BadNumber E_LeafThere E_BranchThere E_Nothing E_NoShot Pt_is_name Pt_branch) : FnOk P w K mg base (L2N.CX P w) 1 f fd ["self", "box"] (spNumberOf K C_Pile) := by
  refine F.okN scplNumberOf (fun vs H Q E h => ?_) (fun cdv A' outer s H vs Q E hr h => ?_)
  · obtain ⟨A, S, o, rfl, _⟩ := h
    rfl
  · obtain ⟨A, S, o, rfl, pl, k⟩ := h
    have hu := hu_of hr
    obtain ⟨kc, kn, kr, e1, e2, e3, d⟩ := pl.dcts
    refine ⟨_, (pss_one (ps_ret (pe_dgetN hu (pe_fldK (K := K) rfl (pv 0) rfl) (pv 1) pe_non ⟨rfl, rfl, rfl, rfl⟩))), ?_⟩
    repeat walk_at "sx"
    refine st_dgetN ?_
    repeat walk_at "sx"
    refine lf_fld pl.ins T.cl_Pile T.n_Pile__numbers (pfs_lk A _).2.2.1 ?_
    refine ⟨_, rfl, .inl ⟨_, .inl e2⟩, ?_⟩
    repeat walk_at "sx"
    refine lf_dgetO (P := fun v => Q v H) (x := o) e2 ?_
    have kd := d.kinds o
    cases e : bxO S o with
    | none =>
      rw [e] at k kd
      rw [kd.1]
      exact k
    | some b =>
      rw [e] at k kd
      cases b with
      | leaf n => rw [kd.1]; exact k
      | branch rs => rw [kd.1]; exact k
theorem scstPut : FnScope ["self", "path", "number", "names", "boxes", "box"] ["self", "path", "number"] (defScope sstPut) := ⟨rfl, rfl, rfl, by decide +kernel, rfl, by decide +kernel, by decide +kernel⟩
theorem ok_stPut {f : Addr} {fd : FuncData} (F : Fun K "put" "Store.put" sstPut f fd) (T : Txt K mg C_Pile C_Store E_NoBox E_SnapError E_BadPath E_BadNumber E_LeafThere E_BranchThere E_Nothing E_NoShot Pt_is_name Pt_branch) (C : Cs_stPut P w K mg base C_Pile C_Store E_NoBox E_SnapError E_BadPath E_BadNumber E_LeafThere E_BranchThere E_Nothing E_NoShot Pt_is_name Pt_branch) : FnOk P w K mg base (L2N.CX P w) 6 f fd ["self", "path", "number"] (spPut K C_Store C_Pile (exA E_BadPath E_BadNumber E_Nothing E_LeafThere E_BranchThere E_NoShot) Pt_branch Pt_is_name) := by
  refine F.okN scstPut (fun vs H Q E h => ?_) (fun cdv A' outer s H vs Q E hr h => ?_)
  · obtain ⟨B, X, x, y, o, n, rfl, _⟩ := h
    rfl
  · obtain ⟨B, X, x, y, o, n, rfl, st, ok, hx, hy, hm, tb, tn, k⟩ := h
    refine ⟨_, (pss_cons (ps_set (i := 3) scstPut.nd rfl (Or.inl rfl) (pe_dE C.namesBelow (hr.mono (by decide)) rfl (L2N.takes_of rfl rfl rfl rfl) (pa_cons (pv 1) pa_nil)))
  (pss_cons (ps_if (pt_not (pt_val (pe_d0 C.isLeafNumber (hr.mono (by decide)) rfl (pa_cons (pv 2) pa_nil))))
  (pss_one (L2N.ps_raise rfl (L2N.takes_of rfl rfl rfl rfl) (L2N.pmk_own PySem.F.excBase_ValueError T.x_BadNumber T.mg_BadNumber T.k_BadNumber (raises_own T.b_BadNumber T.t_BadNumber) rfl)))
  pss_nil)
  (pss_cons (ps_set (i := 4) scstPut.nd rfl (Or.inl rfl) (pe_d0 C.boxesOn (hr.mono (by decide)) rfl (pa_cons (pe_fldK (K := K) rfl (pv 0) rfl) (pa_cons (pe_fldK (K := K) rfl (pv 0) rfl) (pa_cons (pv 3) pa_nil)))))
  (pss_cons (ps_if (pt_cmpR op_in_seq pe_str (pe_lc (own := [("box", 5)]) (g := gName 5) (tt := tYes) rfl scstPut.nd (pi_list (pe_slice sl_list (pv 4) po_none (po_some (pe_un un_neg pe_int)))) (blkOk_by (N := ["self", "path", "number", "names", "boxes", "box"]) (sc := defScope sstPut) (by decide +kernel)) (fun _ _ _ _ _ => pg_name (i := 5) scstPut.nd rfl (Or.inl rfl)) (fun _ _ _ _ _ => pts_nil) (fun _ _ _ _ _ => (pe_mm (pe_fldK (K := K) rfl (pv 0) rfl) T.cl_Pile C.plKindOf (hr.mono (by decide)) (pa_cons (pv 5) pa_nil)))) (by first | exact nomark _ | rfl))
  (pss_one (L2N.ps_raise rfl (L2N.takes_of rfl rfl rfl rfl) (L2N.pmk_own PySem.F.excBase_ValueError T.x_LeafThere T.mg_LeafThere T.k_LeafThere (raises_own T.b_LeafThere T.t_LeafThere) rfl)))
  pss_nil)
  (pss_cons (ps_if (pt_cmpR op_eq (pe_mm (pe_fldK (K := K) rfl (pv 0) rfl) T.cl_Pile C.plKindOf (hr.mono (by decide)) (pa_cons (pe_ix (ixL (K := K) rfl) (pv 4) (pe_un un_neg pe_int) (fun _ _ => rfl)) pa_nil)) pe_str (nomark _))
  (pss_one (L2N.ps_raise rfl (L2N.takes_of rfl rfl rfl rfl) (L2N.pmk_own PySem.F.excBase_ValueError T.x_BranchThere T.mg_BranchThere T.k_BranchThere (raises_own T.b_BranchThere T.t_BranchThere) rfl)))
  pss_nil)
  (pss_cons (ps_if (pt_cmpR op_eq (pe_mm (pe_fldK (K := K) rfl (pv 0) rfl) T.cl_Pile C.plNumberOf (hr.mono (by decide)) (pa_cons (pe_ix (ixL (K := K) rfl) (pv 4) (pe_un un_neg pe_int) (fun _ _ => rfl)) pa_nil)) (pv 2) (nomark _))
  (pss_one (ps_ret pe_int))
  pss_nil)
  (pss_one (ps_ret (pe_mm (pv 0) T.cl_Store C.stLeadTo (hr.mono (by decide)) (pa_cons (pe_slice sl_list (pv 4) po_none (po_some (pe_un un_neg pe_int))) (pa_cons (pv 3) (pa_cons (pe_mm (pe_fldK (K := K) rfl (pv 0) rfl) T.cl_Pile C.plLeaf (hr.mono (by decide)) (pa_cons (pv 2) pa_nil)) pa_nil)))))))))))), ?_⟩
    repeat walk_at "sx"
    refine ⟨x, o, rfl, hx, tn, fun ns hns hne l H1 hl g1 e1 => ?_, fun e => by rw [putO_bad e] at k; exact k⟩
    rw [putO_at hns hne] at k
    obtain ⟨_, h8, hok⟩ := pathOf_at hns
    repeat walk_at "sx"
    cases n with
    | none =>
      rcases hy with ⟨z, rfl, hz⟩ | od
      · refine ⟨_, rfl, .inl ⟨z, rfl, ?_⟩⟩
        rw [hz]
        repeat walk_at "sx"
        exact k H1 g1
      · refine ⟨_, rfl, .inr ⟨od.gr g1, ?_⟩⟩
        repeat walk_at "sx"
        exact k H1 g1
    | some z =>
      obtain ⟨rfl, hz⟩ := hy
      refine ⟨_, rfl, .inl ⟨z, rfl, ?_⟩⟩
      rw [hz]
      have st1 := st.gr g1
      repeat walk_at "sx"
      refine lf_fld st1.ins T.cl_Store T.n_Store_pile (sfs_lk B _ _).1 ?_
      repeat walk_at "sx"
      refine lf_fld st1.ins T.cl_Store T.n_Store__top (sfs_lk B _ _).2.1 ?_
      repeat walk_at "sx"
      refine ⟨B.A, X.S, _, X.top, l, ns, rfl, st1.pl, ok.t.toTInv, .of e1, by omega, fun q H2 hq g2 e2 => ?_⟩
      have st2 := st1.gr g2
      have ew : (wayF X.S (some X.top) ns).map oV = ((pairsF X.S (some X.top) ns).map fun p => oV p.1) ++ [oV (walkF X.S (some X.top) ns)] := by
        rw [wayF_split, List.map_append, List.map_map] <;> rfl
      rw [ew] at e2
      have hpl := pairsF_len X.S (some X.top) ns
      unfold TS.putF at k
      dsimp only at k
      repeat walk_at "sx"
      refine st_un ?_
      repeat walk_at "sx"
      refine st_rU ?_
      repeat walk_at "sx"
      refine st_slL (.of e2) ?_
      rw [cutV_m1]
      walk_at "new"; rename_i q2 hq2 H3 g3 e3
      refine st_exL (.of e3) ?_
      refine lc_l (fun v => kindB (bxO X.S (unO v))) (.of e3) ?_ ?_ (by rw [List.length_map, hpl]; omega)
      · intro i v H4 hv g4 Qy qy
        rw [List.getElem?_map] at hv
        obtain ⟨p, ep, rfl⟩ := Option.map_eq_some_iff.mp hv
        have st4 := (st2.gr g3).gr g4
        repeat walk_at "sx"
        refine lf_fld st4.ins T.cl_Store T.n_Store_pile (sfs_lk B _ _).1 ?_
        refine st4.pl.fm (by decide +kernel) (by decide +kernel) (by decide +kernel) (by decide +kernel) ?_
        repeat walk_at "sx"
        refine ⟨B.A, X.S, p.1, rfl, st4.pl, ?_⟩
        have := qy H4 (Gr.refl _)
        rw [unO_oV] at this
        exact this
      · intro D H4 hD g4 e4
        have em : ((pairsF X.S (some X.top) ns).map fun p => oV p.1).map (fun v => kindB (bxO X.S (unO v))) = (pairsF X.S (some X.top) ns).map fun p => kindB (bxO X.S p.1) := by
          rw [List.map_map]
          refine List.map_congr_left fun p _ => ?_
          show kindB (bxO X.S (unO (oV p.1))) = _
          rw [unO_oV]
        rw [em] at e4
        refine st_in (.inl (.of e4)) rfl (flat_kinds _ _) ?_
        rw [inV_leaf]
        have g14 := ((g1.trans g2).trans g3).trans g4
        have st4 := (st2.gr g3).gr g4
        repeat walk_at "sx"
        refine ite3 (fun h => ?_) (fun h => ?_)
        · have h : X.leafOn ns = true := h
          rw [if_pos h] at k
          repeat walk_at "sx"
          exact k H4 g14
        have h : ¬ X.leafOn ns = true := by
          show ¬ ((pairsF X.S (some X.top) ns).any fun p => isLf (bxO X.S p.1)) = true
          rw [h]
          exact Bool.false_ne_true
        rw [if_neg h] at k
        repeat walk_at "sx"
        refine lf_fld st4.ins T.cl_Store T.n_Store_pile (sfs_lk B _ _).1 ?_
        refine st4.pl.fm (by decide +kernel) (by decide +kernel) (by decide +kernel) (by decide +kernel) ?_
        repeat walk_at "sx"
        refine st_un ?_
        repeat walk_at "sx"
        refine st_rU ?_
        refine st_ixL (.of (g4.lst (g3.lst e2))) atI_m1 ?_
        repeat walk_at "sx"
        refine ⟨B.A, X.S, walkF X.S (some X.top) ns, rfl, st4.pl, ?_⟩
        have ext : Ext X.S (X.S.new (.leaf z)) := Ext.new _ _
        cases e : bxO X.S (walkF X.S (some X.top) ns) with
        | none =>
          rw [e] at k
          have make : SDid K C_Store C_Pile H B (X.putN ns z).1 (Q (.int (X.putN ns z).2)) := k
          dsimp only [kindB]
          repeat walk_at "sx"
          rw [decide_eq_false (by intro q; cases q)]
          repeat walk_at "sx"
          refine lf_fld st4.ins T.cl_Store T.n_Store_pile (sfs_lk B _ _).1 ?_
          refine st4.pl.fm (by decide +kernel) (by decide +kernel) (by decide +kernel) (by decide +kernel) ?_
          repeat walk_at "sx"
          refine st_un ?_
          repeat walk_at "sx"
          refine st_rU ?_
          refine st_ixL (.of (g4.lst (g3.lst e2))) atI_m1 ?_
          repeat walk_at "sx"
          refine ⟨B.A, X.S, walkF X.S (some X.top) ns, rfl, st4.pl, ?_⟩
          rw [e]
          dsimp only [numB]
          repeat walk_at "sx"
          rw [decide_eq_false (by intro q; cases q)]
          repeat walk_at "sx"
          refine st4.fm (by decide +kernel) (by decide +kernel) (by decide +kernel) (by decide +kernel) ?_
          repeat walk_at "sx"
          refine st_un ?_
          repeat walk_at "sx"
          refine st_rU ?_
          repeat walk_at "sx"
          refine st_slL (.of (g4.lst (g3.lst e2))) ?_
          rw [cutV_m1]
          walk_at "new"; rename_i q3 hq3 H5 g5 e5
          have st5 := st4.gr g5
          repeat walk_at "sx"
          refine lf_fld st5.ins T.cl_Store T.n_Store_pile (sfs_lk B _ _).1 ?_
          refine st5.pl.fm (by decide +kernel) (by decide +kernel) (by decide +kernel) (by decide +kernel) ?_
          repeat walk_at "sx"
          refine ⟨B.A, X.S, z, rfl, st5.pl, by omega, fun H6 g6 pl6 => ?_⟩
          have st6 := st5.pile g6 pl6
          repeat walk_at "sx"
          refine ⟨B, _, _, q3, l, pairsF X.S (some X.top) ns, _, rfl, st6, .of (g6.lst e5), .of (g6.lst (g5.lst (g4.lst (g3.lst (g2.lst (by rw [← pairsF_snd X.S (some X.top) ns, List.map_map] at e1; exact e1)))))), by omega, ok.t.leaf z (by omega), fun p hp => ?_, ?_, ext.is ok.is (ok.t.toTInv.le ok.is), g6.tab _ ((g14.trans g5).tab _ tb), fun H7 g7 st7 => ?_⟩
          · obtain ⟨f, m⟩ := ok.t.toTInv.pairs ns ok.fit p hp
            exact ⟨fun y ey => ext.is (f y ey) (ok.t.toTInv.le (f y ey)), hok _ m⟩
          · show X.S.made + 1 + _ ≤ 2900
            omega
          · exact make H7 (((Gx.of (g14.trans g5)).trans g6.sa).trans g7) st7
        | some b =>
          cases b with
          | branch rs =>
            rw [e] at k
            dsimp only [kindB]
            repeat walk_at "sx"
            exact k H4 g14
          | leaf m =>
            rw [e] at k
            dsimp only [kindB]
            repeat walk_at "sx"
            rw [decide_eq_false (by intro q; exact absurd (V.str.inj q) (by decide +kernel))]
            repeat walk_at "sx"
            refine lf_fld st4.ins T.cl_Store T.n_Store_pile (sfs_lk B _ _).1 ?_
            refine st4.pl.fm (by decide +kernel) (by decide +kernel) (by decide +kernel) (by decide +kernel) ?_
            repeat walk_at "sx"
            refine st_un ?_
            repeat walk_at "sx"
            refine st_rU ?_
            refine st_ixL (.of (g4.lst (g3.lst e2))) atI_m1 ?_
            repeat walk_at "sx"
            refine ⟨B.A, X.S, walkF X.S (some X.top) ns, rfl, st4.pl, ?_⟩
            rw [e]
            dsimp only [numB]
            repeat walk_at "sx"
            have k : Out K C_Store C_Pile (exA E_BadPath E_BadNumber E_Nothing E_LeafThere E_BranchThere E_NoShot) H B Q E (if V.int m = V.int z then .ok (X, 0) else .ok (X.putN ns z)) := k
            by_cases qm : V.int m = V.int z
            · rw [if_pos qm] at k
              rw [decide_eq_true qm]
              repeat walk_at "sx"
              exact k H4 (Gx.of g14) st4
            · rw [if_neg qm] at k
              have make : SDid K C_Store C_Pile H B (X.putN ns z).1 (Q (.int (X.putN ns z).2)) := k
              rw [decide_eq_false qm]
              repeat walk_at "sx"
              refine st4.fm (by decide +kernel) (by decide +kernel) (by decide +kernel) (by decide +kernel) ?_
              repeat walk_at "sx"
              refine st_un ?_
              repeat walk_at "sx"
              refine st_rU ?_
              repeat walk_at "sx"
              refine st_slL (.of (g4.lst (g3.lst e2))) ?_
              rw [cutV_m1]
              walk_at "new"; rename_i q3 hq3 H5 g5 e5
              have st5 := st4.gr g5
              repeat walk_at "sx"
              refine lf_fld st5.ins T.cl_Store T.n_Store_pile (sfs_lk B _ _).1 ?_
              refine st5.pl.fm (by decide +kernel) (by decide +kernel) (by decide +kernel) (by decide +kernel) ?_
              repeat walk_at "sx"
              refine ⟨B.A, X.S, z, rfl, st5.pl, by omega, fun H6 g6 pl6 => ?_⟩
              have st6 := st5.pile g6 pl6
              repeat walk_at "sx"
              refine ⟨B, _, _, q3, l, pairsF X.S (some X.top) ns, _, rfl, st6, .of (g6.lst e5), .of (g6.lst (g5.lst (g4.lst (g3.lst (g2.lst (by rw [← pairsF_snd X.S (some X.top) ns, List.map_map] at e1; exact e1)))))), by omega, ok.t.leaf z (by omega), fun p hp => ?_, ?_, ext.is ok.is (ok.t.toTInv.le ok.is), g6.tab _ ((g14.trans g5).tab _ tb), fun H7 g7 st7 => ?_⟩
              · obtain ⟨f, m⟩ := ok.t.toTInv.pairs ns ok.fit p hp
                exact ⟨fun y ey => ext.is (f y ey) (ok.t.toTInv.le (f y ey)), hok _ m⟩
              · show X.S.made + 1 + _ ≤ 2900
                omega
              · exact make H7 (((Gx.of (g14.trans g5)).trans g6.sa).trans g7) st7
theorem scstSnap : FnScope ["self"] ["self"] (defScope sstSnap) := ⟨rfl, rfl, rfl, by decide +kernel, rfl, by decide +kernel, by decide +kernel⟩
theorem ok_stSnap {f : Addr} {fd : FuncData} (F : Fun K "snap" "Store.snap" sstSnap f fd) (T : Txt K mg C_Pile C_Store E_NoBox E_SnapError E_BadPath E_BadNumber E_LeafThere E_BranchThere E_Nothing E_NoShot Pt_is_name Pt_branch) (C : Cs_stSnap P w K mg base C_Pile C_Store E_NoBox E_SnapError E_BadPath E_BadNumber E_LeafThere E_BranchThere E_Nothing E_NoShot Pt_is_name Pt_branch) : FnOk P w K mg base (L2N.CX P w) 4 f fd ["self"] (spSnap K C_Store C_Pile) := by
  refine F.okN scstSnap (fun vs H Q E h => ?_) (fun cdv A' outer s H vs Q E hr h => ?_)
  · obtain ⟨B, X, rfl, _⟩ := h
    rfl
  · obtain ⟨B, X, rfl, st, ok, hlt, k⟩ := h
    have hu := hu_of hr
    refine ⟨_, (pss_cons (ps_fldaug (pv 0) pe_int in_add)
  (pss_cons (ps_dput hu (pe_fldK (K := K) rfl (pv 0) rfl) (pe_fldK (K := K) rfl (pv 0) rfl) (pe_fldK (K := K) rfl (pv 0) rfl) rfl)
  (pss_cons (ps_expr (pe_mm (pe_fldK (K := K) rfl (pv 0) rfl) T.cl_Pile C.plHold (hr.mono (by decide)) (pa_cons (pe_fldK (K := K) rfl (pv 0) rfl) pa_nil)))
  (pss_one (ps_ret (pe_fldK (K := K) rfl (pv 0) rfl)))))), ?_⟩
    repeat walk_at "sx"
    refine st_fldAug ?_
    repeat walk_at "sx"
    refine ⟨B.p, C_Store, B.dx, _, _, rfl, st.ins, T.cl_Store, T.n_Store__shots_taken, (sfs_lk B _ _).2.2.2, ?_⟩
    repeat walk_at "sx"
    refine ⟨_, _, rfl, rfl, ?_⟩
    refine ⟨B.dx, _, st.ins, by show 4 < 1000; decide, ?_⟩
    rw [putF_taken, show (X.taken : Int) + 1 = ((X.taken + 1 : Nat) : Int) from rfl]
    obtain ⟨st1, gx1⟩ := st.fld X.top (X.taken + 1)
    generalize hH1 : upd H B.p _ = H1 at st1 gx1
    have hl : X.shots.length ≤ X.taken := by
      have h1 := List.nodup_of_lt ok.ks
      exact nodup_le h1 ok.kb
    repeat walk_at "sx"
    walk_at "dx"
    repeat walk_at "sx"
    refine lf_fld st1.ins T.cl_Store T.n_Store__top (sfs_lk B _ _).2.1 ?_
    repeat walk_at "sx"
    refine lf_fld st1.ins T.cl_Store T.n_Store__shot_tops (sfs_lk B _ _).2.2.1 ?_
    repeat walk_at "sx"
    refine lf_fld st1.ins T.cl_Store T.n_Store__shots_taken (sfs_lk B _ _).2.2.2 ?_
    refine lf_dput (k := .inl (((X.taken + 1 : Nat) : Int))) st1.sd (by unfold kvI; rw [List.length_map]; dsimp only; omega) ?_
    rw [kvI_new (findI_no fun p hp => by have := ok.kb p hp; omega)]
    obtain ⟨st2, gx2⟩ := st1.sh (X.shots ++ [(((X.taken + 1 : Nat) : Int), X.top)])
    dsimp only
    generalize hH2 : upd H1 B.d _ = H2 at st2 gx2
    repeat walk_at "sx"
    refine lf_fld st2.ins T.cl_Store T.n_Store_pile (sfs_lk B _ _).1 ?_
    refine st2.pl.fm (by decide +kernel) (by decide +kernel) (by decide +kernel) (by decide +kernel) ?_
    repeat walk_at "sx"
    refine lf_fld st2.ins T.cl_Store T.n_Store__top (sfs_lk B _ _).2.1 ?_
    repeat walk_at "sx"
    refine ⟨B.A, X.S, .int X.top, rfl, st2.pl, .inl ⟨X.top, rfl, fun b c _ H3 g3 pl3 => ?_, fun e2 => ?_⟩⟩
    · have st3 := st2.pile g3 pl3
      repeat walk_at "sx"
      refine lf_fld st3.ins T.cl_Store T.n_Store__shots_taken (sfs_lk B _ _).2.2.2 ?_
      exact k H3 ((gx1.trans gx2).trans g3.sa) st3
    · have := ok.is
      rw [e2] at this
      cases this
theorem scstShotTop : FnScope ["self", "shot"] ["self", "shot"] (defScope sstShotTop) := ⟨rfl, rfl, rfl, by decide +kernel, rfl, by decide +kernel, by decide +kernel⟩
theorem ok_stShotTop {f : Addr} {fd : FuncData} (F : Fun K "_shot_top" "Store._shot_top" sstShotTop f fd) (T : Txt K mg C_Pile C_Store E_NoBox E_SnapError E_BadPath E_BadNumber E_LeafThere E_BranchThere E_Nothing E_NoShot Pt_is_name Pt_branch) (C : Cs_stShotTop P w K mg base C_Pile C_Store E_NoBox E_SnapError E_BadPath E_BadNumber E_LeafThere E_BranchThere E_Nothing E_NoShot Pt_is_name Pt_branch) : FnOk P w K mg base (L2N.CX P w) 2 f fd ["self", "shot"] (spShotTop K C_Store C_Pile (exA E_BadPath E_BadNumber E_Nothing E_LeafThere E_BranchThere E_NoShot)) := by
  refine F.okN scstShotTop (fun vs H Q E h => ?_) (fun cdv A' outer s H vs Q E hr h => ?_)
  · obtain ⟨B, X, x, sh, rfl, _⟩ := h
    rfl
  · obtain ⟨B, X, x, sh, rfl, st, hx, k⟩ := h
    have hu := hu_of hr
    refine ⟨_, (pss_cons (ps_if (PW.pt (pw_or (pt_not (pt_val (pe_d0 C.isWhole (hr.mono (by decide)) rfl (pa_cons (pv 1) pa_nil)))) (pw_or1 (pt_cmp (pc_dnotin hu (pv 1) (pe_fldK (K := K) rfl (pv 0) rfl))))))
  (pss_one (L2N.ps_raise rfl (L2N.takes_of rfl rfl rfl rfl) (L2N.pmk_own PySem.F.excBase_ValueError T.x_NoShot T.mg_NoShot T.k_NoShot (raises_own T.b_NoShot T.t_NoShot) rfl)))
  pss_nil)
  (pss_one (ps_ret (pe_dget hu (pe_fldK (K := K) rfl (pv 0) rfl) (pv 1) (fun _ _ => rfl))))), ?_⟩
    repeat walk_at "sx"
    cases sh with
    | none =>
      refine ⟨_, rfl, .inr ⟨hx, ?_⟩⟩
      repeat walk_at "sx"
      exact k
    | some z =>
      have hx : x = .int z := hx
      subst hx
      have k : match X.shot z with
        | some t => Q (.int t) H
        | none => E (.ref E_NoShot) none H := k
      refine ⟨_, rfl, .inl ⟨z, rfl, ?_⟩⟩
      repeat walk_at "sx"
      walk_at "dx"
      repeat walk_at "sx"
      refine lf_fld st.ins T.cl_Store T.n_Store__shot_tops (sfs_lk B _ _).2.2.1 ?_
      refine ⟨B.d, _, rfl, DGet.k (k := .inl z) st.sd, ?_⟩
      rw [kvI_val]
      unfold TS.shot at k
      cases e : findI X.shots z with
      | none =>
        rw [e] at k
        repeat walk_at "sx"
        exact k
      | some t =>
        rw [e] at k
        repeat walk_at "sx"
        refine iteNF ?_
        repeat walk_at "sx"
        walk_at "dx"
        repeat walk_at "sx"
        refine lf_fld st.ins T.cl_Store T.n_Store__shot_tops (sfs_lk B _ _).2.2.1 ?_
        repeat walk_at "sx"
        refine lf_dget (k := .inl z) st.sd (by rw [kvI_val, e] <;> rfl) ?_
        exact k
theorem scwhole : FnScope ["_law_seen"] ["_law_seen"] (defScope swhole) := ⟨rfl, rfl, rfl, by decide +kernel, rfl, by decide +kernel, by decide +kernel⟩
theorem ok_whole {f : Addr} {fd : FuncData} (F : Fun K "_law_whole" "_law_whole" swhole f fd) (T : Txt K mg C_Pile C_Store E_NoBox E_SnapError E_BadPath E_BadNumber E_LeafThere E_BranchThere E_Nothing E_NoShot Pt_is_name Pt_branch) : FnOk P w K mg base (L2N.CX P w) 1 f fd ["_law_seen"] (spWhole) := by
  refine F.okN scwhole (fun vs H Q E h => ?_) (fun cdv A outer s H vs Q E hr h => ?_)
  · obtain ⟨i, rfl, _⟩ := h
    rfl
  · obtain ⟨i, rfl, k⟩ := h
    refine ⟨_, (pss_one (ps_ret (pe_and (pe_callB (cIsi (K := K) rfl) (by rfl) T.isinstance boot_isinstance (pa_cons (pv 0) (pa_cons (pe_bltn (by rfl) T.int PyProof.Rows.boot_int (v := .ty "int") rfl) pa_nil))) (pe_one (pe_not (pe_callB (cIsi (K := K) rfl) (by rfl) T.isinstance boot_isinstance (pa_cons (pv 0) (pa_cons (pe_bltn (by rfl) T.bool PyProof.Rows.boot_bool (v := .ty "bool") rfl) pa_nil)))))))), ?_⟩
    repeat walk_at "sx"
    refine st_isi (.base (.int _)) (b := true) (by decide +kernel) ?_
    repeat walk_at "sx"
    refine st_isi (.base (.int _)) (b := false) (by decide +kernel) ?_
    repeat walk_at "sx"
    exact k
end
section
variable {P : Program} {w : World} {K : PySem.W.Frag} {mg : Str → Option Value} {base : Heap} {C_Pile C_Store E_NoBox E_SnapError E_BadPath E_BadNumber E_LeafThere E_BranchThere E_Nothing E_NoShot Pt_is_name Pt_branch : Addr}
theorem scisName : FnScope ["thing"] ["thing"] (defScope sisName) := ⟨rfl, rfl, rfl, by decide +kernel, rfl, by decide +kernel, by decide +kernel⟩
theorem ok_isName {f c : Addr} {oc kv0 doc pm ct : Value} {od an : Option Addr} {osl : Array (Option Value)} (lk : K.lookup f = some ⟨oc, od, .func (PySem.W.fnOf "is_name" "is_name" (defArgs sisName) (defBody sisName) (defScope sisName) .none kv0 doc pm an (.ref c) ct), osl⟩)
    (hcd : PySem.W.codeIn K (.ref c) "is_name" = true) (TB : GxR.TabB base mg c Pt_is_name) (T : Txt K mg C_Pile C_Store E_NoBox E_SnapError E_BadPath E_BadNumber E_LeafThere E_BranchThere E_Nothing E_NoShot Pt_is_name Pt_branch) :
    FnOk P w K mg base (L2N.CX P w) 1 f (PySem.W.fnOf "is_name" "is_name" (defArgs sisName) (defBody sisName) (defScope sisName) .none kv0 doc pm an (.ref c) ct) ["thing"] (spIsName K Pt_is_name) := by
  refine fn_of lk hcd scisName (fun vs H Q E h => ?_) (fun A outer s H vs Q E hr h => ?_)
  · obtain ⟨x, rfl, _⟩ := h
    rfl
  · obtain ⟨x, rfl, hI, hT, k⟩ := h
    obtain ⟨tn, mgN⟩ := T.mg_LONGEST_NAME
    refine ⟨_, (pss_cons (ps_if (pt_not (pt_val (pe_callB (cIsi (K := K) rfl) (by rfl) T.isinstance boot_isinstance (pa_cons (pv 0) (pa_cons (pe_bltn (v := .ty "str") (by rfl) T.str PyProof.Rows.boot_str rfl) pa_nil)))))
      (pss_one (ps_ret pe_bl)) pss_nil)
      (pss_cons (ps_if (pt_not (pt_chain op_le op_le pe_int (pe_callB cLenS (by rfl) T.len PySem.boot_len (pa_cons (pv 0) pa_nil)) (pe_glob (v := .int 8) rfl mgN ⟨_, rfl⟩)))
      (pss_one (ps_ret pe_bl)) pss_nil)
      (pss_one (ps_ret (GxR.pe_allS hr rfl T.all boot_all TB rfl ⟨rfl, rfl, by decide +kernel, by rfl, by rfl, fun y hy e => absurd e ((show ∀ y ∈ ([((".0" : Str), NameKind.local), (("sign" : Str), NameKind.local)] : List (Str × NameKind)), y.2 ≠ NameKind.free by decide +kernel) y hy)⟩ (pv 0) (elt_range rfl (by rfl)) (fun _ => rfl)))))), ?_⟩
    repeat walk_at "sx"
    refine st_isStr hI ?_
    repeat walk_at "sx"
    refine ite3 (fun h => ?_) (fun h => ?_)
    · repeat walk_at "sx"
      have e : isNm x = false := isNm_not (by simpa using h)
      have k0 := k H (Gr.refl H)
      rw [e] at k0
      exact k0
    · have hs : isS x = true := by simpa using h
      obtain ⟨z, rfl, hz⟩ : ∃ z : Str, x = .str z ∧ z.length ≤ 1000 := by
        rcases hI with h1 | ⟨m, a, _⟩
        · exact h1
        · rw [a] at hs; cases hs
      repeat walk_at "sx"
      refine st_lenS (sz_of (by omega)) ?_
      repeat walk_at "sx"
      have done_ : ∀ b : Bool, isNm (.str z) = b → ∀ H', Gr H H' → Q (.bl b) H' := fun b e H' g => by
        have k0 := k H' g
        rw [e] at k0
        exact k0
      refine ite3 (fun h1 => ?_) (fun h1 => ?_)
      · repeat walk_at "sx"
        refine ite3 (fun h2 => ?_) (fun h2 => ?_)
        · repeat walk_at "sx"
          refine done_ _ ?_ H (Gr.refl H)
          have : ¬ z.length ≤ 8 := by simp at h2; omega
          show (decide (1 ≤ z.length) && decide (z.length ≤ 8) && z.cps.toList.all okC) = false
          rw [decide_eq_false this] <;> simp
        · repeat walk_at "sx"
          refine st_allS hT fun H2 g => ?_
          refine done_ _ ?_ H2 g
          have q1 : 1 ≤ z.length := by simp at h1; omega
          have q2 : z.length ≤ 8 := by simp at h2; omega
          show (decide (1 ≤ z.length) && decide (z.length ≤ 8) && z.cps.toList.all okC) = _
          rw [decide_eq_true q1, decide_eq_true q2, show (fun c => !decide ([c] < (Str.ofString "a").cps.toList) && !decide ((Str.ofString "z").cps.toList < [c])) = okC from funext pb_eq] <;> rfl
      · repeat walk_at "sx"
        refine done_ _ ?_ H (Gr.refl H)
        have : ¬ 1 ≤ z.length := by simp at h1; omega
        show (decide (1 ≤ z.length) && decide (z.length ≤ 8) && z.cps.toList.all okC) = false
        rw [decide_eq_false this] <;> simp
theorem scchecked : FnScope ["path", "name"] ["path"] (defScope schecked) := ⟨rfl, rfl, rfl, by decide +kernel, rfl, by decide +kernel, by decide +kernel⟩
theorem ok_checked {f : Addr} {fd : FuncData} (F : Fun K "checked" "checked" schecked f fd) (T : Txt K mg C_Pile C_Store E_NoBox E_SnapError E_BadPath E_BadNumber E_LeafThere E_BranchThere E_Nothing E_NoShot Pt_is_name Pt_branch) (C : Cs_checked P w K mg base C_Pile C_Store E_NoBox E_SnapError E_BadPath E_BadNumber E_LeafThere E_BranchThere E_Nothing E_NoShot Pt_is_name Pt_branch) : FnOk P w K mg base (L2N.CX P w) 2 f fd ["path"] (spChecked K Pt_is_name E_BadPath) := by
  refine F.okN scchecked (fun vs H Q E h => ?_) (fun cdv A outer s H vs Q E hr h => ?_)
  · obtain ⟨x, o, rfl, _⟩ := h
    rfl
  · obtain ⟨x, o, rfl, hp, hT, kOk, kNo⟩ := h
    obtain ⟨tn, mgN⟩ := T.mg_LONGEST_PATH
    cases o with
    | none =>
      refine ⟨_, pss_cons (ps_if (pt_not (pt_val (pe_callB (cIsiT (K := K) rfl) (by rfl) T.isinstance boot_isinstance (pa_cons (pv 0) (pa_cons (pe_tup (pa_cons (pe_bltn (v := .ty "list") (by rfl) T.list PyProof.Rows.boot_list rfl) (pa_cons (pe_bltn (v := .ty "tuple") (by rfl) T.tuple PyProof.Rows.boot_tuple rfl) pa_nil))) pa_nil)))))
        (pss_one (L2N.ps_raise rfl (L2N.takes_of rfl rfl rfl rfl) (L2N.pmk_own PySem.F.excBase_ValueError T.x_BadPath T.mg_BadPath T.k_BadPath (raises_own T.b_BadPath T.t_BadPath) rfl))) pss_nil) pss_never, ?_⟩
      repeat walk_at "sx"
      refine ⟨by decide, ?_⟩
      walk_at "new"; rename_i tp hn H2 g e
      repeat walk_at "sx"
      refine st_isiLT e (g.path hp) ?_
      repeat walk_at "sx"
      exact kNo rfl H2 g
    | some xs =>
      obtain ⟨p, rfl, hs, hI, hl⟩ := hp
      rcases hs with hs | hs
      · refine ⟨_, (pss_cons (ps_if (pt_not (pt_val (pe_callB (cIsiT (K := K) rfl) (by rfl) T.isinstance boot_isinstance (pa_cons (pv 0) (pa_cons (pe_tup (pa_cons (pe_bltn (v := .ty "list") (by rfl) T.list PyProof.Rows.boot_list rfl) (pa_cons (pe_bltn (v := .ty "tuple") (by rfl) T.tuple PyProof.Rows.boot_tuple rfl) pa_nil))) pa_nil)))))
          (pss_one (L2N.ps_raise rfl (L2N.takes_of rfl rfl rfl rfl) (L2N.pmk_own PySem.F.excBase_ValueError T.x_BadPath T.mg_BadPath T.k_BadPath (raises_own T.b_BadPath T.t_BadPath) rfl))) pss_nil)
          (pss_cons (ps_if (pt_cmpR op_gt (pe_callB (cLenQ (K := K) rfl) (by rfl) T.len PySem.boot_len (pa_cons (pv 0) pa_nil)) (pe_glob (v := .int 8) rfl mgN ⟨_, rfl⟩) (nomark _))
          (pss_one (L2N.ps_raise rfl (L2N.takes_of rfl rfl rfl rfl) (L2N.pmk_own PySem.F.excBase_ValueError T.x_BadPath T.mg_BadPath T.k_BadPath (raises_own T.b_BadPath T.t_BadPath) rfl))) pss_nil)
          (pss_cons (ps_for (passes_of rfl) rfl (pi_list (pv 0)) (pg_name (i := 1) scchecked.nd rfl (Or.inl rfl))
          (pss_one (ps_if (pt_not (pt_val (pe_d0 C.isName (hr.mono (by decide)) rfl (pa_cons (pv 1) pa_nil))))
          (pss_one (L2N.ps_raise rfl (L2N.takes_of rfl rfl rfl rfl) (L2N.pmk_own PySem.F.excBase_ValueError T.x_BadPath T.mg_BadPath T.k_BadPath (raises_own T.b_BadPath T.t_BadPath) rfl))) pss_nil)))
          (pss_one (ps_ret (pe_callTy (cListOf (K := K) rfl) (by rfl) T.list PyProof.Rows.boot_list (pa_cons (pv 0) pa_nil))))))), ?_⟩
        repeat walk_at "sx"
        refine ⟨by decide, ?_⟩
        walk_at "new"; rename_i tp hn H2 g e
        repeat walk_at "sx"
        refine st_isiLT e (g.path (o := some xs) ⟨p, rfl, .inl hs, hI, hl⟩) ?_
        repeat walk_at "sx"
        refine iteF ?_
        repeat walk_at "sx"
        refine st_len2 (.inl (g.l hs)) ?_
        repeat walk_at "sx"
        refine ite3 (fun h => ?_) (fun h => ?_)
        · refine kNo (pathOf_no ?_) H2 g
          have h8 : ¬ xs.length ≤ 8 := by have := of_decide_eq_true h; omega
          unfold namesOk
          rw [decide_eq_false h8] <;> rfl
        · have h8 : xs.length ≤ 8 := by have := of_decide_eq_false h; omega
          repeat walk_at "sx"
          refine st_exL (g.l hs) ?_
          refine st_loop (m := xs.length) (Y := fun i x => xs[i]? = some x) walk_list (fun i σ H' => Gr H2 H' ∧ (∃ z : Option V, σ = [some (.ref p), z]) ∧ (xs.take i).all isNm = true) ⟨Gr.refl _, ⟨none, rfl⟩, rfl⟩ (fun i σ H' _ q => q.1.l (g.l hs)) ?_ ?_
          · rintro i x σ H4 hi ⟨g3, ⟨z, rfl⟩, hall⟩ hx
            have hxI : Itm K H4 x := (g.trans g3).itm (hI x (List.mem_of_getElem? hx))
            have ht : GxR.TabG H4 Pt_is_name := (g.trans g3).tab _ hT
            repeat walk_at "sx"
            refine ⟨x, rfl, hxI, ht, fun H5 g5 => ?_⟩
            repeat walk_at "sx"
            refine ite3 (fun h => ?_) (fun h => ?_)
            · refine kNo (pathOf_no ?_) H5 ((g.trans g3).trans g5)
              have hb : isNm x = false := by simpa using h
              unfold namesOk
              have : xs.all isNm = false := by
                rw [← Bool.not_eq_true, List.all_eq_true]
                intro q
                have := q x (List.mem_of_getElem? hx)
                rw [hb] at this
                cases this
              rw [this, Bool.and_false]
            · repeat walk_at "sx"
              have hb : isNm x = true := by simpa using h
              refine ⟨g3.trans g5, ⟨_, rfl⟩, ?_⟩
              rw [List.take_add_one, hx]
              show (xs.take i ++ [x]).all isNm = true
              rw [List.all_append, hall, List.all_cons, hb] <;> rfl
          · rintro σ H3 ⟨g3, ⟨z, rfl⟩, hall⟩
            repeat walk_at "sx"
            refine st_list2 (.inl ((g.trans g3).l hs)) ?_
            walk_at "new"; rename_i l hl4 H4 g4 e4
            have hk := pathOf_yes (xs := xs) ?_
            rw [hk.2] at e4
            refine kOk _ hk.1 l H4 ((g.trans g3).free hl4) ((g.trans g3).trans g4) e4
            rw [List.take_length] at hall
            unfold namesOk
            rw [decide_eq_true h8, hall] <;> rfl
      · refine ⟨_, (pss_cons (ps_if (pt_not (pt_val (pe_callB (cIsiT (K := K) rfl) (by rfl) T.isinstance boot_isinstance (pa_cons (pv 0) (pa_cons (pe_tup (pa_cons (pe_bltn (v := .ty "list") (by rfl) T.list PyProof.Rows.boot_list rfl) (pa_cons (pe_bltn (v := .ty "tuple") (by rfl) T.tuple PyProof.Rows.boot_tuple rfl) pa_nil))) pa_nil)))))
          (pss_one (L2N.ps_raise rfl (L2N.takes_of rfl rfl rfl rfl) (L2N.pmk_own PySem.F.excBase_ValueError T.x_BadPath T.mg_BadPath T.k_BadPath (raises_own T.b_BadPath T.t_BadPath) rfl))) pss_nil)
          (pss_cons (ps_if (pt_cmpR op_gt (pe_callB (cLenQ (K := K) rfl) (by rfl) T.len PySem.boot_len (pa_cons (pv 0) pa_nil)) (pe_glob (v := .int 8) rfl mgN ⟨_, rfl⟩) (nomark _))
          (pss_one (L2N.ps_raise rfl (L2N.takes_of rfl rfl rfl rfl) (L2N.pmk_own PySem.F.excBase_ValueError T.x_BadPath T.mg_BadPath T.k_BadPath (raises_own T.b_BadPath T.t_BadPath) rfl))) pss_nil)
          (pss_cons (ps_for (passes_of rfl) rfl (pi_tup (pv 0)) (pg_name (i := 1) scchecked.nd rfl (Or.inl rfl))
          (pss_one (ps_if (pt_not (pt_val (pe_d0 C.isName (hr.mono (by decide)) rfl (pa_cons (pv 1) pa_nil))))
          (pss_one (L2N.ps_raise rfl (L2N.takes_of rfl rfl rfl rfl) (L2N.pmk_own PySem.F.excBase_ValueError T.x_BadPath T.mg_BadPath T.k_BadPath (raises_own T.b_BadPath T.t_BadPath) rfl))) pss_nil)))
          (pss_one (ps_ret (pe_callTy (cListOf (K := K) rfl) (by rfl) T.list PyProof.Rows.boot_list (pa_cons (pv 0) pa_nil))))))), ?_⟩
        repeat walk_at "sx"
        refine ⟨by decide, ?_⟩
        walk_at "new"; rename_i tp hn H2 g e
        repeat walk_at "sx"
        refine st_isiLT e (g.path (o := some xs) ⟨p, rfl, .inr hs, hI, hl⟩) ?_
        repeat walk_at "sx"
        refine iteF ?_
        repeat walk_at "sx"
        refine st_len2 (.inr (g.t hs)) ?_
        repeat walk_at "sx"
        refine ite3 (fun h => ?_) (fun h => ?_)
        · refine kNo (pathOf_no ?_) H2 g
          have h8 : ¬ xs.length ≤ 8 := by have := of_decide_eq_true h; omega
          unfold namesOk
          rw [decide_eq_false h8] <;> rfl
        · have h8 : xs.length ≤ 8 := by have := of_decide_eq_false h; omega
          repeat walk_at "sx"
          refine st_exT (g.t hs) ?_
          refine st_loop (m := xs.length) (Y := fun i x => xs[i]? = some x) walk_tup (fun i σ H' => Gr H2 H' ∧ (∃ z : Option V, σ = [some (.ref p), z]) ∧ (xs.take i).all isNm = true) ⟨Gr.refl _, ⟨none, rfl⟩, rfl⟩ (fun i σ H' _ q => q.1.t (g.t hs)) ?_ ?_
          · rintro i x σ H4 hi ⟨g3, ⟨z, rfl⟩, hall⟩ hx
            have hxI : Itm K H4 x := (g.trans g3).itm (hI x (List.mem_of_getElem? hx))
            have ht : GxR.TabG H4 Pt_is_name := (g.trans g3).tab _ hT
            repeat walk_at "sx"
            refine ⟨x, rfl, hxI, ht, fun H5 g5 => ?_⟩
            repeat walk_at "sx"
            refine ite3 (fun h => ?_) (fun h => ?_)
            · refine kNo (pathOf_no ?_) H5 ((g.trans g3).trans g5)
              have hb : isNm x = false := by simpa using h
              unfold namesOk
              have : xs.all isNm = false := by
                rw [← Bool.not_eq_true, List.all_eq_true]
                intro q
                have := q x (List.mem_of_getElem? hx)
                rw [hb] at this
                cases this
              rw [this, Bool.and_false]
            · repeat walk_at "sx"
              have hb : isNm x = true := by simpa using h
              refine ⟨g3.trans g5, ⟨_, rfl⟩, ?_⟩
              rw [List.take_add_one, hx]
              show (xs.take i ++ [x]).all isNm = true
              rw [List.all_append, hall, List.all_cons, hb] <;> rfl
          · rintro σ H3 ⟨g3, ⟨z, rfl⟩, hall⟩
            repeat walk_at "sx"
            refine st_list2 (.inr ((g.trans g3).t hs)) ?_
            walk_at "new"; rename_i l hl4 H4 g4 e4
            have hk := pathOf_yes (xs := xs) ?_
            rw [hk.2] at e4
            refine kOk _ hk.1 l H4 ((g.trans g3).free hl4) ((g.trans g3).trans g4) e4
            rw [List.take_length] at hall
            unfold namesOk
            rw [decide_eq_true h8, hall] <;> rfl
theorem scnamesBelow : FnScope ["path", "names"] ["path"] (defScope snamesBelow) := ⟨rfl, rfl, rfl, by decide +kernel, rfl, by decide +kernel, by decide +kernel⟩
theorem ok_namesBelow {f : Addr} {fd : FuncData} (F : Fun K "_names_below_top" "_names_below_top" snamesBelow f fd) (T : Txt K mg C_Pile C_Store E_NoBox E_SnapError E_BadPath E_BadNumber E_LeafThere E_BranchThere E_Nothing E_NoShot Pt_is_name Pt_branch) (C : Cs_namesBelow P w K mg base C_Pile C_Store E_NoBox E_SnapError E_BadPath E_BadNumber E_LeafThere E_BranchThere E_Nothing E_NoShot Pt_is_name Pt_branch) : FnOk P w K mg base (L2N.CX P w) 3 f fd ["path"] (spNamesBelow K Pt_is_name E_BadPath) := by
  refine F.okN scnamesBelow (fun vs H Q E h => ?_) (fun cdv A outer s H vs Q E hr h => ?_)
  · obtain ⟨x, o, rfl, _⟩ := h
    rfl
  · obtain ⟨x, o, rfl, hp, hT, kOk, kNo⟩ := h
    refine ⟨_, (pss_cons (ps_set (i := 1) scnamesBelow.nd rfl (Or.inl rfl) (pe_dE C.checked (hr.mono (by decide)) rfl (L2N.takes_of rfl rfl rfl rfl) (pa_cons (pv 0) pa_nil)))
  (pss_cons (ps_if (pt_cmpR (oEqD (K := K) rfl hr.units) (pv 1) (pe_lst pa_nil) (nomark _))
  (pss_one (L2N.ps_raise rfl (L2N.takes_of rfl rfl rfl rfl) (L2N.pmk_own PySem.F.excBase_ValueError T.x_BadPath T.mg_BadPath T.k_BadPath (raises_own T.b_BadPath T.t_BadPath) rfl)))
  pss_nil)
  (pss_one (ps_ret (pv 1))))), ?_⟩
    repeat walk_at "sx"
    refine ⟨x, o, rfl, hp, hT, fun ns hns l H1 hl g1 e1 => ?_, fun e H1 g1 => kNo (.inl e) H1 g1⟩
    obtain ⟨_, h8, hok⟩ := pathOf_at hns
    repeat walk_at "sx"
    refine ⟨by decide, ?_⟩
    walk_at "new"; rename_i q hq H2 g2 e2
    repeat walk_at "sx"
    refine st_eqNil (.of (g2.lst e1)) (.of e2) (fun y hy => lowS_ok (okN_le (hok y hy)).2.2) ?_
    repeat walk_at "sx"
    cases ns with
    | nil =>
      refine iteT ?_
      repeat walk_at "sx"
      exact kNo (.inr hns) _ (g1.trans g2)
    | cons n ns =>
      refine iteF ?_
      repeat walk_at "sx"
      exact kOk _ hns (by simp) l H2 hl (g1.trans g2) (g2.lst e1)
theorem scstTurnTo : FnScope ["self", "top", "before"] ["self", "top"] (defScope sstTurnTo) := ⟨rfl, rfl, rfl, by decide +kernel, rfl, by decide +kernel, by decide +kernel⟩
theorem ok_stTurnTo {f : Addr} {fd : FuncData} (F : Fun K "_turn_to" "Store._turn_to" sstTurnTo f fd) (T : Txt K mg C_Pile C_Store E_NoBox E_SnapError E_BadPath E_BadNumber E_LeafThere E_BranchThere E_Nothing E_NoShot Pt_is_name Pt_branch) (C : Cs_stTurnTo P w K mg base C_Pile C_Store E_NoBox E_SnapError E_BadPath E_BadNumber E_LeafThere E_BranchThere E_Nothing E_NoShot Pt_is_name Pt_branch) : FnOk P w K mg base (L2N.CX P w) 4 f fd ["self", "top"] (spTurnTo K C_Store C_Pile) := by
  refine F.okN scstTurnTo (fun vs H Q E h => ?_) (fun cdv A' outer s H vs Q E hr h => ?_)
  · obtain ⟨B, X, t, rfl, _⟩ := h
    rfl
  · obtain ⟨B, X, t, rfl, st, ht, htop, k⟩ := h
    refine ⟨_, (pss_cons (ps_set (i := 2) scstTurnTo.nd rfl (Or.inl rfl) (pe_fldK (K := K) rfl (pv 0) rfl))
  (pss_cons (ps_expr (pe_mm (pe_fldK (K := K) rfl (pv 0) rfl) T.cl_Pile C.plHold (hr.mono (by decide)) (pa_cons (pv 1) pa_nil)))
  (pss_cons (ps_fld (pv 0) (pv 1) rfl)
  (pss_one (ps_ret (pe_mm (pe_fldK (K := K) rfl (pv 0) rfl) T.cl_Pile C.plLetGo (hr.mono (by decide)) (pa_cons (pv 2) pa_nil))))))), ?_⟩
    repeat walk_at "sx"
    refine lf_fld st.ins T.cl_Store T.n_Store__top (sfs_lk B _ _).2.1 ?_
    repeat walk_at "sx"
    refine lf_fld st.ins T.cl_Store T.n_Store_pile (sfs_lk B _ _).1 ?_
    refine st.pl.fm (by decide +kernel) (by decide +kernel) (by decide +kernel) (by decide +kernel) ?_
    repeat walk_at "sx"
    refine ⟨B.A, X.S, .int t, rfl, st.pl, .inl ⟨t, rfl, fun b c e H1 g1 pl1 => ?_, fun e => by rw [e] at ht; cases ht⟩⟩
    have st1 := st.pile g1 pl1
    repeat walk_at "sx"
    refine lf_putFld st1.ins T.cl_Store T.n_Store__top (by show 4 < 1000; decide) ?_
    rw [putF_top]
    obtain ⟨st2, gx2⟩ := st1.fld t X.taken
    dsimp only at st2 gx2
    generalize hH2 : upd H1 B.p _ = H2 at st2 gx2
    repeat walk_at "sx"
    refine lf_fld st2.ins T.cl_Store T.n_Store_pile (sfs_lk B _ _).1 ?_
    refine st2.pl.fm (by decide +kernel) (by decide +kernel) (by decide +kernel) (by decide +kernel) ?_
    repeat walk_at "sx"
    refine ⟨B.A, X.S.hold t, .int X.top, rfl, st2.pl, .inl ⟨X.top, rfl, fun b c e H3 g3 pl3 => ?_, fun e => ?_⟩⟩
    · exact k H3 ((g1.sa.trans gx2).trans g3.sa) (st2.pile g3 pl3)
    · have := X.S.hold_some t X.top
      rw [e, htop] at this
      cases this
theorem scstBack : FnScope ["self", "shot"] ["self", "shot"] (defScope sstBack) := ⟨rfl, rfl, rfl, by decide +kernel, rfl, by decide +kernel, by decide +kernel⟩
theorem ok_stBack {f : Addr} {fd : FuncData} (F : Fun K "back" "Store.back" sstBack f fd) (T : Txt K mg C_Pile C_Store E_NoBox E_SnapError E_BadPath E_BadNumber E_LeafThere E_BranchThere E_Nothing E_NoShot Pt_is_name Pt_branch) (C : Cs_stBack P w K mg base C_Pile C_Store E_NoBox E_SnapError E_BadPath E_BadNumber E_LeafThere E_BranchThere E_Nothing E_NoShot Pt_is_name Pt_branch) : FnOk P w K mg base (L2N.CX P w) 5 f fd ["self", "shot"] (spBack K C_Store C_Pile (exA E_BadPath E_BadNumber E_Nothing E_LeafThere E_BranchThere E_NoShot)) := by
  refine F.okN scstBack (fun vs H Q E h => ?_) (fun cdv A' outer s H vs Q E hr h => ?_)
  · obtain ⟨B, X, x, sh, rfl, _⟩ := h
    rfl
  · obtain ⟨B, X, x, sh, rfl, st, ok, hx, k⟩ := h
    refine ⟨_, (pss_one (ps_ret (pe_mm (pv 0) T.cl_Store C.stTurnTo (hr.mono (by decide)) (pa_cons (pe_mmE (pv 0) T.cl_Store C.stShotTop (hr.mono (by decide)) (L2N.takes_of rfl rfl rfl rfl) (pa_cons (pv 1) pa_nil)) pa_nil)))), ?_⟩
    repeat walk_at "sx"
    refine st.fm (by decide +kernel) (by decide +kernel) (by decide +kernel) (by decide +kernel) ?_
    repeat walk_at "sx"
    refine st.fm (by decide +kernel) (by decide +kernel) (by decide +kernel) (by decide +kernel) ?_
    repeat walk_at "sx"
    refine ⟨B, X, x, sh, rfl, st, hx, ?_⟩
    unfold backO at k
    cases sh with
    | none => exact k H (Gr.refl H)
    | some z =>
      have hx : x = .int z := hx
      subst hx
      dsimp only at k
      show match X.shot z with | some t => _ | none => _
      cases e : X.shot z with
      | none =>
        rw [e] at k
        exact k H (Gr.refl H)
      | some t =>
        rw [e] at k
        have hm := findI_mem e
        dsimp only at k ⊢
        repeat walk_at "sx"
        exact ⟨B, X, t, rfl, st, ok.t.there t (List.mem_cons_of_mem _ (List.mem_map.mpr ⟨_, hm, rfl⟩)), ok.is, k⟩
theorem scplContent : FnScope ["self", "box"] ["self", "box"] (defScope splContent) := ⟨rfl, rfl, rfl, by decide +kernel, rfl, by decide +kernel, by decide +kernel⟩
theorem ok_plContent {f : Addr} {fd : FuncData} (F : Fun K "content" "Pile.content" splContent f fd) (T : Txt K mg C_Pile C_Store E_NoBox E_SnapError E_BadPath E_BadNumber E_LeafThere E_BranchThere E_Nothing E_NoShot Pt_is_name Pt_branch) (C : Cs_plContent P w K mg base C_Pile C_Store E_NoBox E_SnapError E_BadPath E_BadNumber E_LeafThere E_BranchThere E_Nothing E_NoShot Pt_is_name Pt_branch) : FnOk P w K mg base (L2N.CX P w) 3 f fd ["self", "box"] (spContent K C_Pile E_NoBox) := by
  refine F.okN scplContent (fun vs H Q E h => ?_) (fun cdv A outer s H vs Q E hr h => ?_)
  · obtain ⟨A, S, x, rfl, _⟩ := h
    rfl
  · obtain ⟨A, S, x, rfl, pl, h⟩ := h
    have hu := hu_of hr
    obtain ⟨kc, kn, kr, e1, e2, e3, d⟩ := pl.dcts
    refine ⟨_, (pss_cons (ps_expr (pe_mmE (pv 0) T.cl_Pile C.plRefuse (hr.mono (by decide)) (L2N.takes_of rfl rfl rfl rfl) (pa_cons (pv 1) pa_nil)))
  (pss_cons (ps_if (pt_cmp (pc_din hu (pv 1) (pe_fldK (K := K) rfl (pv 0) rfl)))
  (pss_one (ps_ret (pe_tup (pa_cons pe_str (pa_cons (pe_callTy (cListOf (K := K) rfl) (by rfl) T.list PyProof.Rows.boot_list (pa_cons (pe_dget hu (pe_fldK (K := K) rfl (pv 0) rfl) (pv 1) (fun _ _ => rfl)) pa_nil)) pa_nil)))))
  pss_nil)
  (pss_one (ps_ret (pe_tup (pa_cons pe_str (pa_cons (pe_dget hu (pe_fldK (K := K) rfl (pv 0) rfl) (pv 1) (fun _ _ => rfl)) pa_nil))))))), ?_⟩
    repeat walk_at "sx"
    refine pl.fm (by decide +kernel) (by decide +kernel) (by decide +kernel) (by decide +kernel) ?_
    repeat walk_at "sx"
    refine ⟨A, S, x, rfl, pl, ?_⟩
    rcases h with ⟨z, rfl, k1, k2⟩ | ⟨od, k⟩
    · refine .inl ⟨z, rfl, fun b c e => ?_, k2⟩
      have vn := d.vn z
      have vr := d.vr z
      have k1 := k1 b c e
      rw [e] at vn vr
      repeat walk_at "sx"
      walk_at "dx"
      repeat walk_at "sx"
      refine lf_fld pl.ins T.cl_Pile T.n_Pile__rows (pfs_lk A _).2.2.2 ?_
      refine ⟨A.r, _, rfl, DGet.k (k := .inl z) e3, ?_⟩
      cases b with
      | leaf n =>
        have vr : valV kr (Sum.inl z) = none := vr
        rw [vr]
        repeat walk_at "sx"
        refine iteF ?_
        repeat walk_at "sx"
        walk_at "dx"
        repeat walk_at "sx"
        refine lf_fld pl.ins T.cl_Pile T.n_Pile__numbers (pfs_lk A _).2.2.1 ?_
        repeat walk_at "sx"
        refine lf_dget (k := .inl z) e2 vn ?_
        repeat walk_at "sx"
        refine ⟨by show 2 ≤ sizeLine; decide, ?_⟩
        walk_at "new"; rename_i t htn H1 g1 e4
        exact k1 t H1 htn g1 e4 (fun _ _ _ z => by cases z)
      | branch rs =>
        obtain ⟨t, us, vr, ht, hp⟩ := vr
        rw [vr]
        repeat walk_at "sx"
        refine iteT ?_
        repeat walk_at "sx"
        walk_at "dx"
        repeat walk_at "sx"
        refine lf_fld pl.ins T.cl_Pile T.n_Pile__rows (pfs_lk A _).2.2.2 ?_
        repeat walk_at "sx"
        refine lf_dget (k := .inl z) e3 vr ?_
        repeat walk_at "sx"
        refine st_listT (GTm.sqT ht) ?_
        walk_at "new"; rename_i l hln H1 g1 e4
        repeat walk_at "sx"
        refine ⟨by show 2 ≤ sizeLine; decide, ?_⟩
        walk_at "new"; rename_i u hun H2 g2 e5
        refine k1 u H2 (g1.free hun) (g1.trans g2) ⟨l, us, e5, g2.lst e4, hp.gr (g1.trans g2)⟩ (fun l' us' rs' _ e6 _ => ?_)
        rw [e5] at e6
        cases e6
        exact hln
    · exact .inr ⟨od, k⟩
theorem sccount : FnScope ["_law_seen", "_law_due"] ["_law_seen", "_law_due"] (defScope scount) := ⟨rfl, rfl, rfl, by decide +kernel, rfl, by decide +kernel, by decide +kernel⟩
theorem ok_count {f : Addr} {fd : FuncData} (F : Fun K "_law_count" "_law_count" scount f fd) (T : Txt K mg C_Pile C_Store E_NoBox E_SnapError E_BadPath E_BadNumber E_LeafThere E_BranchThere E_Nothing E_NoShot Pt_is_name Pt_branch) (C : Cs_count P w K mg base C_Pile C_Store E_NoBox E_SnapError E_BadPath E_BadNumber E_LeafThere E_BranchThere E_Nothing E_NoShot Pt_is_name Pt_branch) : FnOk P w K mg base (L2N.CX P w) 2 f fd ["_law_seen", "_law_due"] (spCount) := by
  refine F.okN sccount (fun vs H Q E h => ?_) (fun cdv A outer s H vs Q E hr h => ?_)
  · obtain ⟨i, j, rfl, _⟩ := h
    rfl
  · obtain ⟨i, j, rfl, k⟩ := h
    refine ⟨_, (pss_one (ps_ret (pe_and (pe_d0 C.whole (hr.mono (by decide)) rfl (pa_cons (pv 0) pa_nil)) (pe_one (pe_cmpR op_eq (pv 0) (pv 1) (nomark _)))))), ?_⟩
    repeat walk_at "sx"
    refine ⟨_, rfl, ?_⟩
    repeat walk_at "sx"
    rw [show decide (V.int i = V.int j) = decide (i = j) from decide_eq_decide.mpr ⟨fun q => V.int.inj q, fun q => by rw [q]⟩]
    exact k
end
section
variable {P : Program} {w : World} {K : PySem.W.Frag} {mg : Str → Option Value} {base : Heap} {C_Pile C_Store E_NoBox E_SnapError E_BadPath E_BadNumber E_LeafThere E_BranchThere E_Nothing E_NoShot Pt_is_name Pt_branch : Addr}
theorem scisWhole : FnScope ["thing"] ["thing"] (defScope sisWhole) := ⟨rfl, rfl, rfl, by decide +kernel, rfl, by decide +kernel, by decide +kernel⟩
theorem ok_isWhole {f : Addr} {fd : FuncData} (F : Fun K "is_whole" "is_whole" sisWhole f fd) (T : Txt K mg C_Pile C_Store E_NoBox E_SnapError E_BadPath E_BadNumber E_LeafThere E_BranchThere E_Nothing E_NoShot Pt_is_name Pt_branch) : FnOk P w K mg base (L2N.CX P w) 1 f fd ["thing"] (spIsWhole K) := by
  refine F.okN scisWhole (fun vs H Q E h => ?_) (fun cdv A outer s H vs Q E hr h => ?_)
  · obtain ⟨x, rfl, _⟩ := h
    rfl
  · obtain ⟨x, rfl, h⟩ := h
    refine ⟨_, (pss_one (ps_ret (pe_and (pe_callB (cIsi (K := K) rfl) (by rfl) T.isinstance boot_isinstance (pa_cons (pv 0) (pa_cons (pe_bltn (by rfl) T.int PyProof.Rows.boot_int (v := .ty "int") rfl) pa_nil))) (pe_one (pe_not (pe_callB (cIsi (K := K) rfl) (by rfl) T.isinstance boot_isinstance (pa_cons (pv 0) (pa_cons (pe_bltn (by rfl) T.bool PyProof.Rows.boot_bool (v := .ty "bool") rfl) pa_nil)))))))), ?_⟩
    repeat walk_at "sx"
    rcases h with ⟨z, rfl, k⟩ | ⟨⟨m, b1, b2, ty, e1, e2, e3⟩, k⟩
    · refine st_isi (.base (.int _)) (b := true) (by decide +kernel) ?_
      repeat walk_at "sx"
      refine st_isi (.base (.int _)) (b := false) (by decide +kernel) ?_
      repeat walk_at "sx"
      exact k
    · refine st_isi ty e1 ?_
      repeat walk_at "sx"
      refine ite3 (fun h => ?_) (fun h => ?_)
      · repeat walk_at "sx"
        refine st_isi ty e2 ?_
        repeat walk_at "sx"
        rw [h, Bool.true_and] at e3
        rw [e3]
        exact k
      · exact k
theorem scplRefuse : FnScope ["self", "box"] ["self", "box"] (defScope splRefuse) := ⟨rfl, rfl, rfl, by decide +kernel, rfl, by decide +kernel, by decide +kernel⟩
theorem ok_plRefuse {f : Addr} {fd : FuncData} (F : Fun K "_refuse_unless_there" "Pile._refuse_unless_there" splRefuse f fd) (T : Txt K mg C_Pile C_Store E_NoBox E_SnapError E_BadPath E_BadNumber E_LeafThere E_BranchThere E_Nothing E_NoShot Pt_is_name Pt_branch) (C : Cs_plRefuse P w K mg base C_Pile C_Store E_NoBox E_SnapError E_BadPath E_BadNumber E_LeafThere E_BranchThere E_Nothing E_NoShot Pt_is_name Pt_branch) : FnOk P w K mg base (L2N.CX P w) 2 f fd ["self", "box"] (spRefuse K C_Pile E_NoBox) := by
  refine F.okN scplRefuse (fun vs H Q E h => ?_) (fun cdv A outer s H vs Q E hr h => ?_)
  · obtain ⟨A, S, x, rfl, _⟩ := h
    rfl
  · obtain ⟨A, S, x, rfl, pl, h⟩ := h
    have hu := hu_of hr
    obtain ⟨kc, kn, kr, e1, e2, e3, d⟩ := pl.dcts
    refine ⟨_, (pss_one (ps_if (PW.pt (pw_or (pt_not (pt_val (pe_d0 C.isWhole (hr.mono (by decide)) rfl (pa_cons (pv 1) pa_nil)))) (pw_or1 (pt_cmp (pc_dnotin hu (pv 1) (pe_fldK (K := K) rfl (pv 0) rfl))))))
  (pss_one (L2N.ps_raise rfl (L2N.takes_of rfl rfl rfl rfl) (L2N.pmk_own PySem.F.excBase_ValueError T.x_NoBox T.mg_NoBox T.k_NoBox (raises_own T.b_NoBox T.t_NoBox) rfl)))
  pss_nil)), ?_⟩
    repeat walk_at "sx"
    rcases h with ⟨z, rfl, k1, k2⟩ | ⟨od, k⟩
    · refine ⟨_, rfl, .inl ⟨z, rfl, ?_⟩⟩
      repeat walk_at "sx"
      walk_at "dx"
      repeat walk_at "sx"
      refine lf_fld pl.ins T.cl_Pile T.n_Pile__counts (pfs_lk A _).2.1 ?_
      refine ⟨A.c, _, rfl, DGet.k (k := .inl z) e1, ?_⟩
      repeat walk_at "sx"
      rw [d.vc]
      cases e : S.box z with
      | none =>
        repeat walk_at "sx"
        exact k2 e
      | some x =>
        repeat walk_at "sx"
        exact k1 x.1 x.2 e
    · refine ⟨_, rfl, .inr ⟨od, ?_⟩⟩
      repeat walk_at "sx"
      exact k
theorem scplBranch : FnScope ["self", "rows", "kept_rows", "_", "held", "box"] ["self", "rows"] (defScope splBranch) := ⟨rfl, rfl, rfl, by decide +kernel, rfl, by decide +kernel, by decide +kernel⟩
theorem ok_plBranch {f c : Addr} {oc kv0 doc pm ct : Value} {od an : Option Addr} {osl : Array (Option Value)} (lk : K.lookup f = some ⟨oc, od, .func (PySem.W.fnOf "branch" "Pile.branch" (defArgs splBranch) (defBody splBranch) (defScope splBranch) .none kv0 doc pm an (.ref c) ct), osl⟩)
    (hcd : PySem.W.codeIn K (.ref c) "Pile.branch" = true) (TB : GxR.TabB base mg c Pt_branch) (T : Txt K mg C_Pile C_Store E_NoBox E_SnapError E_BadPath E_BadNumber E_LeafThere E_BranchThere E_Nothing E_NoShot Pt_is_name Pt_branch) (C : Cs_plBranch P w K mg base C_Pile C_Store E_NoBox E_SnapError E_BadPath E_BadNumber E_LeafThere E_BranchThere E_Nothing E_NoShot Pt_is_name Pt_branch) :
    FnOk P w K mg base (L2N.CX P w) 3 f (PySem.W.fnOf "branch" "Pile.branch" (defArgs splBranch) (defBody splBranch) (defScope splBranch) .none kv0 doc pm an (.ref c) ct) ["self", "rows"] (spBranch K C_Pile E_NoBox Pt_branch) := by
  refine fn_of lk hcd scplBranch (fun vs H Q E h => ?_) (fun A outer s H vs Q E hr h => ?_)
  · obtain ⟨A, S, l, us, ps, rfl, _⟩ := h
    rfl
  · obtain ⟨A, S, l, us, ps, rfl, pl, hS, hp, hpl, hm, tab, h⟩ := h
    have hu := hu_of hr
    refine ⟨_, (pss_cons (ps_set (i := 2) scplBranch.nd rfl (Or.inl rfl) (TG.pe_tupG (k := 0) (hr.mono (by decide)) (by rfl) T.tuple PyProof.Rows.boot_tuple (TB := TB) (hcode := rfl) (S := ⟨rfl, rfl, by decide +kernel, by rfl, by rfl, by rfl, by decide +kernel, by decide +kernel, by decide +kernel, fun y hy e => absurd e ((show ∀ y ∈ ([((".0" : Str), NameKind.local), (("name" : Str), NameKind.local), (("held" : Str), NameKind.local)] : List (Str × NameKind)), y.2 ≠ NameKind.free by decide +kernel) y hy)⟩) (hi := (pv 1)) (hs := fun _ => rfl)))
  (pss_cons (ps_for (passes_of rfl) rfl (pi_tup (pv 2)) (pg_tup (by rfl) (pgs_cons (pg_name (i := 3) scplBranch.nd rfl (Or.inl rfl)) (pgs_cons (pg_name (i := 4) scplBranch.nd rfl (Or.inl rfl)) pgs_nil)))
  (pss_one (ps_expr (pe_mmE (pv 0) T.cl_Pile C.plRefuse (hr.mono (by decide)) (L2N.takes_of rfl rfl rfl rfl) (pa_cons (pv 4) pa_nil)))))
  (pss_cons (ps_for (passes_of rfl) rfl (pi_tup (pv 2)) (pg_tup (by rfl) (pgs_cons (pg_name (i := 3) scplBranch.nd rfl (Or.inl rfl)) (pgs_cons (pg_name (i := 4) scplBranch.nd rfl (Or.inl rfl)) pgs_nil)))
  (pss_one (ps_daug hu (pe_fldK (K := K) rfl (pv 0) rfl) (pv 4) pe_int in_add (fun _ _ _ => rfl))))
  (pss_cons (ps_set (i := 5) scplBranch.nd rfl (Or.inl rfl) (pe_mm0 (pv 0) T.cl_Pile C.plNext (hr.mono (by decide)) ))
  (pss_cons (ps_dput hu (pe_fldK (K := K) rfl (pv 0) rfl) (pv 5) (pv 2) rfl)
  (pss_one (ps_ret (pv 5)))))))), ?_⟩
    repeat walk_at "sx"
    refine st_tupG ?_
    repeat walk_at "sx"
    refine ⟨l, us, ps, rfl, hS, hp, tab, by show _ ≤ 16777216; omega, fun t ws H1 ht g1 e1 hw => ?_⟩
    have hwl := hw.len
    have pl1 := pl.gr g1
    repeat walk_at "sx"
    refine st_exT (GTm.sqT e1) ?_
    refine st_loop2 (K := K) walk_tup hwl (fun i σ H' => H' = H1 ∧ (∃ u v, σ = [some (.ref A.p), some (.ref l), some (.ref t), u, v, none]) ∧ ∀ j r, j < i → ps[j]? = some r → There S r.2) ⟨rfl, ⟨_, _, rfl⟩, fun j r hj => absurd hj (Nat.not_lt_zero _)⟩ (fun i σ H' _ p => by rw [p.1]; exact ⟨GTm.sqT e1, hw⟩) ?_ ?_
    · rintro i r σ H' er ⟨rfl, ⟨u, v, rfl⟩, hth⟩
      have hmem := List.mem_of_getElem? er
      have next : There S r.2 → H' = H' ∧ (∃ u' v', [some (V.ref A.p), some (V.ref l), some (V.ref t), some r.1, some r.2, none] = [some (V.ref A.p), some (V.ref l), some (V.ref t), u', v', none]) ∧ ∀ j q, j < i + 1 → ps[j]? = some q → There S q.2 := fun hr2 => ⟨rfl, ⟨_, _, rfl⟩, fun j q hj ej => by
        rcases Nat.lt_succ_iff_lt_or_eq.mp hj with z | z
        · exact hth j q z ej
        · rw [z, er] at ej
          cases ej
          exact hr2⟩
      repeat walk_at "sx"
      refine pl1.fm (by decide +kernel) (by decide +kernel) (by decide +kernel) (by decide +kernel) ?_
      repeat walk_at "sx"
      refine ⟨A, S, r.2, rfl, pl1, ?_⟩
      have cls : There S r.2 ∨ (Gone K H S r.2 ∧ ∀ H', Gr H H' → E (.ref E_NoBox) none H') := by
        rcases h with ⟨rs, rfl, h1, _⟩ | ⟨_, h1, h2⟩
        · obtain ⟨q, hq, rfl⟩ := List.mem_map.mp hmem
          exact .inl (h1 q hq)
        · rcases h1 r hmem with z | z
          · exact .inl z
          · exact .inr ⟨z, h2⟩
      rcases cls with ⟨z, b, ez, eb⟩ | ⟨hg, hE⟩
      · rw [ez]
        refine .inl ⟨z, rfl, fun b' c' _ => ?_, fun e => by rw [eb] at e; cases e⟩
        repeat walk_at "sx"
        have := next ⟨z, b, ez, eb⟩
        rw [ez] at this
        exact this
      · rcases hg with ⟨z, ez, eb⟩ | od
        · rw [ez]
          exact .inl ⟨z, rfl, fun b' c' e => (by rw [eb] at e; cases e), fun _ => hE _ g1⟩
        · refine .inr ⟨?_, hE _ g1⟩
          obtain ⟨m, b1, b2, ty, q⟩ := od
          exact ⟨m, b1, b2, g1.ty ty, q⟩
    · rintro σ H' ⟨rfl, ⟨u, v, rfl⟩, hth⟩
      rcases h with ⟨rs, rfl, h1, k⟩ | ⟨⟨p, hp2, hg⟩, _, _⟩
      · have hrl : rs.length ≤ 5000 := by rw [List.length_map] at hpl; exact hpl
        repeat walk_at "sx"
        refine st_exT (GTm.sqT e1) ?_
        refine st_loop2 (K := K) walk_tup hwl (fun i σ H2 => Gx A.foot H' H2 ∧ PileAt K C_Pile H2 A (S.holds ((rs.take i).map (·.2))) ∧ ∃ u v, σ = [some (.ref A.p), some (.ref l), some (.ref t), u, v, none]) ⟨Gx.refl _, pl1, _, _, rfl⟩ (fun i σ H2 _ p => ⟨p.1.t (GTm.sqT e1), hw.gx p.1⟩) ?_ ?_
        · rintro i r σ H2 er ⟨gx, pl2, u, v, rfl⟩
          rw [List.getElem?_map] at er
          obtain ⟨q, eq, rfl⟩ := Option.map_eq_some_iff.mp er
          obtain ⟨kc, kn, kr, c1, c2, c3, d⟩ := pl2.dcts
          have hth2 : ((S.holds ((rs.take i).map (·.2))).box q.2).isSome = true := by
            rw [PS.holds_some]
            obtain ⟨z, b, ez, eb⟩ := h1 q (List.mem_of_getElem? eq)
            cases ez
            rw [eb] <;> rfl
          obtain ⟨x, ex⟩ := Option.isSome_iff_exists.mp hth2
          repeat walk_at "sx"
          walk_at "dx"
          repeat walk_at "sx"
          refine lf_fld pl2.ins T.cl_Pile T.n_Pile__counts (pfs_lk A _).2.1 ?_
          repeat walk_at "sx"
          refine ⟨A.c, _, rfl, (show DGet H2 A.c (kV (.inl q.2)) (some (.int x.2)) by have z := DGet.k (k := .inl q.2) c1; rw [d.vc, ex] at z; exact z), ?_⟩
          repeat walk_at "sx"
          refine ⟨_, _, rfl, rfl, _, DPut.k (k := .inl q.2) c1 (sz_lt (by have := d.lc; have := d.ok.big; omega)), ?_⟩
          refine ⟨gx.put (.inr (.inl rfl)) c1 (by intro z; exact z) (by intro _ z; cases z), ?_, _, _, rfl⟩
          rw [st_holds eq]
          exact pl2.cnt c1 c2 c3 rfl (d.hold ex)
        · rintro σ H2 ⟨gx, pl2, u, v, rfl⟩
          rw [List.length_map, List.take_length] at pl2
          obtain ⟨kc, kn, kr, c1, c2, c3, d⟩ := pl2.dcts
          obtain ⟨n1, n2, n3⟩ := pl2.ne
          have hmd : (S.holds (rs.map (·.2))).made = S.made := PS.holds_made _ _
          have ncp : A.c ≠ A.p := ne_of c1 pl2.ins (by intro z; cases z)
          have nrp : A.r ≠ A.p := ne_of c3 pl2.ins (by intro z; cases z)
          have nnp : A.n ≠ A.p := ne_of c2 pl2.ins (by intro z; cases z)
          repeat walk_at "sx"
          refine pl2.fm (by decide +kernel) (by decide +kernel) (by decide +kernel) (by decide +kernel) ?_
          repeat walk_at "sx"
          refine ⟨A, (S.holds (rs.map (·.2))).made, kc, rfl, pl2.ins, c1, by have := d.lc; have := d.ok.big; omega, ?_⟩
          repeat walk_at "sx"
          walk_at "dx"
          repeat walk_at "sx"
          refine lf_fld (by rw [upd_ne ncp.symm]; exact upd_same) T.cl_Pile T.n_Pile__rows (pfs_lk A _).2.2.2 ?_
          repeat walk_at "sx"
          refine lf_dput (k := .inl _) (by rw [upd_ne n2.symm, upd_ne nrp]; exact c3) (by have := d.lr; have := d.ok.big; omega) ?_
          repeat walk_at "sx"
          have gx3 : Gx A.foot H2 _ := (((Gx.refl H2).put (o' := .ins C_Pile A.dx (pfs A (((S.holds (rs.map (·.2))).made : Int) + 1))) (.inl rfl) pl2.ins (by intro z; exact z) (by intro _ z; cases z)).put (o' := .dK (putK kc (Sum.inl (((S.holds (rs.map (·.2))).made : Int) + 1)) (.int 0))) (.inr (.inl rfl)) (by rw [upd_ne ncp]; exact c1) (by intro z; exact z) (by intro _ z; cases z)).put
            (o' := .dK (putK kr (Sum.inl (((S.holds (rs.map (·.2))).made : Int) + 1)) (.ref t))) (.inr (.inr (.inr rfl))) (by rw [upd_ne n2.symm, upd_ne nrp]; exact c3) (by intro z; exact z) (by intro _ z; cases z)
          rw [hmd] at gx3 ⊢
          refine k _ (((Gx.of g1).trans gx).trans gx3) ⟨?_, ⟨putK kc (Sum.inl ((S.made : Int) + 1)) (.int 0), kn, putK kr (Sum.inl ((S.made : Int) + 1)) (.ref t), ?_, ?_, upd_same, ?_⟩, pl2.ne⟩
          · rw [upd_ne nrp.symm, upd_ne ncp.symm, upd_same]
            show _ = some (HO.ins C_Pile A.dx (pfs A (((S.holds (rs.map (·.2))).made + 1 : Nat) : Int)))
            rw [hmd] <;> rfl
          · rw [upd_ne n2, upd_same]
          · rw [upd_ne n3, upd_ne n1.symm, upd_ne nnp]
            exact c2
          · have dd := (d.mkBranch (t := t) (us := ws) (rs := rs) (gx.frz.gt e1) ((hw.gx gx).rw) hrl (by rw [hmd]; exact hm)).move (fun _ _ => gx3.t) gx3.frz
            rw [hmd] at dd
            exact dd
      · exfalso
        obtain ⟨j, hj, ej⟩ := List.mem_iff_getElem.mp hp2
        obtain ⟨z, b, ez, eb⟩ := hth j p hj (by rw [List.getElem?_eq_getElem hj, ej])
        rcases hg with ⟨z', ez', eb'⟩ | ⟨m, b1, b2, ty, q1, q2, q3⟩
        · rw [ez] at ez'
          cases ez'
          rw [eb] at eb'
          cases eb'
        · rw [ez] at ty
          cases ty with
          | base ty =>
            cases ty
            rw [show kitB "int" "int" = some true from by decide +kernel] at q1
            rw [show kitB "int" "bool" = some false from by decide +kernel] at q2
            cases q1
            cases q2
            cases q3
theorem scplLowered : FnScope ["self", "box"] ["self", "box"] (defScope splLowered) := ⟨rfl, rfl, rfl, by decide +kernel, rfl, by decide +kernel, by decide +kernel⟩
theorem ok_plLowered {f : Addr} {fd : FuncData} (F : Fun K "_lowered" "Pile._lowered" splLowered f fd) (T : Txt K mg C_Pile C_Store E_NoBox E_SnapError E_BadPath E_BadNumber E_LeafThere E_BranchThere E_Nothing E_NoShot Pt_is_name Pt_branch) : FnOk P w K mg base (L2N.CX P w) 1 f fd ["self", "box"] (spLowered K C_Pile) := by
  refine F.okN scplLowered (fun vs H Q E h => ?_) (fun cdv A outer s H vs Q E hr h => ?_)
  · obtain ⟨A, S, z, b, c, rfl, _⟩ := h
    rfl
  · obtain ⟨A, S, z, b, c, rfl, pl, e, k⟩ := h
    have hu := hu_of hr
    obtain ⟨kc, kn, kr, e1, e2, e3, d⟩ := pl.dcts
    have ncp : A.c ≠ A.p := ne_of e1 pl.ins (by intro z; cases z)
    have vc : valV kc (.inl z) = some (.int (c : Int)) := by rw [d.vc, e]; rfl
    refine ⟨_, (pss_cons (ps_dput hu (pe_fldK (K := K) rfl (pv 0) rfl) (pv 1) (pe_callB (call_max2 rfl) (by rfl) T.max (by decide +kernel) (pa_cons (pe_op op_sub (pe_dget hu (pe_fldK (K := K) rfl (pv 0) rfl) (pv 1) (fun _ _ => rfl)) pe_int) (pa_cons pe_int pa_nil))) rfl)
  (pss_one (ps_ret (pe_dget hu (pe_fldK (K := K) rfl (pv 0) rfl) (pv 1) (fun _ _ => rfl))))), ?_⟩
    repeat walk_at "sx"
    walk_at "dx"
    repeat walk_at "sx"
    walk_at "dx"
    repeat walk_at "sx"
    refine lf_fld pl.ins T.cl_Pile T.n_Pile__counts (pfs_lk A _).2.1 ?_
    repeat walk_at "sx"
    refine lf_dget (k := .inl z) e1 vc ?_
    repeat walk_at "sx"
    refine ⟨_, _, rfl, ?_⟩
    have ec : (if (0 : Int) > (c : Int) - 1 then (0 : Int) else (c : Int) - 1) = ((c - 1 : Nat) : Int) := by split <;> omega
    rw [ec]
    repeat walk_at "sx"
    refine lf_fld pl.ins T.cl_Pile T.n_Pile__counts (pfs_lk A _).2.1 ?_
    repeat walk_at "sx"
    refine lf_dput (k := .inl z) e1 (by have := d.lc; have := d.ok.big; omega) ?_
    repeat walk_at "sx"
    walk_at "dx"
    repeat walk_at "sx"
    refine lf_fld (by rw [upd_ne ncp.symm]; exact pl.ins) T.cl_Pile T.n_Pile__counts (pfs_lk A _).2.1 ?_
    repeat walk_at "sx"
    refine lf_dget (k := .inl z) upd_same (by rw [valV_put, if_pos rfl]) ?_
    exact k _ ((Gx.refl H).put (.inr (.inl rfl)) e1 (by intro z; exact z) (by intro _ z; cases z)) (pl.cnt e1 e2 e3 rfl (d.lower e))
theorem scplTaken : FnScope ["self", "box", "rows", "_", "held"] ["self", "box"] (defScope splTaken) := ⟨rfl, rfl, rfl, by decide +kernel, rfl, by decide +kernel, by decide +kernel⟩
theorem ok_plTaken {f : Addr} {fd : FuncData} (F : Fun K "_taken_away" "Pile._taken_away" splTaken f fd) (T : Txt K mg C_Pile C_Store E_NoBox E_SnapError E_BadPath E_BadNumber E_LeafThere E_BranchThere E_Nothing E_NoShot Pt_is_name Pt_branch) : FnOk P w K mg base (L2N.CX P w) 1 f fd ["self", "box"] (spTaken K C_Pile) := by
  refine F.okN scplTaken (fun vs H Q E h => ?_) (fun cdv A outer s H vs Q E hr h => ?_)
  · obtain ⟨A, S, z, b, c, rfl, _⟩ := h
    rfl
  · obtain ⟨A, S, z, b, c, rfl, pl, e, k⟩ := h
    have hu := hu_of hr
    obtain ⟨kc, kn, kr, e1, e2, e3, d⟩ := pl.dcts
    obtain ⟨n1, n2, n3⟩ := pl.ne
    have ncp : A.c ≠ A.p := ne_of e1 pl.ins (by intro z; cases z)
    have nnp : A.n ≠ A.p := ne_of e2 pl.ins (by intro z; cases z)
    have nrp : A.r ≠ A.p := ne_of e3 pl.ins (by intro z; cases z)
    refine ⟨_, (pss_cons (ps_ddel (pe_fldK (K := K) rfl (pv 0) rfl) (pv 1))
  (pss_cons (ps_expr (pe_dpop2 (pe_fldK (K := K) rfl (pv 0) rfl) (pv 1) pe_non ⟨rfl, rfl, rfl, rfl⟩))
  (pss_cons (ps_set (i := 2) scplTaken.nd rfl (Or.inl rfl) (pe_dpop2 (pe_fldK (K := K) rfl (pv 0) rfl) (pv 1) (pe_tup pa_nil) ⟨rfl, rfl, rfl, rfl⟩))
  (pss_one (ps_ret (pe_lc (own := [("_", 3), ("held", 4)]) (g := gTup K 2 (gCons (gName 3) (gCons (gName 4) gNil))) (tt := tYes) rfl scplTaken.nd (pi_tup (pv 2)) (blkOk_by (N := ["self", "box", "rows", "_", "held"]) (sc := defScope splTaken) (by decide +kernel)) (fun _ _ _ _ _ => pg_tup (by rfl) (pgs_cons (pg_name (i := 3) scplTaken.nd rfl (Or.inl rfl)) (pgs_cons (pg_name (i := 4) scplTaken.nd rfl (Or.inl rfl)) pgs_nil))) (fun _ _ _ _ _ => pts_nil) (fun _ _ _ _ _ => (pv 4)))))))), ?_⟩
    repeat walk_at "sx"
    walk_at "dx"
    repeat walk_at "sx"
    refine lf_fld pl.ins T.cl_Pile T.n_Pile__counts (pfs_lk A _).2.1 ?_
    repeat walk_at "sx"
    refine ⟨A.c, kc, .inl z, rfl, e1, rfl, by rw [d.vc, e]; rfl, ?_⟩
    generalize hH1 : upd H A.c _ = H1
    have g1 : Gx A.foot H H1 := by rw [← hH1]; exact (Gx.refl H).put (.inr (.inl rfl)) e1 (by intro z; exact z) (by intro _ z; cases z)
    have p1 : H1 A.p = some (.ins C_Pile A.dx (pfs A S.made)) := by rw [← hH1, upd_ne ncp.symm]; exact pl.ins
    have c1 : H1 A.c = some (.dK (dropK kc (.inl z))) := by rw [← hH1]; exact upd_same
    have r1 : H1 A.n = some (.dK kn) := by rw [← hH1, upd_ne n1.symm]; exact e2
    have s1 : H1 A.r = some (.dK kr) := by rw [← hH1, upd_ne n2.symm]; exact e3
    repeat walk_at "sx"
    walk_at "dx"
    repeat walk_at "sx"
    refine lf_fld p1 T.cl_Pile T.n_Pile__numbers (pfs_lk A _).2.2.1 ?_
    refine ⟨A.n, rfl, .inl ⟨kn, .inl r1⟩, ?_⟩
    repeat walk_at "sx"
    refine lf_pop (k := .inl z) (R := fun H' => _) r1 ?_
    generalize hH2 : upd H1 A.n _ = H2
    have g2 : Gx A.foot H H2 := by rw [← hH2]; exact g1.put (.inr (.inr (.inl rfl))) r1 (by intro z; exact z) (by intro _ z; cases z)
    have p2 : H2 A.p = some (.ins C_Pile A.dx (pfs A S.made)) := by rw [← hH2, upd_ne nnp.symm]; exact p1
    have c2 : H2 A.c = some (.dK (dropK kc (.inl z))) := by rw [← hH2, upd_ne n1]; exact c1
    have r2 : H2 A.n = some (.dK (dropK kn (.inl z))) := by rw [← hH2]; exact upd_same
    have s2 : H2 A.r = some (.dK kr) := by rw [← hH2, upd_ne n3.symm]; exact s1
    repeat walk_at "sx"
    walk_at "dx"
    repeat walk_at "sx"
    refine lf_fld p2 T.cl_Pile T.n_Pile__rows (pfs_lk A _).2.2.2 ?_
    refine ⟨A.r, rfl, .inl ⟨kr, .inl s2⟩, ?_⟩
    repeat walk_at "sx"
    refine ⟨Nat.zero_le _, ?_⟩
    walk_at "new"; rename_i u hun H3 g3 e4
    refine lf_popV (k := .inl z) (g3.dK s2) ?_
    generalize hH4 : upd H3 A.r _ = H4
    have g4 : Gx A.foot H H4 := by rw [← hH4]; exact (g2.then g3).put (.inr (.inr (.inr rfl))) (g3.dK s2) (by intro z; exact z) (by intro _ z; cases z)
    have p4 : H4 A.p = some (.ins C_Pile A.dx (pfs A S.made)) := by rw [← hH4, upd_ne nrp.symm]; exact g3.keep _ _ p2 (fun _ z => by cases z)
    have pl4 : PileAt K C_Pile H4 A (S.drop z) := ⟨p4, ⟨_, _, _, by rw [← hH4, upd_ne n2]; exact g3.dK c2, by rw [← hH4, upd_ne n3]; exact g3.dK r2, by rw [← hH4]; exact upd_same, (d.drop z).move (fun _ _ => g4.t) g4.frz⟩, pl.ne⟩
    -- the rows taken
    have hrows : ∃ (t : Addr) (us : List V), (valV kr (Sum.inl z)).getD (.ref u) = .ref t ∧ SqT K H4 t us ∧ PrV K H4 us (b.rows.map rwV) := by
      have vr := d.vr z
      rw [e] at vr
      cases b with
      | leaf n =>
        have vr : valV kr (Sum.inl z) = none := vr
        exact ⟨u, [], by rw [vr]; rfl, .of (by rw [← hH4, upd_ne (ne_of e4 (g3.dK s2) (by intro z; cases z))]; exact e4), .nil⟩
      | branch rs =>
        obtain ⟨t, us, vr, ht, hp⟩ := vr
        exact ⟨t, us, by rw [vr]; rfl, g4.t (GTm.sqT ht), (hp.gx g4).pv⟩
    obtain ⟨t, us, et, ht, hp⟩ := hrows
    rw [et]
    have hbl : (b.rows.map rwV).length ≤ 5000 := by rw [List.length_map]; exact d.ok.len _ _ e
    repeat walk_at "sx"
    refine st_exT ht ?_
    refine lc_2 (K := K) walk_tup hp (fun H' g => g.t ht) (fun r => r.2) ?_ ?_ (by omega) (fun _ _ => rfl)
    · intro r H' _ g Qy q
      repeat walk_at "sx"
      exact q
    · intro D H5 hD g5 e5
      refine k D H5 (g4.free hD) (g4.then g5) (pl4.gr g5) ?_
      rw [e5, List.map_map, List.map_map] <;> rfl
theorem scplLeaf : FnScope ["self", "number", "box"] ["self", "number"] (defScope splLeaf) := ⟨rfl, rfl, rfl, by decide +kernel, rfl, by decide +kernel, by decide +kernel⟩
theorem ok_plLeaf {f : Addr} {fd : FuncData} (F : Fun K "leaf" "Pile.leaf" splLeaf f fd) (T : Txt K mg C_Pile C_Store E_NoBox E_SnapError E_BadPath E_BadNumber E_LeafThere E_BranchThere E_Nothing E_NoShot Pt_is_name Pt_branch) (C : Cs_plLeaf P w K mg base C_Pile C_Store E_NoBox E_SnapError E_BadPath E_BadNumber E_LeafThere E_BranchThere E_Nothing E_NoShot Pt_is_name Pt_branch) : FnOk P w K mg base (L2N.CX P w) 2 f fd ["self", "number"] (spLeaf K C_Pile) := by
  refine F.okN scplLeaf (fun vs H Q E h => ?_) (fun cdv A outer s H vs Q E hr h => ?_)
  · obtain ⟨A, S, n, rfl, _⟩ := h
    rfl
  · obtain ⟨A, S, n, rfl, pl, hm, k⟩ := h
    have hu := hu_of hr
    obtain ⟨kc, kn, kr, e1, e2, e3, d⟩ := pl.dcts
    obtain ⟨n1, n2, n3⟩ := pl.ne
    have ncp : A.c ≠ A.p := ne_of e1 pl.ins (by intro z; cases z)
    have nnp : A.n ≠ A.p := ne_of e2 pl.ins (by intro z; cases z)
    have nrp : A.r ≠ A.p := ne_of e3 pl.ins (by intro z; cases z)
    have h1 := d.lc
    have h2 := d.ln
    refine ⟨_, (pss_cons (ps_set (i := 2) scplLeaf.nd rfl (Or.inl rfl) (pe_mm0 (pv 0) T.cl_Pile C.plNext (hr.mono (by decide)) ))
  (pss_cons (ps_dput hu (pe_fldK (K := K) rfl (pv 0) rfl) (pv 2) (pv 1) rfl)
  (pss_one (ps_ret (pv 2))))), ?_⟩
    repeat walk_at "sx"
    refine pl.fm (by decide +kernel) (by decide +kernel) (by decide +kernel) (by decide +kernel) ?_
    repeat walk_at "sx"
    refine ⟨A, S.made, kc, rfl, pl.ins, e1, by omega, ?_⟩
    repeat walk_at "sx"
    walk_at "dx"
    repeat walk_at "sx"
    refine lf_fld (by rw [upd_ne ncp.symm]; exact upd_same) T.cl_Pile T.n_Pile__numbers (pfs_lk A _).2.2.1 ?_
    repeat walk_at "sx"
    refine lf_dput (k := .inl ((S.made : Int) + 1)) (by rw [upd_ne n1.symm, upd_ne nnp]; exact e2) (by omega) ?_
    repeat walk_at "sx"
    refine k _ (((((Gx.refl H).put (.inl rfl) pl.ins (by intro z; exact z) (by intro _ z; cases z)).put (.inr (.inl rfl)) (by rw [upd_ne ncp]; exact e1) (by intro z; exact z) (by intro _ z; cases z)).put (.inr (.inr (.inl rfl))) (by rw [upd_ne n1.symm, upd_ne nnp]; exact e2) (by intro z; exact z) (by intro _ z; cases z))) ⟨?_, ⟨_, _, kr, ?_, upd_same, ?_, (d.mkLeaf n hm).move ?_ ?_⟩, pl.ne⟩
    · rw [upd_ne nnp.symm, upd_ne ncp.symm, upd_same] <;> rfl
    · rw [upd_ne n1, upd_same]
    · rw [upd_ne n3.symm, upd_ne n2.symm, upd_ne nrp]
      exact e3
    · intro p xs hp
      refine sqT_mutD (by rw [upd_ne n1.symm, upd_ne nnp]; exact e2) (sqT_mutD (by rw [upd_ne ncp]; exact e1) ?_)
      rcases hp with (hp | ⟨o, hp⟩) | hp
      · exact .inl (.inl (by rw [upd_ne (ne_of hp pl.ins (by intro z; cases z))]; exact hp))
      · exact .inl (.inr ⟨o, by rw [upd_ne (ne_of hp pl.ins (by intro z; cases z))]; exact hp⟩)
      · exact .inr hp
    · exact ((frz_mut pl.ins (fun _ _ z => by cases z)).trans (frz_mut (by rw [upd_ne ncp]; exact e1) (fun _ _ z => by cases z))).trans (frz_mut (by rw [upd_ne n1.symm, upd_ne nnp]; exact e2) (fun _ _ z => by cases z))
theorem scwithout : FnScope ["rows", "name", "told", "at"] ["rows", "name"] (defScope swithout) := ⟨rfl, rfl, rfl, by decide +kernel, rfl, by decide +kernel, by decide +kernel⟩
theorem ok_without {f : Addr} {fd : FuncData} (F : Fun K "without" "without" swithout f fd) (T : Txt K mg C_Pile C_Store E_NoBox E_SnapError E_BadPath E_BadNumber E_LeafThere E_BranchThere E_Nothing E_NoShot Pt_is_name Pt_branch) (C : Cs_without P w K mg base C_Pile C_Store E_NoBox E_SnapError E_BadPath E_BadNumber E_LeafThere E_BranchThere E_Nothing E_NoShot Pt_is_name Pt_branch) : FnOk P w K mg base (L2N.CX P w) 2 f fd ["rows", "name"] (spWithout K) := by
  refine F.okN scwithout (fun vs H Q E h => ?_) (fun cdv A outer s H vs Q E hr h => ?_)
  · obtain ⟨a, xs, rs, n, rfl, _⟩ := h
    rfl
  · obtain ⟨a, xs, rs, n, rfl, hS, hP, hs, hl, k⟩ := h
    refine ⟨_, (pss_cons (ps_set (i := 2) scwithout.nd rfl (Or.inl rfl) (pe_callTy (cListOf (K := K) rfl) (by rfl) T.list PyProof.Rows.boot_list (pa_cons (pv 0) pa_nil)))
  (pss_cons (ps_set (i := 3) scwithout.nd rfl (Or.inl rfl) (pe_d0 C.place (hr.mono (by decide)) rfl (pa_cons (pv 0) (pa_cons (pv 1) pa_nil))))
  (pss_cons (ps_if (pt_val (pe_d0 C.isAt (hr.mono (by decide)) rfl (pa_cons (pv 0) (pa_cons (pv 1) (pa_cons (pv 3) pa_nil)))))
  (pss_one (ps_delL (pv 2) (pv 3)))
  pss_nil)
  (pss_one (ps_ret (pv 2)))))), ?_⟩
    repeat walk_at "sx"
    refine st_listQ hS ?_
    walk_at "new"
    rename_i l hln H1 g1 e1
    repeat walk_at "sx"
    refine ⟨a, xs, rs, n, rfl, g1.q hS, hP.gr g1, hs, by omega, ?_⟩
    repeat walk_at "sx"
    refine ⟨a, xs, rs, n, _, rfl, g1.q hS, hP.gr g1, by omega, ?_⟩
    repeat walk_at "sx"
    have hxl := hP.len
    have hpl := place_le rs n
    refine ite3 (fun h => ?_) (fun h => ?_)
    · obtain ⟨b0, q1, q2, q3, _⟩ := isAt_yes hs h
      have hlt : place rs n < rs.length := (List.getElem?_eq_some_iff.mp q1).1
      walk_at "dx"
      repeat walk_at "sx"
      refine lf_delL e1 (by omega) (by omega) ?_
      repeat walk_at "sx"
      refine k l _ _ hln (g1.mut hln) upd_same (Prs.mut e1 ?_)
      rw [List.eraseIdx_eq_take_drop_succ]
      unfold delR
      rw [← q3, ← take_place n hs]
      exact ((hP.take _).gr g1).app ((hP.drop _).gr g1)
    · obtain ⟨_, q3, m⟩ := isAt_no hs h
      repeat walk_at "sx"
      refine k l xs _ hln g1 e1 ?_
      rw [delR_of_no hs m]
      exact hP.gr g1
end
section
variable {P : Program} {w : World} {K : PySem.W.Frag} {mg : Str → Option Value} {base : Heap} {C_Pile C_Store E_NoBox E_SnapError E_BadPath E_BadNumber E_LeafThere E_BranchThere E_Nothing E_NoShot Pt_is_name Pt_branch : Addr}
theorem scplHold : FnScope ["self", "box"] ["self", "box"] (defScope splHold) := ⟨rfl, rfl, rfl, by decide +kernel, rfl, by decide +kernel, by decide +kernel⟩
theorem ok_plHold {f : Addr} {fd : FuncData} (F : Fun K "hold" "Pile.hold" splHold f fd) (T : Txt K mg C_Pile C_Store E_NoBox E_SnapError E_BadPath E_BadNumber E_LeafThere E_BranchThere E_Nothing E_NoShot Pt_is_name Pt_branch) (C : Cs_plHold P w K mg base C_Pile C_Store E_NoBox E_SnapError E_BadPath E_BadNumber E_LeafThere E_BranchThere E_Nothing E_NoShot Pt_is_name Pt_branch) : FnOk P w K mg base (L2N.CX P w) 3 f fd ["self", "box"] (spHold K C_Pile E_NoBox) := by
  refine F.okN scplHold (fun vs H Q E h => ?_) (fun cdv A outer s H vs Q E hr h => ?_)
  · obtain ⟨A, S, x, rfl, _⟩ := h
    rfl
  · obtain ⟨A, S, x, rfl, pl, h⟩ := h
    have hu := hu_of hr
    obtain ⟨kc, kn, kr, e1, e2, e3, d⟩ := pl.dcts
    refine ⟨_, (pss_cons (ps_expr (pe_mmE (pv 0) T.cl_Pile C.plRefuse (hr.mono (by decide)) (L2N.takes_of rfl rfl rfl rfl) (pa_cons (pv 1) pa_nil)))
  (pss_one (ps_daug hu (pe_fldK (K := K) rfl (pv 0) rfl) (pv 1) pe_int in_add (fun _ _ _ => rfl)))), ?_⟩
    repeat walk_at "sx"
    refine pl.fm (by decide +kernel) (by decide +kernel) (by decide +kernel) (by decide +kernel) ?_
    repeat walk_at "sx"
    refine ⟨A, S, x, rfl, pl, ?_⟩
    rcases h with ⟨z, rfl, k1, k2⟩ | ⟨od, k⟩
    · refine .inl ⟨z, rfl, fun b c e => ?_, k2⟩
      have k1 := k1 b c e
      repeat walk_at "sx"
      walk_at "dx"
      repeat walk_at "sx"
      refine lf_fld pl.ins T.cl_Pile T.n_Pile__counts (pfs_lk A _).2.1 ?_
      repeat walk_at "sx"
      refine ⟨A.c, _, rfl, (show DGet H A.c (kV (.inl z)) (some (.int c)) by have q := DGet.k (k := .inl z) e1; rw [d.vc, e] at q; exact q), ?_⟩
      repeat walk_at "sx"
      refine ⟨_, _, rfl, rfl, _, DPut.k (k := .inl z) e1 (sz_lt (by have := d.lc; have := d.ok.big; omega)), ?_⟩
      exact k1 _ ((Gx.refl H).put (.inr (.inl rfl)) e1 (by intro z; exact z) (by intro _ z; cases z)) (pl.cnt e1 e2 e3 rfl (d.hold e))
    · exact .inr ⟨od, k⟩
theorem scboxOf : FnScope ["rows", "name", "at"] ["rows", "name"] (defScope sboxOf) := ⟨rfl, rfl, rfl, by decide +kernel, rfl, by decide +kernel, by decide +kernel⟩
theorem ok_boxOf {f : Addr} {fd : FuncData} (F : Fun K "box_of" "box_of" sboxOf f fd) (T : Txt K mg C_Pile C_Store E_NoBox E_SnapError E_BadPath E_BadNumber E_LeafThere E_BranchThere E_Nothing E_NoShot Pt_is_name Pt_branch) (C : Cs_boxOf P w K mg base C_Pile C_Store E_NoBox E_SnapError E_BadPath E_BadNumber E_LeafThere E_BranchThere E_Nothing E_NoShot Pt_is_name Pt_branch) : FnOk P w K mg base (L2N.CX P w) 2 f fd ["rows", "name"] (spBoxOf K) := by
  refine F.okN scboxOf (fun vs H Q E h => ?_) (fun cdv A outer s H vs Q E hr h => ?_)
  · obtain ⟨a, xs, rs, n, rfl, _⟩ := h
    rfl
  · obtain ⟨a, xs, rs, n, rfl, hS, hP, hs, hl, k⟩ := h
    refine ⟨_, (pss_cons (ps_set (i := 2) scboxOf.nd rfl (Or.inl rfl) (pe_d0 C.place (hr.mono (by decide)) rfl (pa_cons (pv 0) (pa_cons (pv 1) pa_nil))))
  (pss_cons (ps_if (pt_val (pe_d0 C.isAt (hr.mono (by decide)) rfl (pa_cons (pv 0) (pa_cons (pv 1) (pa_cons (pv 2) pa_nil)))))
  (pss_one (ps_ret (pe_ix (ixT (K := K) rfl) (pe_ix (ixQ (K := K) rfl) (pv 0) (pv 2) (fun _ _ => rfl)) pe_int (fun _ _ => rfl))))
  pss_nil)
  (pss_one (ps_ret pe_non)))), ?_⟩
    repeat walk_at "sx"
    refine ⟨a, xs, rs, n, rfl, hS, hP, hs, hl, ?_⟩
    repeat walk_at "sx"
    refine ⟨a, xs, rs, n, _, rfl, hS, hP, hl, ?_⟩
    repeat walk_at "sx"
    refine ite3 (fun h => ?_) (fun h => ?_)
    · obtain ⟨b, e1, e2, _⟩ := isAt_yes hs h
      obtain ⟨p, hp1, hp2⟩ := hP.at e1
      repeat walk_at "sx"
      refine st_ixQ hS (atI_nat hp1) ?_
      repeat walk_at "sx"
      refine st_ixT hp2 (atI_nat (j := 1) rfl) ?_
      rw [e2] at k
      exact k
    · obtain ⟨e1, _⟩ := isAt_no hs h
      repeat walk_at "sx"
      rw [e1] at k
      exact k
theorem scplKindOf : FnScope ["self", "box"] ["self", "box"] (defScope splKindOf) := ⟨rfl, rfl, rfl, by decide +kernel, rfl, by decide +kernel, by decide +kernel⟩
theorem ok_plKindOf {f : Addr} {fd : FuncData} (F : Fun K "kind_of" "Pile.kind_of" splKindOf f fd) (T : Txt K mg C_Pile C_Store E_NoBox E_SnapError E_BadPath E_BadNumber E_LeafThere E_BranchThere E_Nothing E_NoShot Pt_is_name Pt_branch) : FnOk P w K mg base (L2N.CX P w) 1 f fd ["self", "box"] (spKindOf K C_Pile) := by
  refine F.okN scplKindOf (fun vs H Q E h => ?_) (fun cdv A' outer s H vs Q E hr h => ?_)
  · obtain ⟨A, S, o, rfl, _⟩ := h
    rfl
  · obtain ⟨A, S, o, rfl, pl, k⟩ := h
    have hu := hu_of hr
    obtain ⟨kc, kn, kr, e1, e2, e3, d⟩ := pl.dcts
    refine ⟨_, (pss_cons (ps_if (pt_cmp (pc_dinN hu (pv 1) (pe_fldK (K := K) rfl (pv 0) rfl)))
  (pss_one (ps_ret pe_str))
  pss_nil)
  (pss_cons (ps_if (pt_cmp (pc_dinN hu (pv 1) (pe_fldK (K := K) rfl (pv 0) rfl)))
  (pss_one (ps_ret pe_str))
  pss_nil)
  (pss_one (ps_ret pe_non)))), ?_⟩
    repeat walk_at "sx"
    refine st_dinN ?_
    repeat walk_at "sx"
    refine lf_fld pl.ins T.cl_Pile T.n_Pile__rows (pfs_lk A _).2.2.2 ?_
    cases o with
    | none =>
      refine .inr ⟨A.r, kr, rfl, rfl, .inl e3, ?_⟩
      repeat walk_at "sx"
      refine st_dinN ?_
      repeat walk_at "sx"
      refine lf_fld pl.ins T.cl_Pile T.n_Pile__numbers (pfs_lk A _).2.2.1 ?_
      refine .inr ⟨A.n, kn, rfl, rfl, .inl e2, ?_⟩
      repeat walk_at "sx"
      exact k
    | some z =>
      have kd : match bxO S (some z) with
        | none => valV kn (Sum.inl z) = none ∧ valV kr (Sum.inl z) = none
        | some (.leaf n) => valV kn (Sum.inl z) = some (V.int n) ∧ valV kr (Sum.inl z) = none
        | some (.branch rs) => valV kn (Sum.inl z) = none ∧ ∃ t us, valV kr (Sum.inl z) = some (.ref t) ∧ TG.GT H t us ∧ Prs K H us rs := d.kinds (some z)
      refine .inl ⟨A.r, _, rfl, DGet.k (k := .inl z) e3, ?_⟩
      cases e : bxO S (some z) with
      | none =>
        rw [e] at k kd
        dsimp only at kd
        rw [kd.2]
        repeat walk_at "sx"
        refine iteF ?_
        repeat walk_at "sx"
        refine st_dinN ?_
        repeat walk_at "sx"
        refine lf_fld pl.ins T.cl_Pile T.n_Pile__numbers (pfs_lk A _).2.2.1 ?_
        refine .inl ⟨A.n, _, rfl, DGet.k (k := .inl z) e2, ?_⟩
        rw [kd.1]
        repeat walk_at "sx"
        refine iteF ?_
        repeat walk_at "sx"
        exact k
      | some b =>
        rw [e] at k kd
        cases b with
        | leaf n =>
          dsimp only at kd
          rw [kd.2]
          repeat walk_at "sx"
          refine iteF ?_
          repeat walk_at "sx"
          refine st_dinN ?_
          repeat walk_at "sx"
          refine lf_fld pl.ins T.cl_Pile T.n_Pile__numbers (pfs_lk A _).2.2.1 ?_
          refine .inl ⟨A.n, _, rfl, DGet.k (k := .inl z) e2, ?_⟩
          rw [kd.1]
          repeat walk_at "sx"
          refine iteT ?_
          repeat walk_at "sx"
          exact k
        | branch rs =>
          dsimp only at kd
          obtain ⟨_, t, us, kd, _⟩ := kd
          rw [kd]
          repeat walk_at "sx"
          refine iteT ?_
          repeat walk_at "sx"
          exact k
theorem scplLetGo : FnScope ["self", "box", "gone", "waiting", "held"] ["self", "box"] (defScope splLetGo) := ⟨rfl, rfl, rfl, by decide +kernel, rfl, by decide +kernel, by decide +kernel⟩
theorem ok_plLetGo {f : Addr} {fd : FuncData} (F : Fun K "let_go" "Pile.let_go" splLetGo f fd) (T : Txt K mg C_Pile C_Store E_NoBox E_SnapError E_BadPath E_BadNumber E_LeafThere E_BranchThere E_Nothing E_NoShot Pt_is_name Pt_branch) (C : Cs_plLetGo P w K mg base C_Pile C_Store E_NoBox E_SnapError E_BadPath E_BadNumber E_LeafThere E_BranchThere E_Nothing E_NoShot Pt_is_name Pt_branch) : FnOk P w K mg base (L2N.CX P w) 3 f fd ["self", "box"] (spLetGo K C_Pile E_NoBox) := by
  refine F.okN scplLetGo (fun vs H Q E h => ?_) (fun cdv A outer s H vs Q E hr h => ?_)
  · obtain ⟨A, S, x, rfl, _⟩ := h
    rfl
  · obtain ⟨A, S, x, rfl, pl, h⟩ := h
    have hu := hu_of hr
    refine ⟨_, (pss_cons (ps_expr (pe_mmE (pv 0) T.cl_Pile C.plRefuse (hr.mono (by decide)) (L2N.takes_of rfl rfl rfl rfl) (pa_cons (pv 1) pa_nil)))
  (pss_cons (ps_set (i := 2) scplLetGo.nd rfl (Or.inl rfl) pe_int)
  (pss_cons (ps_set (i := 3) scplLetGo.nd rfl (Or.inl rfl) (pe_lst (pa_cons (pv 1) pa_nil)))
  (pss_cons (ps_while (passes_of rfl) (pt_truth (pv 3) (by intro _; rfl))
  (pss_cons (ps_set (i := 4) scplLetGo.nd rfl (Or.inl rfl) (pe_bm0 PySem.F.plainAttrs_list PySem.F.slot_list_pop PySem.F.type_list_pop mt_pop (pv 3)))
  (pss_one (ps_if (PW.pt (pw_and (pt_cmp (pc_din hu (pv 4) (pe_fldK (K := K) rfl (pv 0) rfl))) (pw_and1 (pt_cmpR op_eq (pe_mm (pv 0) T.cl_Pile C.plLowered (hr.mono (by decide)) (pa_cons (pv 4) pa_nil)) pe_int (nomark _)))))
  (pss_cons (ps_aug (i := 2) scplLetGo.nd rfl (Or.inl rfl) pe_int ip_add)
  (pss_one (ps_expr (pe_bm PySem.F.plainAttrs_list PySem.F.slot_list_extend PySem.F.type_list_extend mt_extend (pv 3) (pa_cons (pe_mm (pv 0) T.cl_Pile C.plTaken (hr.mono (by decide)) (pa_cons (pv 4) pa_nil)) pa_nil)))))
  pss_nil))))
  (pss_one (ps_ret (pv 2))))))), ?_⟩
    repeat walk_at "sx"
    refine pl.fm (by decide +kernel) (by decide +kernel) (by decide +kernel) (by decide +kernel) ?_
    repeat walk_at "sx"
    refine ⟨A, S, x, rfl, pl, ?_⟩
    rcases h with ⟨z, rfl, k1, k2⟩ | ⟨od, k⟩
    · refine .inl ⟨z, rfl, fun b c e => ?_, k2⟩
      have k1 : Did K C_Pile H A (S.letGo z).1 (Q (.int (S.letGo z).2)) := k1 b c e
      obtain ⟨_, _, _, _, _, _, d0⟩ := pl.dcts
      repeat walk_at "sx"
      refine ⟨by show 1 ≤ sizeLine; decide, ?_⟩
      walk_at "new"; rename_i l hln H1 g1 e1
      repeat walk_at "sx"
      refine st_whileN (fun m σ H' => ∃ (S' : PS) (w : List Int) (g : Nat) (v : Option V), σ = [some (.ref A.p), some (.int z), some (.int (g : Int)), some (.ref l), v] ∧ Gx A.foot H H' ∧ PileAt K C_Pile H' A S' ∧ H' l = some (.lst (w.reverse.map V.int)) ∧ m = S'.left w ∧ m ≤ 15000001 ∧ PS.run m S' w g = S.letGo z) (S.left [z])
        ⟨S, [z], 0, none, rfl, Gx.of g1, pl.gr g1, e1, rfl, by have := PS.size_le d0.ok; unfold PS.left; rw [List.length_singleton]; omega, (PS.letGo_eq S z).symm⟩ ?_ ?_
      · rintro m σ H' ⟨S', w, g, v, rfl, gx, pl', el, hm, hb, hrun⟩
        repeat walk_at "sx"
        refine st_truL (.of el) ?_
        cases w with
        | nil =>
          refine iteF ?_
          repeat walk_at "sx"
          rw [PS.run_nil] at hrun
          rw [← hrun] at k1
          exact k1 H' gx pl'
        | cons y w =>
          have ene : (!((y :: w).reverse.map V.int).isEmpty) = true := by simp
          rw [ene]
          obtain ⟨kc, kn, kr, c1, c2, c3, d⟩ := pl'.dcts
          have hstep := PS.run_cons d.ok y w g
          obtain ⟨hl, _, _⟩ := PS.step_left d.ok y w
          rw [← hm] at hstep
          rw [hstep] at hrun
          have hlt : (S'.step y).1.left ((S'.step y).2.1.reverse ++ w) < m := by omega
          have el2 : H' l = some (.lst (w.reverse.map V.int ++ [.int y])) := by rw [el, List.reverse_cons, List.map_append] <;> rfl
          repeat walk_at "sx"
          walk_at "dx"
          repeat walk_at "sx"
          refine st_tyL (.of el) ?_
          refine st_pop el2 ?_
          have ncl : A.c ≠ l := ne_of c1 el (by intro z; cases z)
          have npl : A.p ≠ l := ne_of pl'.ins el (by intro z; cases z)
          generalize hH2 : upd H' l _ = H2
          have gx2 : Gx A.foot H H2 := by rw [← hH2]; exact gx.mut hln
          have pl2 : PileAt K C_Pile H2 A S' := by
            rw [← hH2]
            exact ⟨by rw [upd_ne npl]; exact pl'.ins, ⟨kc, kn, kr, by rw [upd_ne ncl]; exact c1, by rw [upd_ne (ne_of c2 el (by intro z; cases z))]; exact c2, by rw [upd_ne (ne_of c3 el (by intro z; cases z))]; exact c3, d.move (fun _ _ => sqT_mut el) (frz_mut el (fun _ _ z => by cases z))⟩, pl'.ne⟩
          have el3 : H2 l = some (.lst (w.reverse.map V.int)) := by rw [← hH2]; exact upd_same
          repeat walk_at "sx"
          walk_at "dx"
          repeat walk_at "sx"
          refine lf_fld pl2.ins T.cl_Pile T.n_Pile__counts (pfs_lk A _).2.1 ?_
          refine ⟨A.c, _, rfl, DGet.k (k := .inl y) (by rw [← hH2, upd_ne ncl]; exact c1), ?_⟩
          rw [d.vc]
          unfold PS.step at hrun hlt
          cases ey : S'.box y with
          | none =>
            rw [ey] at hrun hlt
            refine ⟨_, rfl, iteF ?_⟩
            repeat walk_at "sx"
            exact ⟨_, hlt, S', w, g, _, rfl, gx2, pl2, el3, rfl, by omega, hrun⟩
          | some x =>
            obtain ⟨bx, cc⟩ := x
            rw [ey] at hrun hlt
            dsimp only at hrun hlt
            refine ⟨_, rfl, iteT ?_⟩
            repeat walk_at "sx"
            refine pl2.fm (by decide +kernel) (by decide +kernel) (by decide +kernel) (by decide +kernel) ?_
            repeat walk_at "sx"
            refine ⟨A, S', y, bx, cc, rfl, pl2, ey, fun H3 g3 pl3 => ?_⟩
            have el4 : H3 l = some (.lst (w.reverse.map V.int)) := g3.lst el3
            repeat walk_at "sx"
            by_cases q : cc - 1 = 0
            · rw [if_pos q] at hrun hlt
              rw [decide_eq_true (by rw [q]; rfl)]
              repeat walk_at "sx"
              refine st_aug rfl ?_
              repeat walk_at "sx"
              refine st_ipI ?_
              repeat walk_at "sx"
              refine st_tyL (.of el4) ?_
              repeat walk_at "sx"
              refine pl3.fm (by decide +kernel) (by decide +kernel) (by decide +kernel) (by decide +kernel) ?_
              repeat walk_at "sx"
              refine ⟨A, S'.lower y, y, bx, cc - 1, rfl, pl3, PS.lower_at ey, fun l2 H4 hl2 g4 pl4 e4 => ?_⟩
              rw [PS.drop_lower] at pl4
              have el5 := g4.lst el4
              have hbl := d.ok.len _ _ ey
              have hwl : w.length ≤ 15000001 := by
                have : (y :: w).length ≤ m := by rw [hm]; unfold PS.left; omega
                rw [List.length_cons] at this
                omega
              repeat walk_at "sx"
              refine st_extend (K := K) el5 e4 (by rw [List.length_map, List.length_map, List.length_map, List.length_reverse]; show _ ≤ 16777216; dsimp only at hbl; omega) ?_
              generalize hH5 : upd H4 l _ = H5
              obtain ⟨kc4, kn4, kr4, c41, c42, c43, d4⟩ := pl4.dcts
              repeat walk_at "sx"
              refine ⟨_, hlt, S'.drop y, (bx.rows.map (·.2)).reverse ++ w, g + 1, _, rfl, by rw [← hH5]; exact ((gx2.trans g3).trans g4).mut hln, ?_, ?_, rfl, by omega, hrun⟩
              · rw [← hH5]
                exact ⟨by rw [upd_ne npl]; exact pl4.ins, ⟨kc4, kn4, kr4, by rw [upd_ne ncl]; exact c41, by rw [upd_ne (ne_of c42 el5 (by intro z; cases z))]; exact c42, by rw [upd_ne (ne_of c43 el5 (by intro z; cases z))]; exact c43, d4.move (fun _ _ => sqT_mut el5) (frz_mut el5 (fun _ _ z => by cases z))⟩, pl4.ne⟩
              · rw [← hH5, upd_same, List.reverse_append, List.reverse_reverse, List.map_append]
            · rw [if_neg q] at hrun hlt
              rw [decide_eq_false (by intro z; exact q (by have := V.int.inj z; omega))]
              repeat walk_at "sx"
              exact ⟨_, hlt, S'.lower y, w, g, _, rfl, gx2.trans g3, pl3, el4, rfl, by omega, hrun⟩
      · rintro σ H' Q1 Q2 hq ⟨v, e, k, t, q⟩
        exact ⟨v, e, k, t, hq _ _ q⟩
    · exact .inr ⟨od, k⟩
theorem scstLeadTo : FnScope ["self", "branches", "names", "box", "branch", "name"] ["self", "branches", "names", "box"] (defScope sstLeadTo) := ⟨rfl, rfl, rfl, by decide +kernel, rfl, by decide +kernel, by decide +kernel⟩
theorem ok_stLeadTo {f : Addr} {fd : FuncData} (F : Fun K "_lead_to" "Store._lead_to" sstLeadTo f fd) (T : Txt K mg C_Pile C_Store E_NoBox E_SnapError E_BadPath E_BadNumber E_LeafThere E_BranchThere E_Nothing E_NoShot Pt_is_name Pt_branch) (C : Cs_stLeadTo P w K mg base C_Pile C_Store E_NoBox E_SnapError E_BadPath E_BadNumber E_LeafThere E_BranchThere E_Nothing E_NoShot Pt_is_name Pt_branch) : FnOk P w K mg base (L2N.CX P w) 5 f fd ["self", "branches", "names", "box"] (spLeadTo K C_Store C_Pile Pt_branch) := by
  refine F.okN scstLeadTo (fun vs H Q E h => ?_) (fun cdv A' outer s H vs Q E hr h => ?_)
  · obtain ⟨B, X, R, l1, l2, ps, z, rfl, _⟩ := h
    rfl
  · obtain ⟨B, X, R, l1, l2, ps, z, rfl, st, h1, h2, hl, tm, hp, hm, htop, tab, k⟩ := h
    refine ⟨_, (pss_cons (ps_for (passes_of rfl) rfl (RT.pi_revA (by rfl) T.reversed (ZL.pe_listZip rfl (by rfl) T.list PyProof.Rows.boot_list (by rfl) T.zip (pa_cons (pv 1) (pa_cons (pv 2) pa_nil)))) (pg_tup (by rfl) (pgs_cons (pg_name (i := 4) scstLeadTo.nd rfl (Or.inl rfl)) (pgs_cons (pg_name (i := 5) scstLeadTo.nd rfl (Or.inl rfl)) pgs_nil)))
  (pss_one (ps_set (i := 3) scstLeadTo.nd rfl (Or.inl rfl) (pe_mm (pe_fldK (K := K) rfl (pv 0) rfl) T.cl_Pile C.plBranch (hr.mono (by decide)) (pa_cons (pe_d0 C.placed (hr.mono (by decide)) rfl (pa_cons (pe_mm (pe_fldK (K := K) rfl (pv 0) rfl) T.cl_Pile C.plRowsOf (hr.mono (by decide)) (pa_cons (pv 4) pa_nil)) (pa_cons (pv 5) (pa_cons (pv 3) pa_nil)))) pa_nil)))))
  (pss_one (ps_ret (pe_mm (pv 0) T.cl_Store C.stTurnTo (hr.mono (by decide)) (pa_cons (pv 3) pa_nil))))), ?_⟩
    repeat walk_at "sx"
    refine st_iRevA ?_
    refine ZL.st_listZip ?_
    repeat walk_at "sx"
    refine ⟨l1, l2, _, _, rfl, h1, h2, by rw [List.length_map, List.length_map], fun p us H1 hp1 g1 e1 pr => ?_⟩
    rw [zip_pairs] at pr
    have hul := pr.len
    rw [List.length_map] at hul
    refine ⟨p, us, rfl, .inl ⟨.of e1, ?_⟩⟩
    refine st_loop2 (K := K) (ws := us.reverse) (rs := (ps.map fun p => (oV p.1, V.str p.2)).reverse) walk_revR (by rw [List.length_reverse, List.length_reverse, List.length_map, hul])
      (fun i σ H' => Gx B.foot H1 H' ∧ StAt K C_Store C_Pile H' B ⟨(leadF (ps.drop (ps.length - i)) X.S z).1, X.top, X.shots, X.taken⟩ ∧ ∃ u v, σ = [some (.ref B.p), some (.ref l1), some (.ref l2), some (.int (leadF (ps.drop (ps.length - i)) X.S z).2), u, v])
      ⟨Gx.refl _, by rw [Nat.sub_zero, List.drop_length]; exact st.gr g1, none, none, by rw [Nat.sub_zero, List.drop_length] <;> rfl⟩ (fun i σ H' _ q => ⟨q.1.l (.of e1), (pr.gx q.1).rev⟩) ?_ ?_
    · rintro i r σ H2 er ⟨gx2, st2, u, v, rfl⟩
      have hi : i < ps.length := by
        have := (List.getElem?_eq_some_iff.mp er).1
        rw [List.length_reverse, List.length_map] at this
        exact this
      rw [List.getElem?_reverse (by rw [List.length_map]; exact hi), List.length_map, List.getElem?_map] at er
      obtain ⟨q, eq, rfl⟩ := Option.map_eq_some_iff.mp er
      have ed : ps.drop (ps.length - (i + 1)) = q :: ps.drop (ps.length - i) := by
        obtain ⟨hj, ej⟩ := List.getElem?_eq_some_iff.mp eq
        have e0 : ps.length - (i + 1) = ps.length - 1 - i := by omega
        rw [e0, List.drop_eq_getElem_cons hj, ej, show ps.length - 1 - i + 1 = ps.length - i by omega]
      have hdl : (ps.drop (ps.length - i)).length = i := by rw [List.length_drop]; omega
      have tm2 : TMid (leadF (ps.drop (ps.length - i)) X.S z).1 R (leadF (ps.drop (ps.length - i)) X.S z).2 := tm.lead _ (fun p hp' => hp p (List.mem_of_mem_drop hp')) (by omega)
      have hmade := leadF_made X.S z (ps.drop (ps.length - i))
      rw [hdl] at hmade
      generalize hL : leadF (ps.drop (ps.length - i)) X.S z = L at st2 tm2 hmade
      obtain ⟨S2, z2⟩ := L
      dsimp only at st2 tm2 hmade
      obtain ⟨ok1, ok2⟩ := hp q (List.mem_of_getElem? eq)
      obtain ⟨s1, s2, s3⟩ := rowsO_srt tm2.toTInv q.1
      have kl := tm2.rowsLen q.1
      have kl2 := putR_len (rowsO S2 q.1) q.2 z2
      repeat walk_at "sx"
      refine lf_fld st2.ins T.cl_Store T.n_Store_pile (sfs_lk B _ _).1 ?_
      refine st2.pl.fm (by decide +kernel) (by decide +kernel) (by decide +kernel) (by decide +kernel) ?_
      repeat walk_at "sx"
      refine lf_fld st2.ins T.cl_Store T.n_Store_pile (sfs_lk B _ _).1 ?_
      refine st2.pl.fm (by decide +kernel) (by decide +kernel) (by decide +kernel) (by decide +kernel) ?_
      repeat walk_at "sx"
      refine ⟨B.A, S2, q.1, rfl, st2.pl, fun t us2 H3 g3 ht3 hp3 _ => ?_⟩
      repeat walk_at "sx"
      refine ⟨t, us2, rowsO S2 q.1, q.2, z2, rfl, .inr ht3, hp3, s1, by omega, fun l ys H4 hl4 g4 e4 hp4 => ?_⟩
      repeat walk_at "sx"
      refine ⟨B.A, S2, l, ys, (putR (rowsO S2 q.1) q.2 z2).map rwV, rfl, (st2.pl.gr g3).gr g4, .of e4, hp4.pv, by rw [List.length_map]; omega, by omega, g4.tab _ (g3.tab _ (gx2.tab _ (g1.tab _ tab))), .inl ⟨_, rfl, fun r hr' => ?_, fun H5 g5 pl5 => ?_⟩⟩
      · rcases mem_putR hr' with hr' | rfl
        · obtain ⟨x, ex⟩ := Option.isSome_iff_exists.mp (s3 r hr')
          exact ⟨r.2, x, rfl, ex⟩
        · obtain ⟨x, ex⟩ := Option.isSome_iff_exists.mp tm2.is
          exact ⟨z2, x, rfl, ex⟩
      · repeat walk_at "sx"
        have st5 := ((st2.gr g3).gr g4).pile g5 pl5
        refine ⟨((gx2.then g3).then g4).trans g5.sa, ?_, oV q.1, V.str q.2, ?_⟩
        · rw [ed, leadF_cons, hL]
          exact st5
        · rw [ed, leadF_cons, hL]
          rfl
    · rintro σ H2 ⟨gx2, st2, u, v, rfl⟩
      rw [List.length_reverse, List.length_map, Nat.sub_self, List.drop_zero] at st2 ⊢
      have tm2 : TMid (leadF ps X.S z).1 R (leadF ps X.S z).2 := tm.lead _ hp hm
      have ext := Ext.lead X.S z ps
      repeat walk_at "sx"
      refine st2.fm (by decide +kernel) (by decide +kernel) (by decide +kernel) (by decide +kernel) ?_
      repeat walk_at "sx"
      exact ⟨B, _, _, rfl, st2, tm2.is, ext.is htop (tm.toTInv.le htop), fun H3 g3 st3 => k H3 (((Gx.of g1).trans gx2).trans g3) st3⟩
theorem scstShots : FnScope ["self"] ["self"] (defScope sstShots) := ⟨rfl, rfl, rfl, by decide +kernel, rfl, by decide +kernel, by decide +kernel⟩
theorem ok_stShots {f : Addr} {fd : FuncData} (F : Fun K "shot_numbers" "Store.shot_numbers" sstShots f fd) (T : Txt K mg C_Pile C_Store E_NoBox E_SnapError E_BadPath E_BadNumber E_LeafThere E_BranchThere E_Nothing E_NoShot Pt_is_name Pt_branch) : FnOk P w K mg base (L2N.CX P w) 1 f fd ["self"] (spShots K C_Store C_Pile) := by
  refine F.okN scstShots (fun vs H Q E h => ?_) (fun cdv A' outer s H vs Q E hr h => ?_)
  · obtain ⟨B, X, rfl, _⟩ := h
    rfl
  · obtain ⟨B, X, rfl, st, ok, k⟩ := h
    refine ⟨_, (pss_one (ps_ret (pe_callB (cr_sortedDIA rfl) (by rfl) T.sorted boot_sorted (pa_cons (pe_fldK (K := K) rfl (pv 0) rfl) pa_nil)))), ?_⟩
    have hl : X.shots.length ≤ X.taken := nodup_le (List.nodup_of_lt ok.ks) ok.kb
    have htk := ok.tk
    repeat walk_at "sx"
    refine lf_fld st.ins T.cl_Store T.n_Store__shot_tops (sfs_lk B _ _).2.2.1 ?_
    repeat walk_at "sx"
    have hk : (kvI X.shots).map (·.1) = (X.shots.map (·.1)).map Sum.inl := by
      unfold kvI
      rw [List.map_map, List.map_map] <;> rfl
    refine ⟨B.d, kvI X.shots, X.shots.map (·.1), rfl, .inl st.sd, hk, by rw [List.length_map]; omega, fun ys p hp hs hpn => ?_⟩
    have e : ys = X.shots.map (·.1) := ints_ext (lt_of_perm hp (List.nodup_of_lt ok.ks) hs) ok.ks fun z => hp.mem_iff
    subst e
    exact k p _ hpn (Gr.new hpn) upd_same
theorem scpathBy : FnScope ["_law_cell", "_law_size", "_law_k"] ["_law_cell"] (defScope spathBy) := ⟨rfl, rfl, rfl, by decide +kernel, rfl, by decide +kernel, by decide +kernel⟩
theorem ok_pathBy {f : Addr} {fd : FuncData} (F : Fun K "_law_path_by" "_law_path_by" spathBy f fd) (T : Txt K mg C_Pile C_Store E_NoBox E_SnapError E_BadPath E_BadNumber E_LeafThere E_BranchThere E_Nothing E_NoShot Pt_is_name Pt_branch) (C : Cs_pathBy P w K mg base C_Pile C_Store E_NoBox E_SnapError E_BadPath E_BadNumber E_LeafThere E_BranchThere E_Nothing E_NoShot Pt_is_name Pt_branch) : FnOk P w K mg base (L2N.CX P w) 2 f fd ["_law_cell"] (spPathBy sizeA) := by
  refine F.okN scpathBy (fun vs H Q E h => ?_) (fun cdv A outer s H vs Q E hr h => ?_)
  · obtain ⟨x, rfl, _⟩ := h
    rfl
  · obtain ⟨n, rfl, k⟩ := h
    refine ⟨_, (pss_cons (ps_set (i := 1) scpathBy.nd rfl (Or.inl rfl) (pe_ix (ixL (K := K) rfl) (pe_lst (pa_cons pe_int (pa_cons pe_int (pa_cons pe_int (pa_cons pe_int (pa_cons pe_int (pa_cons pe_int (pa_cons (pe_op op_add pe_int (pe_op op_mod (pe_op op_fdiv (pv 0) pe_int) pe_int)) (pa_cons pe_int pa_nil))))))))) (pe_op op_mod (pv 0) pe_int) (fun _ _ => rfl)))
  (pss_one (ps_ret (pe_lc (own := [("_law_k", 2)]) (g := gName 2) (tt := tYes) rfl scpathBy.nd (pi_range1 rfl T.range (pa_cons (pv 1) pa_nil)) (blkOk_by (N := ["_law_cell", "_law_size", "_law_k"]) (sc := defScope spathBy) (by decide +kernel)) (fun _ _ _ _ _ => pg_name (i := 2) scpathBy.nd rfl (Or.inl rfl)) (fun _ _ _ _ _ => pts_nil) (fun _ _ _ _ _ => (pe_d0 C.nameBy (hr.mono (by decide)) rfl (pa_cons (pe_op op_mod (pe_op op_mul (pe_op op_add (pe_op op_fdiv (pv 0) pe_int) (pe_op op_mul (pv 2) pe_int)) pe_int) pe_int) pa_nil))))))), ?_⟩
    repeat walk_at "sx"
    refine st_I ⟨by decide, by decide⟩ ?_
    repeat walk_at "sx"
    refine st_I (by show (0 : Int) < 3; decide) ?_
    repeat walk_at "sx"
    refine ⟨by show 8 ≤ sizeLine; decide, ?_⟩
    walk_at "new"; rename_i q hq H1 g1 e1
    repeat walk_at "sx"
    refine st_I (by show (0 : Int) < 8; decide) ?_
    refine st_ixL (v := .int (sizeA n : Nat)) (.of e1) ?_ ?_
    · obtain ⟨j, ej, hj⟩ := nat_emod n 8 8 rfl (by decide)
      unfold sizeA
      rw [ej]
      refine atI_nat ?_
      have h8 : j = 0 ∨ j = 1 ∨ j = 2 ∨ j = 3 ∨ j = 4 ∨ j = 5 ∨ j = 6 ∨ j = 7 := by omega
      have h3 := Int.emod_nonneg (n / 8) (b := 3) (by decide)
      rcases h8 with rfl | rfl | rfl | rfl | rfl | rfl | rfl | rfl
      all_goals simp
      all_goals omega
    repeat walk_at "sx"
    have hsz := sizeA_le n
    refine st_exR (by omega) (by omega) ?_
    rw [Int.toNat_natCast]
    refine lc_r (fun i => .str (nameG ((n / 8 + (i : Int) * 7919) * 48271 % 1000003))) ?_ ?_ (by omega)
    · intro i H2 hi g2 Qy q
      repeat walk_at "sx"
      refine st_I ⟨by decide, by decide⟩ ?_
      repeat walk_at "sx"
      refine st_I (.inl ⟨by omega, by omega⟩) ?_
      repeat walk_at "sx"
      refine st_I (.inr ⟨by decide, by decide⟩) ?_
      repeat walk_at "sx"
      refine st_I (by show (0 : Int) < 1000003; decide) ?_
      repeat walk_at "sx"
      exact ⟨_, rfl, fun H3 g3 => q H3 g3⟩
    · intro D H2 hD g e
      refine k D H2 (g1.free hD) (g1.trans g) ?_
      rw [e]
      unfold pathG
      rw [List.map_map] <;> rfl
end
section
variable {P : Program} {w : World} {K : PySem.W.Frag} {mg : Str → Option Value} {base : Heap} {C_Pile C_Store E_NoBox E_SnapError E_BadPath E_BadNumber E_LeafThere E_BranchThere E_Nothing E_NoShot Pt_is_name Pt_branch : Addr}
theorem sccell : FnScope ["_law_script", "_law_k"] ["_law_script", "_law_k"] (defScope scell) := ⟨rfl, rfl, rfl, by decide +kernel, rfl, by decide +kernel, by decide +kernel⟩
theorem ok_cell {f : Addr} {fd : FuncData} (F : Fun K "_law_cell_at" "_law_cell_at" scell f fd) (T : Txt K mg C_Pile C_Store E_NoBox E_SnapError E_BadPath E_BadNumber E_LeafThere E_BranchThere E_Nothing E_NoShot Pt_is_name Pt_branch) : FnOk P w K mg base (L2N.CX P w) 1 f fd ["_law_script", "_law_k"] (spCell K) := by
  refine F.okN sccell (fun vs H Q E h => ?_) (fun cdv A outer s H vs Q E hr h => ?_)
  · obtain ⟨l, ns, j, rfl, _⟩ := h
    rfl
  · obtain ⟨l, ns, j, rfl, hS, k⟩ := h
    refine ⟨_, (pss_cons (ps_if (pt_cmpR op_lt (pv 1) (pe_callB (cLenQ (K := K) rfl) (by rfl) T.len PySem.boot_len (pa_cons (pv 0) pa_nil)) (nomark _))
  (pss_one (ps_ret (pe_ix (ixL (K := K) rfl) (pv 0) (pv 1) (fun _ _ => rfl))))
  pss_nil)
  (pss_one (ps_ret pe_int))), ?_⟩
    repeat walk_at "sx"
    refine st_lenL hS ?_
    repeat walk_at "sx"
    refine ite3 (fun h => ?_) (fun h => ?_)
    · repeat walk_at "sx"
      rw [List.length_map] at h
      have hj : j < ns.length := by have := of_decide_eq_true h; omega
      exact st_ixL hS (atI_cell hj) k
    · repeat walk_at "sx"
      rw [List.length_map] at h
      have hj : ¬ j < ns.length := by have := of_decide_eq_false h; omega
      rw [cell_out hj] at k
      exact k
theorem scisAt : FnScope ["rows", "name", "at"] ["rows", "name", "at"] (defScope sisAt) := ⟨rfl, rfl, rfl, by decide +kernel, rfl, by decide +kernel, by decide +kernel⟩
theorem ok_isAt {f : Addr} {fd : FuncData} (F : Fun K "_is_at" "_is_at" sisAt f fd) (T : Txt K mg C_Pile C_Store E_NoBox E_SnapError E_BadPath E_BadNumber E_LeafThere E_BranchThere E_Nothing E_NoShot Pt_is_name Pt_branch) : FnOk P w K mg base (L2N.CX P w) 1 f fd ["rows", "name", "at"] (spIsAt K) := by
  refine F.okN scisAt (fun vs H Q E h => ?_) (fun cdv A outer s H vs Q E hr h => ?_)
  · obtain ⟨a, xs, rs, n, k, rfl, _⟩ := h
    rfl
  · obtain ⟨a, xs, rs, n, j, rfl, hS, hP, hl, k⟩ := h
    refine ⟨_, (pss_one (ps_ret (pe_and (pe_cmpR op_lt (pv 2) (pe_callB (cLenQ (K := K) rfl) (by rfl) T.len PySem.boot_len (pa_cons (pv 0) pa_nil)) (nomark _)) (pe_one (pe_cmpR op_eq (pe_ix (ixT (K := K) rfl) (pe_ix (ixQ (K := K) rfl) (pv 0) (pv 2) (fun _ _ => rfl)) pe_int (fun _ _ => rfl)) (pv 1) (nomark _)))))), ?_⟩
    repeat walk_at "sx"
    refine st_lenQ hS ?_
    repeat walk_at "sx"
    have hxl := hP.len
    refine ite3 (fun h => ?_) (fun h => ?_)
    · have hj : j < rs.length := by have := of_decide_eq_true h; omega
      obtain ⟨r, hr2⟩ : ∃ r, rs[j]? = some r := ⟨rs[j]'hj, List.getElem?_eq_getElem _⟩
      obtain ⟨p, hp1, hp2⟩ := hP.at hr2
      repeat walk_at "sx"
      refine st_ixQ hS (atI_nat hp1) ?_
      repeat walk_at "sx"
      refine st_ixT hp2 (atI_nat (j := 0) rfl) ?_
      repeat walk_at "sx"
      have e : isAt rs n j = decide (V.str r.1 = V.str n) := by
        unfold isAt
        rw [hr2]
        exact decide_eq_decide.mpr ⟨fun q => by rw [q], fun q => V.str.inj q⟩
      rw [e] at k
      exact k
    · have hj : ¬ j < rs.length := by have := of_decide_eq_false h; omega
      have e : isAt rs n j = false := by
        unfold isAt
        rw [List.getElem?_eq_none (by omega)]
      rw [e] at k
      exact k
theorem scplRowsOf : FnScope ["self", "box"] ["self", "box"] (defScope splRowsOf) := ⟨rfl, rfl, rfl, by decide +kernel, rfl, by decide +kernel, by decide +kernel⟩
theorem ok_plRowsOf {f : Addr} {fd : FuncData} (F : Fun K "rows_of" "Pile.rows_of" splRowsOf f fd) (T : Txt K mg C_Pile C_Store E_NoBox E_SnapError E_BadPath E_BadNumber E_LeafThere E_BranchThere E_Nothing E_NoShot Pt_is_name Pt_branch) : FnOk P w K mg base (L2N.CX P w) 1 f fd ["self", "box"] (spRowsOf K C_Pile) := by
  refine F.okN scplRowsOf (fun vs H Q E h => ?_) (fun cdv A' outer s H vs Q E hr h => ?_)
  · obtain ⟨A, S, o, rfl, _⟩ := h
    rfl
  · obtain ⟨A, S, o, rfl, pl, k⟩ := h
    have hu := hu_of hr
    obtain ⟨kc, kn, kr, e1, e2, e3, d⟩ := pl.dcts
    refine ⟨_, (pss_one (ps_ret (pe_dgetN hu (pe_fldK (K := K) rfl (pv 0) rfl) (pv 1) TG.pe_tupZ ⟨rfl, rfl, rfl, rfl⟩))), ?_⟩
    rw [rowsO_bx] at k
    repeat walk_at "sx"
    refine st_dgetN ?_
    repeat walk_at "sx"
    refine lf_fld pl.ins T.cl_Pile T.n_Pile__rows (pfs_lk A _).2.2.2 ?_
    refine ⟨_, rfl, .inl ⟨_, .inl e3⟩, ?_⟩
    repeat walk_at "sx"
    intro t H1 ht g1 e4
    refine lf_dgetO (P := fun v => Q v H1) (x := o) (g1.dK e3) ?_
    have kd := d.kinds o
    cases e : bxO S o with
    | none =>
      rw [e] at k kd
      rw [kd.2]
      exact k t [] H1 g1 (GTm.sqT e4) .nil e4
    | some b =>
      rw [e] at k kd
      cases b with
      | leaf n => rw [kd.2]; exact k t [] H1 g1 (GTm.sqT e4) .nil e4
      | branch rs =>
        obtain ⟨_, t2, us, kd, q1, q2⟩ := kd
        rw [kd]
        exact k t2 us H1 g1 (g1.t (GTm.sqT q1)) (q2.gr g1) (g1.frz.gt q1)
theorem scboxesOn : FnScope ["pile", "top", "names", "boxes", "name"] ["pile", "top", "names"] (defScope sboxesOn) := ⟨rfl, rfl, rfl, by decide +kernel, rfl, by decide +kernel, by decide +kernel⟩
theorem ok_boxesOn {f : Addr} {fd : FuncData} (F : Fun K "boxes_on" "boxes_on" sboxesOn f fd) (T : Txt K mg C_Pile C_Store E_NoBox E_SnapError E_BadPath E_BadNumber E_LeafThere E_BranchThere E_Nothing E_NoShot Pt_is_name Pt_branch) (C : Cs_boxesOn P w K mg base C_Pile C_Store E_NoBox E_SnapError E_BadPath E_BadNumber E_LeafThere E_BranchThere E_Nothing E_NoShot Pt_is_name Pt_branch) : FnOk P w K mg base (L2N.CX P w) 3 f fd ["pile", "top", "names"] (spBoxesOn K C_Pile) := by
  refine F.okN scboxesOn (fun vs H Q E h => ?_) (fun cdv A' outer s H vs Q E hr h => ?_)
  · obtain ⟨A, S, R, z, l, ns, rfl, _⟩ := h
    rfl
  · obtain ⟨A, S, R, z, l, ns, rfl, pl, hI, hl, hn, k⟩ := h
    refine ⟨_, (pss_cons (ps_set (i := 3) scboxesOn.nd rfl (Or.inl rfl) (pe_lst (pa_cons (pv 1) pa_nil)))
  (pss_cons (ps_for (passes_of rfl) rfl (pi_list (pv 2)) (pg_name (i := 4) scboxesOn.nd rfl (Or.inl rfl))
  (pss_one (ps_expr (pe_bm PySem.F.plainAttrs_list PySem.F.slot_list_append PySem.F.type_list_append mt_append (pv 3) (pa_cons (pe_d0 C.boxOf (hr.mono (by decide)) rfl (pa_cons (pe_mm (pv 0) T.cl_Pile C.plRowsOf (hr.mono (by decide)) (pa_cons (pe_ix (ixL (K := K) rfl) (pv 3) (pe_un un_neg pe_int) (fun _ _ => rfl)) pa_nil)) (pa_cons (pv 4) pa_nil))) pa_nil)))))
  (pss_one (ps_ret (pv 3))))), ?_⟩
    repeat walk_at "sx"
    refine ⟨by show 1 ≤ sizeLine; decide, ?_⟩
    walk_at "new"; rename_i q hq H1 g1 e1
    repeat walk_at "sx"
    refine st_exL (g1.l hl) ?_
    refine st_loop (m := (ns.map V.str).length) (Y := fun i x => (ns.map V.str)[i]? = some x) walk_list (fun i σ H' => Gr H H' ∧ H' q = some (.lst ((wayF S (some z) (ns.take i)).map oV)) ∧ ∃ u, σ = [some (.ref A.p), some (.int z), some (.ref l), some (.ref q), u]) ⟨g1, e1, none, rfl⟩ (fun i σ H' _ p => p.1.l hl) ?_ ?_
    · rintro i x σ H2 hi ⟨g2, e2, u, rfl⟩ hx
      rw [List.getElem?_map] at hx
      obtain ⟨n, en, rfl⟩ := Option.map_eq_some_iff.mp hx
      have pl2 := pl.gr g2
      have et : ns.take (i + 1) = ns.take i ++ [n] := by rw [List.take_add_one, en] <;> rfl
      have hwl := wayF_len S (some z) (ns.take i)
      repeat walk_at "sx"
      refine st_tyL (.of e2) ?_
      repeat walk_at "sx"
      refine pl2.fm (by decide +kernel) (by decide +kernel) (by decide +kernel) (by decide +kernel) ?_
      repeat walk_at "sx"
      refine st_un ?_
      repeat walk_at "sx"
      refine st_rU ?_
      have ew : (wayF S (some z) (ns.take i)).map oV = ((pairsF S (some z) (ns.take i)).map (·.1)).map oV ++ [oV (walkF S (some z) (ns.take i))] := by
        rw [wayF_split, List.map_append] <;> rfl
      refine st_ixL (.of (by rw [← ew]; exact e2)) atI_m1 ?_
      repeat walk_at "sx"
      refine ⟨A, S, walkF S (some z) (ns.take i), rfl, pl2, fun t us H3 g3 ht hp _ => ?_⟩
      obtain ⟨s1, s2, s3⟩ := rowsO_srt hI (walkF S (some z) (ns.take i))
      repeat walk_at "sx"
      refine ⟨t, us, _, n, rfl, .inr ht, hp, s1, ?_, ?_⟩
      · have hle : (rowsO S (walkF S (some z) (ns.take i))).length ≤ 5000 := by
          cases eo : walkF S (some z) (ns.take i) with
          | none => exact Nat.zero_le _
          | some y =>
            cases ey : S.box y with
            | none => rw [rowsO_none ey]; exact Nat.zero_le _
            | some x => rw [rowsO_some (b := x.1) (c := x.2) ey]; exact hI.ok.len y x ey
        omega
      repeat walk_at "sx"
      refine st_append (g3.lst e2) (by rw [List.length_map, hwl]; exact sz_lt (by rw [List.length_take]; omega)) ?_
      refine ⟨(g2.trans g3).mut hq, ?_, _, rfl⟩
      rw [upd_same, et, wayF_snoc, walkF_snoc, List.map_append]
      rfl
    · rintro σ H2 ⟨g2, e2, u, rfl⟩
      repeat walk_at "sx"
      rw [List.length_map, List.take_length] at e2
      exact k q H2 hq g2 e2
theorem scnameBy : FnScope ["_law_cell", "_law_letters", "_law_stem", "_law_at", "_law_k"] ["_law_cell"] (defScope snameBy) := ⟨rfl, rfl, rfl, by decide +kernel, rfl, by decide +kernel, by decide +kernel⟩
theorem ok_nameBy {f : Addr} {fd : FuncData} (F : Fun K "_law_name_by" "_law_name_by" snameBy f fd) (T : Txt K mg C_Pile C_Store E_NoBox E_SnapError E_BadPath E_BadNumber E_LeafThere E_BranchThere E_Nothing E_NoShot Pt_is_name Pt_branch) : FnOk P w K mg base (L2N.CX P w) 1 f fd ["_law_cell"] (spNameBy) := by
  refine F.okN scnameBy (fun vs H Q E h => ?_) (fun cdv A outer s H vs Q E hr h => ?_)
  · obtain ⟨x, rfl, _⟩ := h
    rfl
  · obtain ⟨n, rfl, k⟩ := h
    refine ⟨_, (pss_cons (ps_set (i := 1) scnameBy.nd rfl (Or.inr rfl) pe_str)
  (pss_cons (ps_if (pt_cmpR op_lt (pe_op op_mod (pv 0) pe_int) pe_int (nomark _))
  (pss_one (ps_ret (pe_ix ix_str pe_str (pe_op op_mod (pe_op op_fdiv (pv 0) pe_int) pe_int) (fun _ _ => rfl))))
  pss_nil)
  (pss_cons (ps_if (pt_cmpR op_eq (pe_op op_mod (pe_op op_fdiv (pv 0) pe_int) pe_int) pe_int (nomark _))
  (pss_cons (ps_set (i := 2) scnameBy.nd rfl (Or.inl rfl) (pe_ix (ixL (K := K) rfl) (pe_lst (pa_cons pe_str (pa_cons pe_str (pa_cons pe_str (pa_cons pe_str (pa_cons pe_str (pa_cons pe_str pa_nil))))))) (pe_op op_mod (pe_op op_fdiv (pv 0) pe_int) pe_int) (fun _ _ => rfl)))
  (pss_cons (ps_set (i := 3) scnameBy.nd rfl (Or.inl rfl) (pe_op op_mod (pe_op op_fdiv (pv 0) pe_int) (pe_op op_add (pe_callB cLenS (by rfl) T.len PySem.boot_len (pa_cons (pv 2) pa_nil)) pe_int)))
  (pss_one (ps_ret (pe_op oAddS (pe_op oAddS (pe_slice sl_str (pv 2) po_none (po_some (pv 3))) (pe_ix ix_str (pv 1) (pe_op op_mod (pe_op op_fdiv (pv 0) pe_int) pe_int) (fun _ _ => rfl))) (pe_slice sl_str (pv 2) (po_some (pv 3)) po_none))))))
  pss_nil)
  (pss_one (ps_ret (peJoin pe_str (pe_lc (own := [("_law_k", 4)]) (g := gName 4) (tt := tYes) rfl scnameBy.nd (pi_range1 rfl T.range (pa_cons (pe_op op_add pe_int (pe_op op_mod (pe_op op_fdiv (pv 0) pe_int) pe_int)) pa_nil)) (blkOk_by (N := ["_law_cell", "_law_letters", "_law_stem", "_law_at", "_law_k"]) (sc := defScope snameBy) (by decide +kernel)) (fun _ _ _ _ _ => pg_name (i := 4) scnameBy.nd rfl (Or.inl rfl)) (fun _ _ _ _ _ => pts_nil) (fun _ _ _ _ _ => (pe_ix ix_str (pv 1) (pe_op op_mod (pe_op op_add (pe_op op_fdiv (pv 0) pe_int) (pe_op op_mul (pv 4) (pe_op op_add pe_int (pe_op op_mod (pe_op op_fdiv (pv 0) pe_int) pe_int)))) pe_int) (fun _ _ => rfl)))))))))), ?_⟩
    repeat walk_at "sx"
    refine st_I (by show (0 : Int) < 3; decide) ?_
    repeat walk_at "sx"
    unfold nameG at k
    refine ite3 (fun h => ?_) (fun h => ?_)
    · have h3 : n % 3 < 2 := of_decide_eq_true h
      rw [if_pos h3] at k
      repeat walk_at "sx"
      refine st_I ⟨by decide, by decide⟩ ?_
      repeat walk_at "sx"
      refine st_I (by show (0 : Int) < 4; decide) ?_
      repeat walk_at "sx"
      obtain ⟨c, ec, hc⟩ := nat_emod (n / 3) 4 4 rfl (by decide)
      have k2 := k H (Gr.refl H)
      rw [ec] at k2 ⊢
      rw [Int.toNat_natCast] at k2
      refine st_ixS (by decide +kernel) (atI_nat (j := c) ?_) k2
      show abcd[c]? = some (abcd.getD c 0)
      rw [List.getD_eq_getElem?_getD, List.getElem?_eq_getElem (show c < abcd.length by rw [show abcd.length = 4 by decide +kernel]; exact hc)] <;> rfl
    have h3 : ¬ n % 3 < 2 := of_decide_eq_false h
    rw [if_neg h3] at k
    repeat walk_at "sx"
    refine st_I ⟨by decide, by decide⟩ ?_
    repeat walk_at "sx"
    refine st_I (by show (0 : Int) < 3; decide) ?_
    repeat walk_at "sx"
    refine ite3 (fun h => ?_) (fun h => ?_)
    · have h10 : n / 3 % 3 = 0 := V.int.inj (of_decide_eq_true h)
      rw [if_pos h10] at k
      repeat walk_at "sx"
      refine ⟨by show 6 ≤ sizeLine; decide, ?_⟩
      walk_at "new"
      rename_i l hln H1 g1 e1
      repeat walk_at "sx"
      refine st_I ⟨by decide, by decide⟩ ?_
      repeat walk_at "sx"
      refine st_I (by show (0 : Int) < 6; decide) ?_
      repeat walk_at "sx"
      obtain ⟨j, ej, hj⟩ := nat_emod (n / 9) 6 6 rfl (by decide)
      rw [ej]
      refine st_ixL (.of e1) (stem_at hj) ?_
      repeat walk_at "sx"
      refine st_I ⟨by decide, by decide⟩ ?_
      repeat walk_at "sx"
      have hsl := stem_le j
      refine st_lenS (sz_of (by omega)) ?_
      repeat walk_at "sx"
      refine st_I (by show (0 : Int) < _; omega) ?_
      repeat walk_at "sx"
      obtain ⟨i, ei, hi⟩ := nat_emod (n / 54) ((stem j).length + 1) _ rfl (by omega)
      rw [show ((stem j).length : Int) + 1 = (((stem j).length + 1 : Nat) : Int) from rfl, ei]
      obtain ⟨c, ec, hc⟩ := nat_emod (n / 432) 26 26 rfl (by decide)
      have hcut := cut_le j i
      repeat walk_at "sx"
      refine st_slS (sz_of (by omega)) ?_
      repeat walk_at "sx"
      refine st_I ⟨by decide, by decide⟩ ?_
      repeat walk_at "sx"
      refine st_I (by show (0 : Int) < 26; decide) ?_
      repeat walk_at "sx"
      rw [ec]
      refine st_ixS (by decide +kernel) (abc_at hc) ?_
      repeat walk_at "sx"
      refine st_addS (sz_of ?_) ?_
      · show _ + 1 ≤ _
        omega
      repeat walk_at "sx"
      refine st_slS (sz_of (by omega)) ?_
      repeat walk_at "sx"
      refine st_addS (sz_of ?_) ?_
      · rw [len_app]
        show _ + 1 + _ ≤ _
        omega
      repeat walk_at "sx"
      have k2 := k H1 g1
      rw [ej, Int.toNat_natCast, ei, ec, Int.toNat_natCast, Int.toNat_natCast] at k2
      exact k2
    · have h10 : ¬ n / 3 % 3 = 0 := fun q => (of_decide_eq_false h) (by rw [q])
      rw [if_neg h10] at k
      repeat walk_at "sx"
      refine st_I ⟨by decide, by decide⟩ ?_
      repeat walk_at "sx"
      refine st_I (by show (0 : Int) < 8; decide) ?_
      repeat walk_at "sx"
      refine st_exR (by omega) (by omega) ?_
      refine lc_r (fun i => .str ⟨#[abc.getD ((n / 72 + (i : Int) * (1 + n / 1872 % 25)) % 26).toNat 0]⟩) ?_ ?_ (by omega)
      · intro i H2 hi g Qy q
        repeat walk_at "sx"
        refine st_I ⟨by decide, by decide⟩ ?_
        repeat walk_at "sx"
        refine st_I ⟨by decide, by decide⟩ ?_
        repeat walk_at "sx"
        refine st_I (by show (0 : Int) < 25; decide) ?_
        repeat walk_at "sx"
        refine st_I (.inl ⟨by omega, by omega⟩) ?_
        repeat walk_at "sx"
        refine st_I (by show (0 : Int) < 26; decide) ?_
        repeat walk_at "sx"
        obtain ⟨c, ec, hc⟩ := nat_emod (n / 72 + (i : Int) * (1 + n / 1872 % 25)) 26 26 rfl (by decide)
        have q2 := q H2 (Gr.refl _)
        rw [ec] at q2 ⊢
        rw [Int.toNat_natCast] at q2
        exact st_ixS (by decide +kernel) (abc_at hc) q2
      · intro D H2 hD g e
        have e2 : H2 D = some (.lst ((signs (fun i => ((n / 72 + (i : Int) * (1 + n / 1872 % 25)) % 26).toNat) (1 + n / 9 % 8).toNat).map V.str)) := by
          rw [e]
          unfold signs
          rw [List.map_map] <;> rfl
        refine st_join (.inl (SqL.of e2)) ?_ (k H2 g)
        rw [signs_sum, signs_len]
        show _ + _ * 0 ≤ _
        omega
theorem scstDrop : FnScope ["self", "shot", "top"] ["self", "shot"] (defScope sstDrop) := ⟨rfl, rfl, rfl, by decide +kernel, rfl, by decide +kernel, by decide +kernel⟩
theorem ok_stDrop {f : Addr} {fd : FuncData} (F : Fun K "drop" "Store.drop" sstDrop f fd) (T : Txt K mg C_Pile C_Store E_NoBox E_SnapError E_BadPath E_BadNumber E_LeafThere E_BranchThere E_Nothing E_NoShot Pt_is_name Pt_branch) (C : Cs_stDrop P w K mg base C_Pile C_Store E_NoBox E_SnapError E_BadPath E_BadNumber E_LeafThere E_BranchThere E_Nothing E_NoShot Pt_is_name Pt_branch) : FnOk P w K mg base (L2N.CX P w) 4 f fd ["self", "shot"] (spDrop K C_Store C_Pile (exA E_BadPath E_BadNumber E_Nothing E_LeafThere E_BranchThere E_NoShot)) := by
  refine F.okN scstDrop (fun vs H Q E h => ?_) (fun cdv A' outer s H vs Q E hr h => ?_)
  · obtain ⟨B, X, x, sh, rfl, _⟩ := h
    rfl
  · obtain ⟨B, X, x, sh, rfl, st, ok, hx, k⟩ := h
    refine ⟨_, (pss_cons (ps_set (i := 2) scstDrop.nd rfl (Or.inl rfl) (pe_mmE (pv 0) T.cl_Store C.stShotTop (hr.mono (by decide)) (L2N.takes_of rfl rfl rfl rfl) (pa_cons (pv 1) pa_nil)))
  (pss_cons (ps_ddel (pe_fldK (K := K) rfl (pv 0) rfl) (pv 1))
  (pss_one (ps_ret (pe_mmE (pe_fldK (K := K) rfl (pv 0) rfl) T.cl_Pile C.plLetGo (hr.mono (by decide)) (L2N.takes_of rfl rfl rfl rfl) (pa_cons (pv 2) pa_nil)))))), ?_⟩
    repeat walk_at "sx"
    refine st.fm (by decide +kernel) (by decide +kernel) (by decide +kernel) (by decide +kernel) ?_
    repeat walk_at "sx"
    refine ⟨B, X, x, sh, rfl, st, hx, ?_⟩
    unfold dropO at k
    cases sh with
    | none => exact k H (Gr.refl H)
    | some z =>
      have hx : x = .int z := hx
      subst hx
      dsimp only at k
      show match X.shot z with | some t => _ | none => _
      cases e : X.shot z with
      | none =>
        rw [e] at k
        exact k H (Gr.refl H)
      | some t =>
        rw [e] at k
        have hm := findI_mem e
        dsimp only at k ⊢
        repeat walk_at "sx"
        walk_at "dx"
        repeat walk_at "sx"
        refine lf_fld st.ins T.cl_Store T.n_Store__shot_tops (sfs_lk B _ _).2.2.1 ?_
        repeat walk_at "sx"
        refine ⟨B.d, kvI X.shots, .inl z, rfl, st.sd, rfl, by rw [kvI_val]; unfold TS.shot at e; rw [e] <;> rfl, ?_⟩
        rw [kvI_drop]
        obtain ⟨st1, gx1⟩ := st.sh (delI X.shots z)
        generalize hH1 : upd H B.d _ = H1 at st1 gx1
        repeat walk_at "sx"
        refine lf_fld st1.ins T.cl_Store T.n_Store_pile (sfs_lk B _ _).1 ?_
        refine st1.pl.fm (by decide +kernel) (by decide +kernel) (by decide +kernel) (by decide +kernel) ?_
        repeat walk_at "sx"
        refine ⟨B.A, X.S, .int t, rfl, st1.pl, .inl ⟨t, rfl, fun b c _ H2 g2 pl2 => k H2 (gx1.trans g2.sa) (st1.pile g2 pl2), fun e2 => ?_⟩⟩
        have := ok.t.there t (List.mem_cons_of_mem _ (List.mem_map.mpr ⟨_, hm, rfl⟩))
        rw [e2] at this
        cases this
theorem scaskedL : FnScope ["_law_store", "_law_cell", "_law_more", "_law_way", "_law_path", "_law_shots", "_law_k"] ["_law_store", "_law_cell", "_law_more"] (defScope saskedL) := ⟨rfl, rfl, rfl, by decide +kernel, rfl, by decide +kernel, by decide +kernel⟩
theorem ok_askedL {f : Addr} {fd : FuncData} (F : Fun K "_law_asked" "_law_asked" saskedL f fd) (T : Txt K mg C_Pile C_Store E_NoBox E_SnapError E_BadPath E_BadNumber E_LeafThere E_BranchThere E_Nothing E_NoShot Pt_is_name Pt_branch) (C : Cs_askedL P w K mg base C_Pile C_Store E_NoBox E_SnapError E_BadPath E_BadNumber E_LeafThere E_BranchThere E_Nothing E_NoShot Pt_is_name Pt_branch) : FnOk P w K mg base (L2N.CX P w) 7 f fd ["_law_store", "_law_cell", "_law_more"] (spAskF K C_Store C_Pile (exA E_BadPath E_BadNumber E_Nothing E_LeafThere E_BranchThere E_NoShot) Pt_branch Pt_is_name) := by
  refine F.okN scaskedL (fun vs H Q E h => ?_) (fun cdv A' outer s H vs Q E hr h => ?_)
  · obtain ⟨B, X, c, m, rfl, _⟩ := h
    rfl
  · obtain ⟨B, X, c, m, rfl, st, ok, hm, ht, tb, tn, k⟩ := h
    refine ⟨_, (pss_cons (ps_set (i := 3) scaskedL.nd rfl (Or.inl rfl) (pe_op op_mod (pv 1) pe_int))
  (pss_cons (ps_set (i := 4) scaskedL.nd rfl (Or.inl rfl) (pe_d0 C.pathBy (hr.mono (by decide)) rfl (pa_cons (pe_op op_fdiv (pv 1) pe_int) pa_nil)))
  (pss_cons (ps_set (i := 5) scaskedL.nd rfl (Or.inl rfl) (pe_mm0 (pv 0) T.cl_Store C.stShots (hr.mono (by decide)) ))
  (pss_cons (ps_if (pt_cmpR op_lt (pv 3) pe_int (nomark _))
  (pss_one (ps_ret (pe_mmE (pv 0) T.cl_Store C.stPut (hr.mono (by decide)) (L2N.takes_of rfl rfl rfl rfl) (pa_cons (pv 4) (pa_cons (pe_d0 C.numberBy (hr.mono (by decide)) rfl (pa_cons (pv 2) pa_nil)) pa_nil)))))
  pss_nil)
  (pss_cons (ps_if (pt_cmpR op_eq (pv 3) pe_int (nomark _))
  (pss_one (ps_ret (pe_mmE (pv 0) T.cl_Store C.stCut (hr.mono (by decide)) (L2N.takes_of rfl rfl rfl rfl) (pa_cons (pv 4) pa_nil))))
  pss_nil)
  (pss_cons (ps_if (pt_cmpR op_eq (pv 3) pe_int (nomark _))
  (pss_cons (ps_for (passes_of rfl) rfl (pi_range1 rfl T.range (pa_cons (pe_op op_add pe_int (pe_op op_mul (pe_callTy call_int1 (by rfl) T.int PyProof.Rows.boot_int (pa_cons (pe_cmpR op_eq (pe_op op_mod (pe_op op_fdiv (pv 1) pe_int) pe_int) pe_int (nomark _)) pa_nil)) (pe_op op_mod (pv 2) pe_int))) pa_nil)) (pg_name (i := 6) scaskedL.nd rfl (Or.inl rfl))
  (pss_one (ps_expr (pe_mm0 (pv 0) T.cl_Store C.stSnap (hr.mono (by decide)) ))))
  (pss_one (ps_ret pe_int)))
  pss_nil)
  (pss_cons (ps_if (PW.pt (pw_or (pt_cmpR (oEqD (K := K) rfl hr.units) (pv 5) (pe_lst pa_nil) (nomark _)) (pw_or1 (pt_cmpR op_eq (pe_op op_mod (pv 2) pe_int) pe_int (nomark _)))))
  (pss_one (ps_ret (pe_mmE (pv 0) T.cl_Store C.stPut (hr.mono (by decide)) (L2N.takes_of rfl rfl rfl rfl) (pa_cons (pv 4) (pa_cons (pe_d0 C.numberBy (hr.mono (by decide)) rfl (pa_cons (pv 2) pa_nil)) pa_nil)))))
  pss_nil)
  (pss_cons (ps_if (pt_cmpR op_eq (pv 3) pe_int (nomark _))
  (pss_one (ps_ret (pe_mmE (pv 0) T.cl_Store C.stDrop (hr.mono (by decide)) (L2N.takes_of rfl rfl rfl rfl) (pa_cons (pe_ix (ixL (K := K) rfl) (pv 5) (pe_op op_mod (pe_op op_fdiv (pv 2) pe_int) (pe_callB (cLenQ (K := K) rfl) (by rfl) T.len PySem.boot_len (pa_cons (pv 5) pa_nil))) (fun _ _ => rfl)) pa_nil))))
  pss_nil)
  (pss_one (ps_ret (pe_mmE (pv 0) T.cl_Store C.stBack (hr.mono (by decide)) (L2N.takes_of rfl rfl rfl rfl) (pa_cons (pe_ix (ixL (K := K) rfl) (pv 5) (pe_op op_mod (pe_op op_fdiv (pv 2) pe_int) (pe_callB (cLenQ (K := K) rfl) (by rfl) T.len PySem.boot_len (pa_cons (pv 5) pa_nil))) (fun _ _ => rfl)) pa_nil)))))))))))), ?_⟩
    have hp := pathA_ok (c / 8)
    have em : ∀ j : Int, decide (V.int (c % 8) = V.int j) = decide (c % 8 = j) := fun j => decide_eq_decide.mpr ⟨fun q => V.int.inj q, fun q => by rw [q]⟩
    unfold askF at k
    repeat walk_at "sx"
    refine st_I (by show (0 : Int) < 8; decide) ?_
    repeat walk_at "sx"
    refine st_I ⟨by decide, by decide⟩ ?_
    repeat walk_at "sx"
    refine ⟨_, rfl, fun l H1 hl g1 e1 => ?_⟩
    have st1 := st.gr g1
    repeat walk_at "sx"
    refine st1.fm (by decide +kernel) (by decide +kernel) (by decide +kernel) (by decide +kernel) ?_
    repeat walk_at "sx"
    refine ⟨B, X, rfl, st1, ok, fun l2 H2 hl2 g2 e2 => ?_⟩
    have e2 : H2 l2 = some (.lst (X.nums.map V.int)) := e2
    have g12 := g1.trans g2
    have st2 := st.gr g12
    have eL := g2.lst e1
    have bk : ∀ {H3 : Hp} {r : Except Rf (TS × Nat)}, Gr H H3 → Out K C_Store C_Pile (exA E_BadPath E_BadNumber E_Nothing E_LeafThere E_BranchThere E_NoShot) H B Q E r → Out K C_Store C_Pile (exA E_BadPath E_BadNumber E_Nothing E_LeafThere E_BranchThere E_NoShot) H3 B Q E r := fun {H3 r} g h => by
      cases r with
      | error r => exact fun H' g' => h H' (g.trans g')
      | ok x => exact fun H' g' s' => h H' ((Gx.of g).trans g') s'
    repeat walk_at "sx"
    refine ite3 (fun h => ?_) (fun h => ?_)
    · rw [if_pos (of_decide_eq_true h)] at k
      repeat walk_at "sx"
      refine st2.fm (by decide +kernel) (by decide +kernel) (by decide +kernel) (by decide +kernel) ?_
      repeat walk_at "sx"
      refine ⟨m, rfl, ?_⟩
      repeat walk_at "sx"
      refine ⟨B, X, _, _, some ((pathG sizeA (c / 8)).map V.str), some (numG m), rfl, st2, ok, path_in (.inl (.of eL)) hp.le hp.ok, ⟨rfl, numG_ok m⟩, by omega, g12.tab _ tb, g12.tab _ tn, ?_⟩
      rw [hp.putO]
      exact bk g12 k
    rw [if_neg (of_decide_eq_false h)] at k
    repeat walk_at "sx"
    rw [em]
    refine ite3 (fun h => ?_) (fun h => ?_)
    · rw [if_pos (of_decide_eq_true h)] at k
      repeat walk_at "sx"
      refine st2.fm (by decide +kernel) (by decide +kernel) (by decide +kernel) (by decide +kernel) ?_
      repeat walk_at "sx"
      refine ⟨B, X, _, some ((pathG sizeA (c / 8)).map V.str), rfl, st2, ok, path_in (.inl (.of eL)) hp.le hp.ok, by omega, g12.tab _ tb, g12.tab _ tn, ?_⟩
      rw [hp.cutO]
      exact bk g12 k
    rw [if_neg (of_decide_eq_false h)] at k
    repeat walk_at "sx"
    rw [em]
    refine ite3 (fun h => ?_) (fun h => ?_)
    · rw [if_pos (of_decide_eq_true h)] at k
      repeat walk_at "sx"
      refine st_I ⟨by decide, by decide⟩ ?_
      repeat walk_at "sx"
      refine st_I (by show (0 : Int) < 16; decide) ?_
      repeat walk_at "sx"
      have e16 : decide (V.int (c / 8 % 16) = V.int 3) = decide (c / 8 % 16 = 3) := decide_eq_decide.mpr ⟨fun q => V.int.inj q, fun q => by rw [q]⟩
      rw [e16]
      refine .inr ⟨_, rfl, ?_⟩
      repeat walk_at "sx"
      refine st_I (by show (0 : Int) < 33; decide) ?_
      have hm33 : 0 ≤ m % 33 ∧ m % 33 < 33 := ⟨by omega, by omega⟩
      refine st_I (.inr ⟨by omega, by omega⟩) ?_
      have en : (1 : Int) + (if decide (c / 8 % 16 = 3) = true then 1 else 0) * (m % 33) = ((1 + (if c / 8 % 16 = 3 then (m % 33).toNat else 0) : Nat) : Int) := by
        by_cases q : c / 8 % 16 = 3
        · rw [decide_eq_true q, if_pos rfl, if_pos q]; omega
        · rw [decide_eq_false q, if_neg Bool.false_ne_true, if_neg q]; omega
      repeat walk_at "sx"
      rw [en]
      have hn33 : (1 + (if c / 8 % 16 = 3 then (m % 33).toNat else 0)) ≤ 33 := by split <;> omega
      generalize (1 + (if c / 8 % 16 = 3 then (m % 33).toNat else 0)) = n at k hn33 en
      refine st_exR (by omega) (by omega) ?_
      rw [Int.toNat_natCast]
      refine st_loopR (fun i σ H' => (∃ u, σ = [some (.ref B.p), some (.int c), some (.int m), some (.int (c % 8)), some (.ref l), some (.ref l2), u]) ∧ Gx B.foot H2 H' ∧ StAt K C_Store C_Pile H' B (snapsF X i)) ⟨⟨none, rfl⟩, Gx.refl _, st2⟩ ?_ ?_
      · rintro i σ H3 hi ⟨⟨u, rfl⟩, gx3, st3⟩
        obtain ⟨d, h1, _, _⟩ := snaps_deed ok i (by omega)
        repeat walk_at "sx"
        refine st3.fm (by decide +kernel) (by decide +kernel) (by decide +kernel) (by decide +kernel) ?_
        repeat walk_at "sx"
        refine ⟨B, snapsF X i, rfl, st3, d.ok, by omega, fun H4 g4 st4 => ?_⟩
        repeat walk_at "sx"
        exact ⟨⟨_, rfl⟩, gx3.trans g4, st4⟩
      · rintro σ H3 ⟨⟨u, rfl⟩, gx3, st3⟩
        repeat walk_at "sx"
        exact k H3 ((Gx.of g12).trans gx3) st3
    rw [if_neg (of_decide_eq_false h)] at k
    repeat walk_at "sx"
    refine ⟨by show 0 ≤ sizeLine; decide, ?_⟩
    walk_at "new"; rename_i l3 hl3 H3 g3 e3
    refine st_eqI (xs := X.nums) (ys := []) (.of (g3.lst e2)) (.of e3) ?_
    have g13 := g12.trans g3
    have st3 := st.gr g13
    have eL3 := g3.lst eL
    have e23 := g3.lst e2
    repeat walk_at "sx"
    have em5 : decide (V.int (m % 5) = V.int 0) = decide (m % 5 = 0) := decide_eq_decide.mpr ⟨fun q => V.int.inj q, fun q => by rw [q]⟩
    refine ite3 (fun h => ?_) (fun h => ?_)
    · rw [if_pos (.inl (of_decide_eq_true h))] at k
      repeat walk_at "sx"
      refine st3.fm (by decide +kernel) (by decide +kernel) (by decide +kernel) (by decide +kernel) ?_
      repeat walk_at "sx"
      refine ⟨m, rfl, ?_⟩
      repeat walk_at "sx"
      refine ⟨B, X, _, _, some ((pathG sizeA (c / 8)).map V.str), some (numG m), rfl, st3, ok, path_in (.inl (.of eL3)) hp.le hp.ok, ⟨rfl, numG_ok m⟩, by omega, g13.tab _ tb, g13.tab _ tn, ?_⟩
      rw [hp.putO]
      exact bk g13 k
    repeat walk_at "sx"
    refine st_I (by show (0 : Int) < 5; decide) ?_
    repeat walk_at "sx"
    rw [em5]
    refine ite3 (fun h5 => ?_) (fun h5 => ?_)
    · rw [if_pos (.inr (of_decide_eq_true h5))] at k
      repeat walk_at "sx"
      refine st3.fm (by decide +kernel) (by decide +kernel) (by decide +kernel) (by decide +kernel) ?_
      repeat walk_at "sx"
      refine ⟨m, rfl, ?_⟩
      repeat walk_at "sx"
      refine ⟨B, X, _, _, some ((pathG sizeA (c / 8)).map V.str), some (numG m), rfl, st3, ok, path_in (.inl (.of eL3)) hp.le hp.ok, ⟨rfl, numG_ok m⟩, by omega, g13.tab _ tb, g13.tab _ tn, ?_⟩
      rw [hp.putO]
      exact bk g13 k
    have hne : X.nums ≠ [] := of_decide_eq_false h
    rw [if_neg (fun q => q.elim hne (of_decide_eq_false h5))] at k
    obtain ⟨at1, at2⟩ := nthI_at hne (m / 5)
    have hpos := List.length_pos_iff.mpr hne
    repeat walk_at "sx"
    rw [em]
    refine ite3 (fun h => ?_) (fun h => ?_)
    · rw [if_pos (of_decide_eq_true h)] at k
      repeat walk_at "sx"
      refine st3.fm (by decide +kernel) (by decide +kernel) (by decide +kernel) (by decide +kernel) ?_
      repeat walk_at "sx"
      refine st_I ⟨by decide, by decide⟩ ?_
      repeat walk_at "sx"
      refine st_lenL (.of e23) ?_
      rw [List.length_map]
      refine st_I (by show (0 : Int) < _; omega) ?_
      refine st_ixL (.of e23) at1 ?_
      repeat walk_at "sx"
      exact ⟨B, X, _, some _, rfl, st3, ok, rfl, bk g13 k⟩
    · rw [if_neg (of_decide_eq_false h)] at k
      repeat walk_at "sx"
      refine st3.fm (by decide +kernel) (by decide +kernel) (by decide +kernel) (by decide +kernel) ?_
      repeat walk_at "sx"
      refine st_I ⟨by decide, by decide⟩ ?_
      repeat walk_at "sx"
      refine st_lenL (.of e23) ?_
      rw [List.length_map]
      refine st_I (by show (0 : Int) < _; omega) ?_
      refine st_ixL (.of e23) at1 ?_
      repeat walk_at "sx"
      exact ⟨B, X, _, some _, rfl, st3, ok, rfl, bk g13 k⟩
end
section
variable {P : Program} {w : World} {K : PySem.W.Frag} {mg : Str → Option Value} {base : Heap} {C_Pile C_Store E_NoBox E_SnapError E_BadPath E_BadNumber E_LeafThere E_BranchThere E_Nothing E_NoShot Pt_is_name Pt_branch : Addr}
theorem scstInit : FnScope ["self"] ["self"] (defScope sstInit) := ⟨rfl, rfl, rfl, by decide +kernel, rfl, by decide +kernel, by decide +kernel⟩
theorem ok_stInit {f : Addr} {fd : FuncData} (F : Fun K "__init__" "Store.__init__" sstInit f fd) (T : Txt K mg C_Pile C_Store E_NoBox E_SnapError E_BadPath E_BadNumber E_LeafThere E_BranchThere E_Nothing E_NoShot Pt_is_name Pt_branch) (C : Cs_stInit P w K mg base C_Pile C_Store E_NoBox E_SnapError E_BadPath E_BadNumber E_LeafThere E_BranchThere E_Nothing E_NoShot Pt_is_name Pt_branch) : FnOk P w K mg base (L2N.CX P w) 4 f fd ["self"] (spInitS K C_Store C_Pile Pt_branch) := by
  refine F.okN scstInit (fun vs H Q E h => ?_) (fun cdv A' outer s H vs Q E hr h => ?_)
  · obtain ⟨p, dx, rfl, _⟩ := h
    rfl
  · obtain ⟨p, dx, rfl, e0, tab, k⟩ := h
    refine ⟨_, (pss_cons (ps_fld (pv 0) (pe_mk0 C.mk_Pile (hr.mono (by decide)) rfl) rfl)
  (pss_cons (ps_fld (pv 0) (pe_mm (pe_fldK (K := K) rfl (pv 0) rfl) T.cl_Pile C.plBranch (hr.mono (by decide)) (pa_cons (pe_lst pa_nil) pa_nil)) rfl)
  (pss_cons (ps_expr (pe_mm (pe_fldK (K := K) rfl (pv 0) rfl) T.cl_Pile C.plHold (hr.mono (by decide)) (pa_cons (pe_fldK (K := K) rfl (pv 0) rfl) pa_nil)))
  (pss_cons (ps_fld (pv 0) pe_dnewK rfl)
  (pss_one (ps_fld (pv 0) pe_int rfl)))))), ?_⟩
    repeat walk_at "sx"
    refine st_newPile ?_
    intro A H1 hA g1 pl1
    have p1 : H1 p = some (.ins C_Store dx []) := g1.keep _ _ e0 (fun _ z => by cases z)
    have npA : p ≠ A.p := ne_of_none e0 (hA _ (.inl rfl))
    repeat walk_at "sx"
    refine lf_putFld p1 T.cl_Store T.n_Store_pile (by show 0 < 1000; decide) ?_
    generalize hH2 : upd H1 p _ = H2
    have gx2 : Gx (fun b => b = p) H H2 := by rw [← hH2]; exact (Gx.of g1).put rfl p1 (by intro z; exact z) (by intro _ z; cases z)
    have p2 : H2 p = some (.ins C_Store dx (putF "pile" (.ref A.p) [])) := by rw [← hH2]; exact upd_same
    have pl2 : PileAt K C_Pile H2 A PS.empty := pl1.gx (F := fun b => b = p) (by rw [← hH2]; exact (Gx.refl H1).put rfl p1 (by intro z; exact z) (by intro _ z; cases z)) (fun b hb q => by
      have := hA b hb
      rw [q, e0] at this
      cases this)
    have np : ∀ b, A.foot b → b ≠ p := fun b hb q => by
      have := hA b hb
      rw [q, e0] at this
      cases this
    repeat walk_at "sx"
    refine lf_fld p2 T.cl_Store T.n_Store_pile rfl ?_
    refine pl2.fm (by decide +kernel) (by decide +kernel) (by decide +kernel) (by decide +kernel) ?_
    repeat walk_at "sx"
    refine ⟨by decide, ?_⟩
    walk_at "new"; rename_i l hl H3 g3 e3
    repeat walk_at "sx"
    refine ⟨A, PS.empty, l, [], [], rfl, pl2.gr g3, .of e3, .nil, by decide, by decide, g3.tab _ (gx2.tab _ tab), .inl ⟨[], rfl, (fun r hr => nomatch hr), fun H4 g4 pl4 => ?_⟩⟩
    have p4 : H4 p = some (.ins C_Store dx (putF "pile" (.ref A.p) [])) := g4.keep _ _ (g3.keep _ _ p2 (fun _ z => by cases z)) (fun hb => np _ hb rfl) (fun _ z => by cases z)
    repeat walk_at "sx"
    refine lf_putFld p4 T.cl_Store T.n_Store__top (by show 1 < 1000; decide) ?_
    generalize hH5 : upd H4 p _ = H5
    have gx5 : Gx (fun b => b = p) H4 H5 := by rw [← hH5]; exact (Gx.refl H4).put rfl p4 (by intro z; exact z) (by intro _ z; cases z)
    have p5 : H5 p = some (.ins C_Store dx (putF "_top" (.int 1) (putF "pile" (.ref A.p) []))) := by rw [← hH5]; exact upd_same
    have pl5 : PileAt K C_Pile H5 A (mkB PS.empty []) := pl4.gx gx5 fun b hb q => np b hb q
    repeat walk_at "sx"
    refine lf_fld p5 T.cl_Store T.n_Store_pile rfl ?_
    refine pl5.fm (by decide +kernel) (by decide +kernel) (by decide +kernel) (by decide +kernel) ?_
    repeat walk_at "sx"
    refine lf_fld p5 T.cl_Store T.n_Store__top rfl ?_
    repeat walk_at "sx"
    refine ⟨A, _, .int 1, rfl, pl5, .inl ⟨1, rfl, fun b c _ H6 g6 pl6 => ?_, fun e => nomatch e⟩⟩
    have p6 : H6 p = some (.ins C_Store dx (putF "_top" (.int 1) (putF "pile" (.ref A.p) []))) := g6.keep _ _ p5 (fun hb => np _ hb rfl) (fun _ z => by cases z)
    repeat walk_at "sx"
    refine st_dnewK ?_
    walk_at "new"; rename_i d hd H7 g7 e7
    have p7 := g7.keep _ _ p6 (fun _ z => by cases z)
    repeat walk_at "sx"
    refine lf_putFld p7 T.cl_Store T.n_Store__shot_tops (by show 2 < 1000; decide) ?_
    generalize hH8 : upd H7 p _ = H8
    have gx8 : Gx (fun b => b = p) H7 H8 := by rw [← hH8]; exact (Gx.refl H7).put rfl p7 (by intro z; exact z) (by intro _ z; cases z)
    have p8 : H8 p = some (.ins C_Store dx (putF "_shot_tops" (.ref d) (putF "_top" (.int 1) (putF "pile" (.ref A.p) [])))) := by rw [← hH8]; exact upd_same
    repeat walk_at "sx"
    refine lf_putFld p8 T.cl_Store T.n_Store__shots_taken (by show 3 < 1000; decide) ?_
    generalize hH9 : upd H8 p _ = H9
    have gx9 : Gx (fun b => b = p) H8 H9 := by rw [← hH9]; exact (Gx.refl H8).put rfl p8 (by intro z; exact z) (by intro _ z; cases z)
    have p9 : H9 p = some (.ins C_Store dx (sfs ⟨p, dx, d, A⟩ 1 0)) := by rw [← hH9, upd_same, ← sfs_init] <;> rfl
    have pl9 : PileAt K C_Pile H9 A TS.new.S := ((pl6.gr g7).gx gx8 (fun b hb q => np b hb q)).gx gx9 fun b hb q => np b hb q
    obtain ⟨kc, kn, kr, c1, c2, c3, _⟩ := pl6.dcts
    repeat walk_at "sx"
    have n0 : ∀ b, H6 b = none → ¬ A.foot b → H b = none := fun b hb hf => by
      cases e : H b with
      | none => rfl
      | some o =>
        obtain ⟨o1, h1⟩ := gx2.there b o e
        obtain ⟨o3, h3⟩ := g3.there b o1 h1
        obtain ⟨o4, h4⟩ := g4.there b o3 h3
        obtain ⟨o5, h5⟩ := gx5.there b o4 h4
        obtain ⟨o6, h6⟩ := g6.there b o5 h5
        rw [hb] at h6
        cases h6
    have nd : ¬ A.foot d := fun hf => by
      rcases hf with q | q | q | q
      · rw [q, pl6.ins] at hd; cases hd
      · rw [q, c1] at hd; cases hd
      · rw [q, c2] at hd; cases hd
      · rw [q, c3] at hd; cases hd
    have all : Gx (fun b => b = p ∨ A.foot b) H H9 := (((((((gx2.mono fun b h => .inl h).then g3).trans (g4.mono fun b h => .inr h)).trans (gx5.mono fun b h => .inl h)).trans (g6.mono fun b h => .inr h)).then g7).trans (gx8.mono fun b h => .inl h)).trans (gx9.mono fun b h => .inl h)
    have ndp : d ≠ p := (ne_of_none p6 hd).symm
    refine k ⟨p, dx, d, A⟩ H9 rfl (n0 d hd nd) hA ⟨all.fix, fun b o e nf n => ?_, all.tab, all.there⟩ ⟨p9, pl9, ?_, npA, fun q => nd (.inr (.inl q)), fun q => nd (.inr (.inr (.inl q))), fun q => nd (.inr (.inr (.inr q)))⟩
    · refine all.keep b o e (fun h => ?_) n
      rcases h with h | h
      · exact nf h
      · rw [hA b h] at e; cases e
    · exact gx9.keep _ _ (gx8.keep _ _ e7 ndp (fun _ z => by cases z)) ndp (fun _ z => by cases z)
theorem scisLeafNumber : FnScope ["thing"] ["thing"] (defScope sisLeafNumber) := ⟨rfl, rfl, rfl, by decide +kernel, rfl, by decide +kernel, by decide +kernel⟩
theorem ok_isLeafNumber {f : Addr} {fd : FuncData} (F : Fun K "is_leaf_number" "is_leaf_number" sisLeafNumber f fd) (T : Txt K mg C_Pile C_Store E_NoBox E_SnapError E_BadPath E_BadNumber E_LeafThere E_BranchThere E_Nothing E_NoShot Pt_is_name Pt_branch) (C : Cs_isLeafNumber P w K mg base C_Pile C_Store E_NoBox E_SnapError E_BadPath E_BadNumber E_LeafThere E_BranchThere E_Nothing E_NoShot Pt_is_name Pt_branch) : FnOk P w K mg base (L2N.CX P w) 2 f fd ["thing"] (spIsLeafNumber K) := by
  refine F.okN scisLeafNumber (fun vs H Q E h => ?_) (fun cdv A outer s H vs Q E hr h => ?_)
  · obtain ⟨x, rfl, _⟩ := h
    rfl
  · obtain ⟨x, rfl, h⟩ := h
    refine ⟨_, (pss_one (ps_ret (pe_and (pe_d0 C.isWhole (hr.mono (by decide)) rfl (pa_cons (pv 0) pa_nil)) (pe_one (pe_chain op_lt op_lt (pe_un un_neg (pe_glob rfl T.mg_LIMIT.choose_spec (v := .int 1000000000000000000000000000000) ⟨_, rfl⟩)) (pv 0) (pe_glob rfl T.mg_LIMIT.choose_spec (v := .int 1000000000000000000000000000000) ⟨_, rfl⟩)))))), ?_⟩
    repeat walk_at "sx"
    rcases h with ⟨z, rfl, k⟩ | ⟨od, k⟩
    · refine ⟨_, rfl, .inl ⟨z, rfl, ?_⟩⟩
      repeat walk_at "sx"
      refine st_un ?_
      repeat walk_at "sx"
      refine st_rU ?_
      repeat walk_at "sx"
      unfold isNum lim at k
      refine ite3 (fun h => ?_) (fun h => ?_)
      · rw [h, Bool.true_and] at k
        repeat walk_at "sx"
        exact k
      · rw [h, Bool.false_and] at k
        exact k
    · refine ⟨_, rfl, .inr ⟨od, ?_⟩⟩
      repeat walk_at "sx"
      exact k
theorem scplace : FnScope ["rows", "name", "low", "high", "middle"] ["rows", "name"] (defScope splace) := ⟨rfl, rfl, rfl, by decide +kernel, rfl, by decide +kernel, by decide +kernel⟩
theorem ok_place {f : Addr} {fd : FuncData} (F : Fun K "_place" "_place" splace f fd) (T : Txt K mg C_Pile C_Store E_NoBox E_SnapError E_BadPath E_BadNumber E_LeafThere E_BranchThere E_Nothing E_NoShot Pt_is_name Pt_branch) : FnOk P w K mg base (L2N.CX P w) 1 f fd ["rows", "name"] (spPlace K) := by
  refine F.okN scplace (fun vs H Q E h => ?_) (fun cdv A outer s H vs Q E hr h => ?_)
  · obtain ⟨a, xs, rs, n, rfl, _⟩ := h
    rfl
  · obtain ⟨a, xs, rs, n, rfl, hS, hP, hs, hl, k⟩ := h
    refine ⟨_, (pss_cons (ps_set (i := 2) scplace.nd rfl (Or.inl rfl) pe_int)
  (pss_cons (ps_set (i := 3) scplace.nd rfl (Or.inl rfl) (pe_callB (cLenQ (K := K) rfl) (by rfl) T.len PySem.boot_len (pa_cons (pv 0) pa_nil)))
  (pss_cons (ps_while (passes_of rfl) (pt_cmpR op_lt (pv 2) (pv 3) (nomark _))
  (pss_cons (ps_set (i := 4) scplace.nd rfl (Or.inl rfl) (pe_op op_fdiv (pe_op op_add (pv 2) (pv 3)) pe_int))
  (pss_one (ps_if (pt_cmpR oLtS (pe_ix (ixT (K := K) rfl) (pe_ix (ixQ (K := K) rfl) (pv 0) (pv 4) (fun _ _ => rfl)) pe_int (fun _ _ => rfl)) (pv 1) (nomark _))
  (pss_one (ps_set (i := 2) scplace.nd rfl (Or.inl rfl) (pe_op op_add (pv 4) pe_int)))
  (pss_one (ps_set (i := 3) scplace.nd rfl (Or.inl rfl) (pv 4)))))))
  (pss_one (ps_ret (pv 2)))))), ?_⟩
    repeat walk_at "sx"
    refine st_lenQ hS ?_
    repeat walk_at "sx"
    have hxl := hP.len
    refine while_by (fun σ H' => H' = H ∧ ∃ (lo hi : Nat) (v : Option V), σ = [some (.ref a), some (.str n), some (.int lo), some (.int hi), v] ∧ lo ≤ place rs n ∧ place rs n ≤ hi ∧ hi ≤ rs.length)
      (fun σ _ => match σ with | [_, _, some (.int lo), some (.int hi), _] => (hi - lo).toNat | _ => 0) ⟨rfl, 0, rs.length, none, by rw [hxl] <;> rfl, Nat.zero_le _, place_le rs n, Nat.le_refl _⟩ ?_ ?_
    · rintro σ H' ⟨rfl, lo, hi, v, rfl, h1, h2, h3⟩
      repeat walk_at "sx"
      refine ite3 (fun hlt => ?_) (fun hge => ?_)
      · have hlh : lo < hi := by have := of_decide_eq_true hlt; omega
        repeat walk_at "sx"
        refine st_I ⟨by decide, by decide⟩ ?_
        repeat walk_at "sx"
        have em : ((lo : Int) + (hi : Int)) / 2 = (((lo + hi) / 2 : Nat) : Int) := by omega
        rw [em]
        generalize hm : (lo + hi) / 2 = m
        have hm1 : lo ≤ m := by omega
        have hm2 : m < hi := by omega
        obtain ⟨r, hr2⟩ : ∃ r, rs[m]? = some r := ⟨rs[m]'(by omega), List.getElem?_eq_getElem _⟩
        obtain ⟨p, hp1, hp2⟩ := hP.at hr2
        refine st_ixQ hS (atI_nat hp1) ?_
        repeat walk_at "sx"
        refine st_ixT hp2 (atI_nat (j := 0) rfl) ?_
        repeat walk_at "sx"
        refine st_ltS ?_
        repeat walk_at "sx"
        have hb := below_iff (n := n) hs hr2
        refine ite3 (fun hy => ?_) (fun hn => ?_)
        · have := hb.mp hy
          repeat walk_at "sx"
          refine ⟨⟨rfl, m + 1, hi, _, rfl, by omega, h2, h3⟩, ?_⟩
          show ((hi : Int) - ((m : Int) + 1)).toNat < ((hi : Int) - (lo : Int)).toNat
          omega
        · have : ¬ m < place rs n := fun q => by
            have z := hb.mpr q
            rw [hn] at z
            cases z
          repeat walk_at "sx"
          refine ⟨⟨rfl, lo, m, _, rfl, h1, by omega, by omega⟩, ?_⟩
          show ((m : Int) - (lo : Int)).toNat < ((hi : Int) - (lo : Int)).toNat
          omega
      · have hle : ¬ lo < hi := by have := of_decide_eq_false hge; omega
        repeat walk_at "sx"
        have e : lo = place rs n := by omega
        rw [e]
        exact k
    · rintro σ H' Q1 Q2 hq ⟨v, e1, u, e2, i, j, e3, e4, k, e5, q⟩
      exact ⟨v, e1, u, e2, i, j, e3, e4, k, e5, hq _ _ q⟩
theorem scplaced : FnScope ["rows", "name", "box", "told", "at"] ["rows", "name", "box"] (defScope splaced) := ⟨rfl, rfl, rfl, by decide +kernel, rfl, by decide +kernel, by decide +kernel⟩
theorem ok_placed {f : Addr} {fd : FuncData} (F : Fun K "placed" "placed" splaced f fd) (T : Txt K mg C_Pile C_Store E_NoBox E_SnapError E_BadPath E_BadNumber E_LeafThere E_BranchThere E_Nothing E_NoShot Pt_is_name Pt_branch) (C : Cs_placed P w K mg base C_Pile C_Store E_NoBox E_SnapError E_BadPath E_BadNumber E_LeafThere E_BranchThere E_Nothing E_NoShot Pt_is_name Pt_branch) : FnOk P w K mg base (L2N.CX P w) 2 f fd ["rows", "name", "box"] (spPlaced K) := by
  refine F.okN scplaced (fun vs H Q E h => ?_) (fun cdv A outer s H vs Q E hr h => ?_)
  · obtain ⟨a, xs, rs, n, b, rfl, _⟩ := h
    rfl
  · obtain ⟨a, xs, rs, n, b, rfl, hS, hP, hs, hl, k⟩ := h
    refine ⟨_, (pss_cons (ps_set (i := 3) scplaced.nd rfl (Or.inl rfl) (pe_callTy (cListOf (K := K) rfl) (by rfl) T.list PyProof.Rows.boot_list (pa_cons (pv 0) pa_nil)))
  (pss_cons (ps_set (i := 4) scplaced.nd rfl (Or.inl rfl) (pe_d0 C.place (hr.mono (by decide)) rfl (pa_cons (pv 0) (pa_cons (pv 1) pa_nil))))
  (pss_cons (ps_if (pt_val (pe_d0 C.isAt (hr.mono (by decide)) rfl (pa_cons (pv 0) (pa_cons (pv 1) (pa_cons (pv 4) pa_nil)))))
  (pss_one (ps_asg (pe_tup (pa_cons (pv 1) (pa_cons (pv 2) pa_nil))) (pg_sub (pv 3) (pv 4) set_list)))
  (pss_one (ps_expr (pe_bm PySem.F.plainAttrs_list PySem.F.slot_list_insert PySem.F.type_list_insert mt_insert (pv 3) (pa_cons (pv 4) (pa_cons (pe_tup (pa_cons (pv 1) (pa_cons (pv 2) pa_nil))) pa_nil))))))
  (pss_one (ps_ret (pv 3)))))), ?_⟩
    repeat walk_at "sx"
    refine st_listQ hS ?_
    walk_at "new"
    rename_i l hln H1 g1 e1
    repeat walk_at "sx"
    refine ⟨a, xs, rs, n, rfl, g1.q hS, hP.gr g1, hs, by omega, ?_⟩
    repeat walk_at "sx"
    refine ⟨a, xs, rs, n, _, rfl, g1.q hS, hP.gr g1, by omega, ?_⟩
    repeat walk_at "sx"
    have hxl := hP.len
    have hpl := place_le rs n
    refine ite3 (fun h => ?_) (fun h => ?_)
    · obtain ⟨b0, q1, q2, q3, _⟩ := isAt_yes hs h
      have hlt : place rs n < rs.length := (List.getElem?_eq_some_iff.mp q1).1
      repeat walk_at "sx"
      refine ⟨by show 2 ≤ sizeLine; decide, ?_⟩
      walk_at "new"
      rename_i t htn H2 g2 e2
      repeat walk_at "sx"
      refine st_setL (g2.lst e1) (ixN_nat (by omega)) ?_
      repeat walk_at "sx"
      refine k l _ _ hln ((g1.trans g2).mut hln) upd_same (Prs.mut (g2.lst e1) ?_)
      rw [List.set_eq_take_append_cons_drop, if_pos (by omega)]
      unfold putR
      rw [← q3, ← take_place n hs]
      exact ((hP.take _).gr (g1.trans g2)).app (.cons (.of e2) ((hP.drop _).gr (g1.trans g2)))
    · obtain ⟨_, q3, _⟩ := isAt_no hs h
      repeat walk_at "sx"
      refine st_tyL (.of e1) ?_
      repeat walk_at "sx"
      refine ⟨by show 2 ≤ sizeLine; decide, ?_⟩
      walk_at "new"
      rename_i t htn H2 g2 e2
      repeat walk_at "sx"
      refine ⟨l, xs, _, .ref t, rfl, rfl, g2.lst e1, sz_lt (by omega), by omega, by omega, ?_⟩
      repeat walk_at "sx"
      refine k l _ _ hln ((g1.trans g2).mut hln) upd_same (Prs.mut (g2.lst e1) ?_)
      unfold putR
      rw [← q3, ← take_place n hs, Int.toNat_natCast, List.append_assoc]
      exact ((hP.take _).gr (g1.trans g2)).app (.cons (.of e2) ((hP.drop _).gr (g1.trans g2)))
theorem scstTop : FnScope ["self", "view"] ["self", "view"] (defScope sstTop) := ⟨rfl, rfl, rfl, by decide +kernel, rfl, by decide +kernel, by decide +kernel⟩
theorem ok_stTop {f : Addr} {fd : FuncData} (F : Fun K "top" "Store.top" sstTop f fd) (T : Txt K mg C_Pile C_Store E_NoBox E_SnapError E_BadPath E_BadNumber E_LeafThere E_BranchThere E_Nothing E_NoShot Pt_is_name Pt_branch) (C : Cs_stTop P w K mg base C_Pile C_Store E_NoBox E_SnapError E_BadPath E_BadNumber E_LeafThere E_BranchThere E_Nothing E_NoShot Pt_is_name Pt_branch) : FnOk P w K mg base (L2N.CX P w) 3 f fd ["self", "view"] (spTop K C_Store C_Pile (exA E_BadPath E_BadNumber E_Nothing E_LeafThere E_BranchThere E_NoShot)) := by
  refine F.okN scstTop (fun vs H Q E h => ?_) (fun cdv A' outer s H vs Q E hr h => ?_)
  · obtain ⟨B, X, x, v, rfl, _⟩ := h
    rfl
  · obtain ⟨B, X, x, v, rfl, st, hx, k⟩ := h
    refine ⟨_, (pss_cons (ps_if (pt_cmpR oIsNo (pv 1) pe_non (nomark _))
  (pss_one (ps_ret (pe_fldK (K := K) rfl (pv 0) rfl)))
  pss_nil)
  (pss_one (ps_ret (pe_mmE (pv 0) T.cl_Store C.stShotTop (hr.mono (by decide)) (L2N.takes_of rfl rfl rfl rfl) (pa_cons (pv 1) pa_nil))))), ?_⟩
    cases v with
    | tree =>
      have hx : x = .non := hx
      subst hx
      repeat walk_at "sx"
      refine lf_fld st.ins T.cl_Store T.n_Store__top (sfs_lk B _ _).2.1 ?_
      exact k
    | shot z =>
      have hx : x = .int z := hx
      subst hx
      repeat walk_at "sx"
      refine st.fm (by decide +kernel) (by decide +kernel) (by decide +kernel) (by decide +kernel) ?_
      repeat walk_at "sx"
      exact ⟨B, X, .int z, some z, rfl, st, rfl, k⟩
    | odd =>
      obtain ⟨od, hne⟩ := hx
      repeat walk_at "sx"
      rw [decide_eq_false hne]
      repeat walk_at "sx"
      refine st.fm (by decide +kernel) (by decide +kernel) (by decide +kernel) (by decide +kernel) ?_
      repeat walk_at "sx"
      exact ⟨B, X, x, none, rfl, st, od, k⟩
theorem scnumberBy : FnScope ["_law_cell"] ["_law_cell"] (defScope snumberBy) := ⟨rfl, rfl, rfl, by decide +kernel, rfl, by decide +kernel, by decide +kernel⟩
theorem ok_numberBy {f : Addr} {fd : FuncData} (F : Fun K "_law_number_by" "_law_number_by" snumberBy f fd) (T : Txt K mg C_Pile C_Store E_NoBox E_SnapError E_BadPath E_BadNumber E_LeafThere E_BranchThere E_Nothing E_NoShot Pt_is_name Pt_branch) : FnOk P w K mg base (L2N.CX P w) 1 f fd ["_law_cell"] (spNumberBy) := by
  refine F.okN scnumberBy (fun vs H Q E h => ?_) (fun cdv A outer s H vs Q E hr h => ?_)
  · obtain ⟨x, rfl, _⟩ := h
    rfl
  · obtain ⟨n, rfl, k⟩ := h
    refine ⟨_, (pss_cons (ps_if (pt_cmpR op_lt (pe_op op_mod (pv 0) pe_int) pe_int (nomark _))
  (pss_one (ps_ret (pe_op op_sub (pe_op op_mod (pe_op op_fdiv (pv 0) pe_int) pe_int) pe_int)))
  pss_nil)
  (pss_one (ps_ret (pe_op op_add (pe_op op_sub (pe_op op_mod (pe_op op_fdiv (pv 0) pe_int) (pe_op op_sub (pe_op op_mul pe_int (pe_op op_pow pe_int pe_int)) pe_int)) (pe_op op_pow pe_int pe_int)) pe_int)))), ?_⟩
    unfold numG at k
    repeat walk_at "sx"
    refine st_I (by show (0 : Int) < 3; decide) ?_
    repeat walk_at "sx"
    refine ite3 (fun h => ?_) (fun h => ?_)
    · have h3 : n % 3 < 2 := of_decide_eq_true h
      rw [if_pos h3] at k
      repeat walk_at "sx"
      refine st_I ⟨by decide, by decide⟩ ?_
      repeat walk_at "sx"
      refine st_I (by show (0 : Int) < 5; decide) ?_
      repeat walk_at "sx"
      exact k
    · have h3 : ¬ n % 3 < 2 := of_decide_eq_false h
      rw [if_neg h3] at k
      repeat walk_at "sx"
      refine st_I ⟨by decide, by decide⟩ ?_
      repeat walk_at "sx"
      refine st_I ⟨by decide, by decide, by decide⟩ ?_
      refine st_I (.inl ⟨by decide, by decide⟩) ?_
      repeat walk_at "sx"
      refine st_I (by decide) ?_
      repeat walk_at "sx"
      refine st_I ⟨by decide, by decide, by decide⟩ ?_
      repeat walk_at "sx"
      exact k
theorem scstCut : FnScope ["self", "path", "names", "boxes", "lowest"] ["self", "path"] (defScope sstCut) := ⟨rfl, rfl, rfl, by decide +kernel, rfl, by decide +kernel, by decide +kernel⟩
theorem ok_stCut {f : Addr} {fd : FuncData} (F : Fun K "cut" "Store.cut" sstCut f fd) (T : Txt K mg C_Pile C_Store E_NoBox E_SnapError E_BadPath E_BadNumber E_LeafThere E_BranchThere E_Nothing E_NoShot Pt_is_name Pt_branch) (C : Cs_stCut P w K mg base C_Pile C_Store E_NoBox E_SnapError E_BadPath E_BadNumber E_LeafThere E_BranchThere E_Nothing E_NoShot Pt_is_name Pt_branch) : FnOk P w K mg base (L2N.CX P w) 6 f fd ["self", "path"] (spCut K C_Store C_Pile (exA E_BadPath E_BadNumber E_Nothing E_LeafThere E_BranchThere E_NoShot) Pt_branch Pt_is_name) := by
  refine F.okN scstCut (fun vs H Q E h => ?_) (fun cdv A' outer s H vs Q E hr h => ?_)
  · obtain ⟨B, X, x, o, rfl, _⟩ := h
    rfl
  · obtain ⟨B, X, x, o, rfl, st, ok, hx, hm, tb, tn, k⟩ := h
    refine ⟨_, (pss_cons (ps_set (i := 2) scstCut.nd rfl (Or.inl rfl) (pe_dE C.namesBelow (hr.mono (by decide)) rfl (L2N.takes_of rfl rfl rfl rfl) (pa_cons (pv 1) pa_nil)))
  (pss_cons (ps_set (i := 3) scstCut.nd rfl (Or.inl rfl) (pe_d0 C.boxesOn (hr.mono (by decide)) rfl (pa_cons (pe_fldK (K := K) rfl (pv 0) rfl) (pa_cons (pe_fldK (K := K) rfl (pv 0) rfl) (pa_cons (pv 2) pa_nil)))))
  (pss_cons (ps_if (pt_cmpR oIsNo (pe_ix (ixL (K := K) rfl) (pv 3) (pe_un un_neg pe_int) (fun _ _ => rfl)) pe_non (nomark _))
  (pss_one (L2N.ps_raise rfl (L2N.takes_of rfl rfl rfl rfl) (L2N.pmk_own PySem.F.excBase_ValueError T.x_Nothing T.mg_Nothing T.k_Nothing (raises_own T.b_Nothing T.t_Nothing) rfl)))
  pss_nil)
  (pss_cons (ps_set (i := 4) scstCut.nd rfl (Or.inl rfl) (pe_mmE (pe_fldK (K := K) rfl (pv 0) rfl) T.cl_Pile C.plBranch (hr.mono (by decide)) (L2N.takes_of rfl rfl rfl rfl) (pa_cons (pe_d0 C.without (hr.mono (by decide)) rfl (pa_cons (pe_mm (pe_fldK (K := K) rfl (pv 0) rfl) T.cl_Pile C.plRowsOf (hr.mono (by decide)) (pa_cons (pe_ix (ixL (K := K) rfl) (pv 3) (pe_un un_neg pe_int) (fun _ _ => rfl)) pa_nil)) (pa_cons (pe_ix (ixL (K := K) rfl) (pv 2) (pe_un un_neg pe_int) (fun _ _ => rfl)) pa_nil))) pa_nil)))
  (pss_one (ps_ret (pe_mm (pv 0) T.cl_Store C.stLeadTo (hr.mono (by decide)) (pa_cons (pe_slice sl_list (pv 3) po_none (po_some (pe_un un_neg pe_int))) (pa_cons (pe_slice sl_list (pv 2) po_none (po_some (pe_un un_neg pe_int))) (pa_cons (pv 4) pa_nil)))))))))), ?_⟩
    repeat walk_at "sx"
    refine ⟨x, o, rfl, hx, tn, fun ns hns hne l H1 hl g1 e1 => ?_, fun e => by rw [cutO_bad e] at k; exact k⟩
    rw [cutO_at hns hne] at k
    obtain ⟨_, h8, hok⟩ := pathOf_at hns
    obtain ⟨i, nm, rfl⟩ : ∃ i nm, ns = i ++ [nm] := ⟨ns.dropLast, ns.getLast hne, (List.dropLast_concat_getLast hne).symm⟩
    have st1 := st.gr g1
    repeat walk_at "sx"
    refine lf_fld st1.ins T.cl_Store T.n_Store_pile (sfs_lk B _ _).1 ?_
    repeat walk_at "sx"
    refine lf_fld st1.ins T.cl_Store T.n_Store__top (sfs_lk B _ _).2.1 ?_
    repeat walk_at "sx"
    refine ⟨B.A, X.S, _, X.top, l, i ++ [nm], rfl, st1.pl, ok.t.toTInv, .of e1, by omega, fun q H2 hq g2 e2 => ?_⟩
    have st2 := st1.gr g2
    have ew : (wayF X.S (some X.top) (i ++ [nm])).map oV = ((pairsF X.S (some X.top) i).map fun p => oV p.1) ++ [oV (walkF X.S (some X.top) i)] ++ [oV (walkF X.S (some X.top) (i ++ [nm]))] := by
      rw [wayF_snoc, List.map_append, wayF_split, List.map_append, List.map_map] <;> rfl
    rw [ew] at e2
    rw [List.map_append] at e1
    have hpl := pairsF_len X.S (some X.top) i
    rw [List.length_append, List.length_singleton] at h8
    unfold TS.cutF at k
    repeat walk_at "sx"
    refine st_un ?_
    repeat walk_at "sx"
    refine st_rU ?_
    refine st_ixL (.of e2) atI_m1 ?_
    cases e : walkF X.S (some X.top) (i ++ [nm]) with
    | none =>
      rw [e] at k
      dsimp only [oV]
      repeat walk_at "sx"
      exact k H2 (g1.trans g2)
    | some y =>
      rw [e] at k
      dsimp only at k
      rw [List.dropLast_concat, List.getLastD_concat] at k
      have make : SDid K C_Store C_Pile H B (X.cutN i nm).1 (Q (.int (X.cutN i nm).2)) := k
      rw [e] at e2
      dsimp only [oV]
      repeat walk_at "sx"
      refine lf_fld st2.ins T.cl_Store T.n_Store_pile (sfs_lk B _ _).1 ?_
      refine st2.pl.fm (by decide +kernel) (by decide +kernel) (by decide +kernel) (by decide +kernel) ?_
      repeat walk_at "sx"
      refine lf_fld st2.ins T.cl_Store T.n_Store_pile (sfs_lk B _ _).1 ?_
      refine st2.pl.fm (by decide +kernel) (by decide +kernel) (by decide +kernel) (by decide +kernel) ?_
      repeat walk_at "sx"
      refine st_un ?_
      repeat walk_at "sx"
      refine st_rU ?_
      refine st_ixL (.of e2) atI_m2 ?_
      repeat walk_at "sx"
      refine ⟨B.A, X.S, walkF X.S (some X.top) i, rfl, st2.pl, fun t us H3 g3 ht3 hp3 _ => ?_⟩
      obtain ⟨s1, s2, s3⟩ := rowsO_srt ok.t.toTInv (walkF X.S (some X.top) i)
      have kl := ok.t.rowsLen (walkF X.S (some X.top) i)
      have kl2 := delR_len (rowsO X.S (walkF X.S (some X.top) i)) nm
      repeat walk_at "sx"
      refine st_un ?_
      repeat walk_at "sx"
      refine st_rU ?_
      refine st_ixL (.of (g3.lst (g2.lst e1))) atI_m1 ?_
      repeat walk_at "sx"
      refine ⟨t, us, _, nm, rfl, .inr ht3, hp3, s1, by omega, fun l4 ys H4 hl4 g4 e4 hp4 => ?_⟩
      have st4 := (st2.gr g3).gr g4
      have g14 := ((g1.trans g2).trans g3).trans g4
      repeat walk_at "sx"
      refine ⟨B.A, X.S, l4, ys, (delR (rowsO X.S (walkF X.S (some X.top) i)) nm).map rwV, rfl, st4.pl, .of e4, hp4.pv, by rw [List.length_map]; omega, by omega, g14.tab _ tb, .inl ⟨_, rfl, fun r hr' => ?_, fun H5 g5 pl5 => ?_⟩⟩
      · obtain ⟨x, ex⟩ := Option.isSome_iff_exists.mp (s3 r (mem_delR hr'))
        exact ⟨r.2, x, rfl, ex⟩
      have st5 := st4.pile g5 pl5
      have tm : TMid (mkB X.S (delR (rowsO X.S (walkF X.S (some X.top) i)) nm)) (X.top :: X.shots.map (·.2)) ((X.S.made : Int) + 1) := ok.t.mkB (s1.del nm) (fun r hr' => s2 r (mem_delR hr')) (fun r hr' => s3 r (mem_delR hr')) (by omega) (by omega)
      have ext : Ext X.S (mkB X.S (delR (rowsO X.S (walkF X.S (some X.top) i)) nm)) := Ext.mkB _ _
      have hmk := mkB_made X.S (delR (rowsO X.S (walkF X.S (some X.top) i)) nm)
      repeat walk_at "sx"
      refine st5.fm (by decide +kernel) (by decide +kernel) (by decide +kernel) (by decide +kernel) ?_
      repeat walk_at "sx"
      refine st_un ?_
      repeat walk_at "sx"
      refine st_rU ?_
      repeat walk_at "sx"
      refine st_slL (.of (g5.lst (g4.lst (g3.lst e2)))) ?_
      rw [cutV_m2]
      walk_at "new"; rename_i q6 hq6 H6 g6 e6
      repeat walk_at "sx"
      refine st_un ?_
      repeat walk_at "sx"
      refine st_rU ?_
      repeat walk_at "sx"
      refine st_slL (.of (g6.lst (g5.lst (g4.lst (g3.lst (g2.lst e1)))))) ?_
      rw [show ([nm].map V.str : List V) = [V.str nm] from rfl, cutV_m1]
      walk_at "new"; rename_i q7 hq7 H7 g7 e7
      repeat walk_at "sx"
      refine ⟨B, _, _, q6, q7, pairsF X.S (some X.top) i, _, rfl, (st5.gr g6).gr g7, .of (g7.lst e6), .of (by rw [← pairsF_snd X.S (some X.top) i, List.map_map] at e7; exact e7), by omega, tm, fun p hp => ?_, ?_, ext.is ok.is (ok.t.toTInv.le ok.is), g7.tab _ (g6.tab _ (g5.tab _ (g14.tab _ tb))), fun H8 g8 st8 => ?_⟩
      · obtain ⟨f, m⟩ := ok.t.toTInv.pairs i ok.fit p hp
        exact ⟨fun y ey => ext.is (f y ey) (ok.t.toTInv.le (f y ey)), hok _ (List.mem_append_left _ m)⟩
      · show (mkB X.S (delR (rowsO X.S (walkF X.S (some X.top) i)) nm)).made + _ ≤ 2900
        omega
      · exact make H8 ((((Gx.of g14).trans g5.sa).then (g6.trans g7)).trans g8) st8
end
section
variable {P : Program} {w : World} {K : PySem.W.Frag} {mg : Str → Option Value} {base : Heap} {C_Pile C_Store E_NoBox E_SnapError E_BadPath E_BadNumber E_LeafThere E_BranchThere E_Nothing E_NoShot Pt_is_name Pt_branch : Addr}
theorem scsideBy : FnScope ["before", "after", "first", "second", "names", "name"] ["before", "after"] (defScope ssideBy) := ⟨rfl, rfl, rfl, by decide +kernel, rfl, by decide +kernel, by decide +kernel⟩
theorem ok_sideBy {f : Addr} {fd : FuncData} (F : Fun K "_side_by_side" "_side_by_side" ssideBy f fd) (T : Txt K mg C_Pile C_Store E_NoBox E_SnapError E_BadPath E_BadNumber E_LeafThere E_BranchThere E_Nothing E_NoShot Pt_is_name Pt_branch) : FnOk P w K mg base (L2N.CX P w) 1 f fd ["before", "after"] (spSideBy K) := by
  refine F.okN scsideBy (fun vs H Q E h => ?_) (fun cdv A' outer s H vs Q E hr h => ?_)
  · obtain ⟨t1, t2, us1, us2, a, b, rfl, _⟩ := h
    rfl
  · obtain ⟨t1, t2, us1, us2, a, b, rfl, ht1, ht2, hp1, hp2, sa, sb, la, lb, k⟩ := h
    have hu := hu_of hr
    refine ⟨_, (pss_cons (ps_set (i := 2) scsideBy.nd rfl (Or.inr rfl) (pe_callTy (call_dictG rfl) (by rfl) T.dict PyProof.Rows.boot_dict (pa_cons (pv 0) pa_nil)))
  (pss_cons (ps_set (i := 3) scsideBy.nd rfl (Or.inr rfl) (pe_callTy (call_dictG rfl) (by rfl) T.dict PyProof.Rows.boot_dict (pa_cons (pv 1) pa_nil)))
  (pss_cons (ps_set (i := 4) scsideBy.nd rfl (Or.inl rfl) (pe_callB (cr_sortedDSA rfl) (by rfl) T.sorted boot_sorted (pa_cons (pe_dmerge (pv 2) (pv 3)) pa_nil)))
  (pss_one (ps_ret (pe_lc (own := [("name", 5)]) (g := gName 5) (tt := tYes) rfl scsideBy.nd (pi_list (pv 4)) (blkOk_by (N := ["before", "after", "first", "second", "names", "name"]) (sc := defScope ssideBy) (by decide +kernel)) (fun _ _ _ _ _ => pg_name (i := 5) scsideBy.nd rfl (Or.inl rfl)) (fun _ _ _ _ _ => pts_nil) (fun _ _ _ _ _ => (pe_tup (pa_cons (pv 5) (pa_cons (pe_dget2 hu (pv 2) (pv 5) pe_non ⟨rfl, rfl, rfl, rfl⟩) (pa_cons (pe_dget2 hu (pv 3) (pv 5) pe_non ⟨rfl, rfl, rfl, rfl⟩) pa_nil))))))))))), ?_⟩
    repeat walk_at "sx"
    refine ⟨t1, us1, a, rfl, ht1, hp1, fun d1 hd1 => ?_⟩
    rw [rowKv_new sa]
    generalize hH1 : upd H d1 (.dK (rowKv a)) = H1
    have g1 := gr_of hd1 hH1
    have e1 : H1 d1 = some (.dK (rowKv a)) := at_of hH1
    repeat walk_at "sx"
    refine ⟨t2, us2, b, rfl, g1.frz.gt ht2, hp2.gr g1, fun d2 hd2 => ?_⟩
    rw [rowKv_new sb]
    generalize hH2 : upd H1 d2 (.dK (rowKv b)) = H2
    have g2 := gr_of hd2 hH2
    have e2 : H2 d2 = some (.dK (rowKv b)) := at_of hH2
    have e12 := g2.dK e1
    repeat walk_at "sx"
    intro p hp
    have np1 : d1 ≠ p := ne_of_none e12 hp
    have np2 : d2 ≠ p := ne_of_none e2 hp
    obtain ⟨s1, h1, m1⟩ := TxK.merge a (kvs := []) (ss := []) ⟨rfl, List.nodup_nil⟩
    obtain ⟨s2, h2, m2⟩ := TxK.merge b h1
    have hlen : s2.length ≤ 10000 := by
      have z1 := congrArg List.length h2.1
      rw [List.length_map, List.length_map] at z1
      have z2 := length_mergeK (rowKv b) (mergeK [] (rowKv a))
      have z3 := length_mergeK (rowKv a) []
      unfold rowKv at z2 z3
      rw [List.length_map] at z2 z3
      rw [List.length_nil] at z3
      rw [← z1]
      unfold rowKv
      omega
    have lka : (rowKv a).length ≤ 1000000 := by unfold rowKv; rw [List.length_map]; omega
    have lkb : (rowKv b).length ≤ 1000000 := by unfold rowKv; rw [List.length_map]; omega
    repeat walk_at "sx"
    refine ⟨d1, rowKv a, rfl, np1, by rw [upd_ne np1]; exact e12, upd_same, lka, ?_⟩
    repeat walk_at "sx"
    refine ⟨d2, rowKv b, rfl, np2, by rw [upd_ne np2, upd_ne np2]; exact e2, upd_same, lkb, ?_⟩
    rw [upd_upd, upd_upd]
    generalize hH3 : upd H2 p _ = H3
    have g3 := gr_of hp hH3
    have e3 := at_of hH3
    repeat walk_at "sx"
    refine ⟨p, _, s2, rfl, .inl e3, h2.1, by omega, fun ys q hpm hs hq => ?_⟩
    have ey : ys = uniN a b := uni_sorted hs (hpm.nodup_iff.mpr h2.2) fun x => by rw [hpm.mem_iff, m2, m1]; simp
    generalize hH4 : upd H3 q _ = H4
    have g4 := gr_of hq hH4
    have e4 : H4 q = some (.lst (ys.map V.str)) := at_of hH4
    have yl : ys.length ≤ 10000 := by rw [hpm.length_eq]; exact hlen
    have g34 := g3.trans g4
    repeat walk_at "sx"
    refine st_exL (.of e4) ?_
    refine lc_acc (n := (ys.map V.str).length) (Y := fun i x => (ys.map V.str)[i]? = some x) walk_list (fun H' g => g.l (.of e4)) (fun i acc H' => Trs K H' acc ((sideF a b).take i)) (fun H5 _ => by rw [List.take_zero]; exact .nil) (fun i acc H H' g h => h.gr g) (fun i acc H D xs zs e _ h => h.mut e) ?_ (fun D acc H5 hD g5 e5 _ h => ?_) (by rw [List.length_map]; omega) (fun _ => rfl)
    · intro i x acc H5 hi hx g5 a5 Qy Qn q1 q2
      rw [List.getElem?_map] at hx
      obtain ⟨m, em, rfl⟩ := Option.map_eq_some_iff.mp hx
      have f1 : H5 d1 = some (.dK (rowKv a)) := g5.dK (g34.dK e12)
      have f2 : H5 d2 = some (.dK (rowKv b)) := g5.dK (g34.dK e2)
      repeat walk_at "sx"
      refine st_dget2 ?_
      repeat walk_at "sx"
      refine ⟨d1, rfl, .inl ⟨_, .inl f1⟩, ?_⟩
      repeat walk_at "sx"
      refine ⟨_, DGet.k (k := .inr m) f1, ?_⟩
      rw [rowKv_val, getD_map]
      repeat walk_at "sx"
      refine st_dget2 ?_
      repeat walk_at "sx"
      refine ⟨d2, rfl, .inl ⟨_, .inl f2⟩, ?_⟩
      repeat walk_at "sx"
      refine ⟨_, DGet.k (k := .inr m) f2, ?_⟩
      rw [rowKv_val, getD_map]
      repeat walk_at "sx"
      refine ⟨by show 3 ≤ sizeLine; decide, ?_⟩
      walk_at "new"; rename_i t ht H6 g6 e6
      refine q1 _ H6 g6 ?_
      have es : (sideF a b)[i]? = some (m, findR a m, findR b m) := by
        unfold sideF
        rw [← ey, List.getElem?_map, em] <;> rfl
      obtain ⟨hi2, ei⟩ := List.getElem?_eq_some_iff.mp es
      rw [List.take_succ_eq_append_getElem hi2, ei]
      exact pd_snoc (a5.gr g6) ⟨t, rfl, .of e6⟩
    · have hl : (ys.map V.str).length = (sideF a b).length := by
        unfold sideF
        rw [List.length_map, List.length_map, ey]
      rw [hl, List.take_length] at h
      exact k D acc H5 ((((g1.trans g2).trans g34)).free hD) (((g1.trans g2).trans g34).trans g5) e5 h
end
section
variable {P : Program} {w : World} {K : PySem.W.Frag} {mg : Str → Option Value} {base : Heap} {C_Pile C_Store E_NoBox E_SnapError E_BadPath E_BadNumber E_LeafThere E_BranchThere E_Nothing E_NoShot Pt_is_name Pt_branch : Addr}
theorem sccompare : FnScope ["pile", "path", "before", "after", "found", "first", "second", "looked", "name", "box", "other"] ["pile", "path", "before", "after", "found"] (defScope scompare) := ⟨rfl, rfl, rfl, by decide +kernel, rfl, by decide +kernel, by decide +kernel⟩
theorem ok_compare {f : Addr} {fd : FuncData} (F : Fun K "compare" "compare" scompare f fd) (T : Txt K mg C_Pile C_Store E_NoBox E_SnapError E_BadPath E_BadNumber E_LeafThere E_BranchThere E_Nothing E_NoShot Pt_is_name Pt_branch) (C : Cs_compare P w K mg base C_Pile C_Store E_NoBox E_SnapError E_BadPath E_BadNumber E_LeafThere E_BranchThere E_Nothing E_NoShot Pt_is_name Pt_branch) (me : mg "compare" = some (.ref f) ∧ PySem.W.keepIn K (.ref f) = true ∧ Binds K fd ["pile", "path", "before", "after", "found"] []) : FnOk P w K mg base (L2N.CX P w) 12 f fd ["pile", "path", "before", "after", "found"] (spCompare K C_Pile 9) := by
  have all : ∀ n, FnOk P w K mg base (L2N.CX P w) (n + 3) f fd ["pile", "path", "before", "after", "found"] (spCompare K C_Pile n) := fun n => by
    induction n with
    | zero =>
      refine F.okN sccompare (fun vs H Q E h => ?_) (fun cdv A' outer s H vs Q E hr h => ?_)
      · obtain ⟨A, S, R, N, pl, fl, p, fs, a, b, rfl, _⟩ := h
        rfl
      · obtain ⟨A, S, R, N, pl, fl, p, fs, a, b, rfl, pa, ti, fa, fb, epl, efl, hN, hfr, hpl, hp, hz, k⟩ := h
        have ne := hN pl hpl
        obtain ⟨e1, e2⟩ := cmpF_zero p fa fb
        subst e1
        refine ⟨_, (pss_cons (ps_if (pt_cmpR op_eq (pv 2) (pv 3) (nomark _)) (pss_one (ps_ret pe_int)) pss_nil) pss_never), ?_⟩
        repeat walk_at "sx"
        refine st_eqO ?_
        rw [decide_eq_true rfl]
        repeat walk_at "sx"
        rw [e2] at k
        exact k [] H (Gl.of (Gr.refl H)) (by rw [List.append_nil]; exact efl) .nil
    | succ n ih =>
      have cs : Df P w K mg base (n + 3) "compare" ["pile", "path", "before", "after", "found"] (spCompare K C_Pile n) := ⟨⟨f, fd, ih, me⟩⟩
      refine F.okN sccompare (fun vs H Q E h => ?_) (fun cdv A' outer s H vs Q E hr h => ?_)
      · obtain ⟨A, S, R, N, pl, fl, p, fs, a, b, rfl, _⟩ := h
        rfl
      · obtain ⟨A, S, R, N, pl, fl, p, fs, a, b, rfl, pa, ti, fa, fb, epl, efl, hN, hfr, hpl, hp, hz, k⟩ := h
        have ne := hN pl hpl
        have hr : Room (n + 3) _ := hr
        refine ⟨_, (pss_cons (ps_if (pt_cmpR op_eq (pv 2) (pv 3) (nomark _))
  (pss_one (ps_ret pe_int))
  pss_nil)
  (pss_cons (ps_set (i := 5) sccompare.nd rfl (Or.inl rfl) (pe_mm (pv 0) T.cl_Pile C.plNumberOf (hr.mono (by omega)) (pa_cons (pv 2) pa_nil)))
  (pss_cons (ps_set (i := 6) sccompare.nd rfl (Or.inl rfl) (pe_mm (pv 0) T.cl_Pile C.plNumberOf (hr.mono (by omega)) (pa_cons (pv 3) pa_nil)))
  (C8.pss_cut (ps_if (pt_cmpR op_ne (pv 5) (pv 6) (nomark _))
  (pss_one (ps_expr (pe_bm PySem.F.plainAttrs_list PySem.F.slot_list_append PySem.F.type_list_append mt_append (pv 4) (pa_cons (pe_tup (pa_cons (pv 1) (pa_cons (pv 5) (pa_cons (pv 6) pa_nil)))) pa_nil))))
  pss_nil)
  (pss_cons (ps_set (i := 7) sccompare.nd rfl (Or.inl rfl) pe_int)
  (pss_cons (ps_for (passes_of rfl) rfl (pi_list (pe_d0 C.sideBy (hr.mono (by omega)) rfl (pa_cons (pe_mm (pv 0) T.cl_Pile C.plRowsOf (hr.mono (by omega)) (pa_cons (pv 2) pa_nil)) (pa_cons (pe_mm (pv 0) T.cl_Pile C.plRowsOf (hr.mono (by omega)) (pa_cons (pv 3) pa_nil)) pa_nil)))) (pg_tup (by rfl) (pgs_cons (pg_name (i := 8) sccompare.nd rfl (Or.inl rfl)) (pgs_cons (pg_name (i := 9) sccompare.nd rfl (Or.inl rfl)) (pgs_cons (pg_name (i := 10) sccompare.nd rfl (Or.inl rfl)) pgs_nil))))
  (pss_one (ps_aug (i := 7) sccompare.nd rfl (Or.inl rfl) (pe_d0 cs (hr.mono (by omega)) rfl (pa_cons (pv 0) (pa_cons (pe_op op_cat (pv 1) (pe_lst (pa_cons (pv 8) pa_nil))) (pa_cons (pv 9) (pa_cons (pv 10) (pa_cons (pv 4) pa_nil)))))) ip_add)))
  (pss_one (ps_ret (pv 7))))))))), ?_⟩
        repeat walk_at "sx"
        refine st_eqO ?_
        by_cases hab : a = b
        · subst hab
          rw [decide_eq_true rfl]
          repeat walk_at "sx"
          rw [cmpF_same] at k
          exact k [] H (Gl.of (Gr.refl H)) (by rw [List.append_nil]; exact efl) .nil
        rw [decide_eq_false hab]
        obtain ⟨ec1, ec2⟩ := cmpF_succ S n p hab
        repeat walk_at "sx"
        refine pa.fm (by decide +kernel) (by decide +kernel) (by decide +kernel) (by decide +kernel) ?_
        repeat walk_at "sx"
        refine ⟨A, S, a, rfl, pa, ?_⟩
        repeat walk_at "sx"
        refine pa.fm (by decide +kernel) (by decide +kernel) (by decide +kernel) (by decide +kernel) ?_
        repeat walk_at "sx"
        refine ⟨A, S, b, rfl, pa, ?_⟩
        generalize hhd : (if numB (bxO S a) = numB (bxO S b) then [] else [(p, numB (bxO S a), numB (bxO S b))] : List Chg) = hd at ec1
        generalize hsub : ((uniN (rowsO S a) (rowsO S b)).map fun m => cmpF S n (p ++ [m]) (nextF S a m) (nextF S b m)) = sub
        have es1 : (cmpF S (n + 1) p a b).1 = hd ++ (sub.map (·.1)).flatten := by rw [ec1, ← hsub, List.map_map] <;> rfl
        have es2 : (cmpF S (n + 1) p a b).2 = 1 + (sub.map (·.2)).sum := by rw [ec2, ← hsub, List.map_map] <;> rfl
        repeat walk_at "sx"
        refine st_cut (fun σ' H' => σ' = [some (.ref A.p), some (.ref pl), some (oV a), some (oV b), some (.ref fl), some (numB (bxO S a)), some (numB (bxO S b)), none, none, none, none] ∧ Gl fl H H' ∧ ∃ g0, H' fl = some (.lst (fs ++ g0)) ∧ Chgs K H' N g0 hd) ?_ ?_
        · repeat walk_at "sx"
          refine st_neN ?_
          by_cases hn : numB (bxO S a) = numB (bxO S b)
          · rw [decide_eq_true hn]
            rw [if_pos hn] at hhd
            subst hhd
            repeat walk_at "sx"
            exact ⟨rfl, Gl.of (Gr.refl H), [], by rw [List.append_nil]; exact efl, .nil⟩
          · rw [decide_eq_false hn]
            rw [if_neg hn] at hhd
            subst hhd
            repeat walk_at "sx"
            refine st_tyL (.of efl) ?_
            repeat walk_at "sx"
            refine ⟨by show 3 ≤ sizeLine; decide, ?_⟩
            walk_at "new"; rename_i t ht H1 g1 e1
            have efl1 := g1.lst efl
            rw [es1] at hz
            repeat walk_at "sx"
            refine st_append efl1 (sz_lt (by rw [List.length_append, List.length_singleton] at hz; omega)) ?_
            refine ⟨rfl, (Gl.of g1).trans (Gl.put efl1), _, upd_same, .cons ⟨t, pl, rfl, sqT_mut efl1 (.of e1), ?_, hpl⟩ .nil⟩
            rw [upd_ne ne]
            exact g1.lst epl
        · rintro σ' H1 ⟨rfl, x1, g0, e1, c1⟩
          have pa1 := x1.pile efl pa
          have epl1 : H1 pl = some (.lst (p.map V.str)) := x1.keep _ _ epl ne (fun _ z => by cases z)
          repeat walk_at "sx"
          refine pa1.fm (by decide +kernel) (by decide +kernel) (by decide +kernel) (by decide +kernel) ?_
          repeat walk_at "sx"
          refine ⟨A, S, a, rfl, pa1, fun t1 us1 H2 g2 ht1 hp1 gt1 => ?_⟩
          have pa2 := pa1.gr g2
          repeat walk_at "sx"
          refine pa2.fm (by decide +kernel) (by decide +kernel) (by decide +kernel) (by decide +kernel) ?_
          repeat walk_at "sx"
          refine ⟨A, S, b, rfl, pa2, fun t2 us2 H3 g3 ht2 hp2 gt2 => ?_⟩
          repeat walk_at "sx"
          refine ⟨t1, t2, us1, us2, rowsO S a, rowsO S b, rfl, g3.frz.gt gt1, gt2, hp1.gr g3, hp2, (rowsO_srt ti a).1, (rowsO_srt ti b).1, rows_le ti a, rows_le ti b, fun l3 ts H4 hl3 g4 e4 tr => ?_⟩
          have g14 := (g2.trans g3).trans g4
          have e14 : H4 fl = some (.lst (fs ++ g0)) := g14.lst e1
          have nl3 : l3 ≠ fl := fun z => by
            rw [z] at hl3
            have := (g2.trans g3).lst e1
            rw [hl3] at this
            cases this
          have htl : ts.length = sub.length := by
            rw [pd_len tr, ← hsub, List.length_map]
            unfold sideF
            rw [List.length_map]
          rw [es1] at hz
          have hgl : g0.length = hd.length := pd_len c1
          refine st_exL (.of e4) ?_
          refine st_loopG (n := _) (Y := fun i x => ts[i]? = some x) walk_list (fun i σ' H' => ∃ (gs : List V) (u8 u9 u10 : Option V) (lk : Nat), σ' = [some (.ref A.p), some (.ref pl), some (oV a), some (oV b), some (.ref fl), some (numB (bxO S a)), some (numB (bxO S b)), some (.int (lk : Int)), u8, u9, u10] ∧ Gl fl H4 H' ∧ H' fl = some (.lst (fs ++ gs)) ∧ Chgs K H' N gs (hd ++ ((sub.take i).map (·.1)).flatten) ∧ lk = 1 + ((sub.take i).map (·.2)).sum)
            ⟨g0, none, none, none, 1, rfl, Gl.of (Gr.refl _), e14, ?_, rfl⟩ ?_ ?_ ?_
          · rw [List.take_zero, List.map_nil, List.flatten_nil, List.append_nil]
            exact Chgs.gl hN e1 (Gl.of g14) c1
          · rintro i σ' H' _ ⟨gs, u8, u9, u10, lk, rfl, x5, _⟩
            exact .of (x5.keep _ _ e4 nl3 (fun _ z => by cases z))
          · rintro i x σ' H5 hi ⟨gs, u8, u9, u10, lk, rfl, x5, e5, c5, elk⟩ hx
            obtain ⟨r, er, t, rfl, ht⟩ := pd_at (tr.gl e14 x5) hx
            obtain ⟨m, em, rfl⟩ : ∃ m, (uniN (rowsO S a) (rowsO S b))[i]? = some m ∧ r = (m, findR (rowsO S a) m, findR (rowsO S b) m) := by
              unfold sideF at er
              rw [List.getElem?_map] at er
              obtain ⟨m, e1, e2⟩ := Option.map_eq_some_iff.mp er
              exact ⟨m, e1, e2.symm⟩
            have esub : sub[i]? = some (cmpF S n (p ++ [m]) (nextF S a m) (nextF S b m)) := by rw [← hsub, List.getElem?_map, em] <;> rfl
            obtain ⟨tf1, tf2, tf3⟩ := take_flat esub
            have pa5 : PileAt K C_Pile H5 A S := x5.pile e14 ((pa2.gr g3).gr g4)
            have epl5 : H5 pl = some (.lst (p.map V.str)) := x5.keep _ _ (g14.lst epl1) ne (fun _ z => by cases z)
            refine st_g3 ht ?_
            repeat walk_at "sx"
            refine st_aug rfl ?_
            repeat walk_at "sx"
            refine ⟨by show 1 ≤ sizeLine; decide, ?_⟩
            walk_at "new"; rename_i l6 hl6 H6 g6 e6
            refine st_cat (g6.lst epl5) e6 (sz_of (by rw [List.length_map, List.length_singleton]; omega)) ?_
            walk_at "new"; rename_i l7 hl7 H7 g7 e7
            have g57 := g6.trans g7
            have e57 := g57.lst e5
            have n7 : l7 ≠ fl := fun z => by
              rw [z] at hl7
              have := g6.lst e5
              rw [hl7] at this
              cases this
            have hgs : gs.length = (hd ++ ((sub.take i).map (·.1)).flatten).length := pd_len c5
            rw [List.length_append] at hgs hz
            repeat walk_at "sx"
            have up : ∀ b, H7 b = none → H b = none := fun b hb => x1.free (g14.free (x5.free (g57.free hb)))
            refine ⟨A, S, R, N, l7, fl, p ++ [m], fs ++ gs, nextF S a m, nextF S b m, rfl, pa5.gr g57, ti, fa.next m, fb.next m, by rw [e7, List.map_append] <;> rfl, e57, hN, fun b hb => hfr b (up b hb), hfr l7 (x1.free (g14.free (x5.free (g6.free hl7)))), by rw [List.length_append, List.length_singleton]; omega, by rw [List.length_append]; omega, fun g8 H8 x8 e8 c8 => ?_⟩
            repeat walk_at "sx"
            refine st_ipI ?_
            refine ⟨gs ++ g8, _, _, _, lk + (cmpF S n (p ++ [m]) (nextF S a m) (nextF S b m)).2, rfl, (x5.trans (Gl.of g57)).trans x8, by rw [← List.append_assoc]; exact e8, ?_, ?_⟩
            · rw [tf2, ← List.append_assoc]
              exact pd_app (Chgs.gl hN e57 x8 (Chgs.gl hN e5 (Gl.of g57) c5)) c8
            · rw [tf3, List.sum_append, elk]
              simp
              omega
          · rintro σ' H5 ⟨gs, u8, u9, u10, lk, rfl, x5, e5, c5, elk⟩
            rw [htl, List.take_length] at c5 elk
            repeat walk_at "sx"
            rw [es1, es2] at k
            rw [elk]
            exact k gs H5 ((x1.trans (Gl.of g14)).trans x5) e5 c5
  exact all 9
end
section
variable {P : Program} {w : World} {K : PySem.W.Frag} {mg : Str → Option Value} {base : Heap} {C_Pile C_Store E_NoBox E_SnapError E_BadPath E_BadNumber E_LeafThere E_BranchThere E_Nothing E_NoShot Pt_is_name Pt_branch : Addr}
theorem scstChanges : FnScope ["self", "one", "other", "before", "after", "found", "looked"] ["self", "one", "other"] (defScope sstChanges) := ⟨rfl, rfl, rfl, by decide +kernel, rfl, by decide +kernel, by decide +kernel⟩
theorem ok_stChanges {f : Addr} {fd : FuncData} (F : Fun K "changes" "Store.changes" sstChanges f fd) (T : Txt K mg C_Pile C_Store E_NoBox E_SnapError E_BadPath E_BadNumber E_LeafThere E_BranchThere E_Nothing E_NoShot Pt_is_name Pt_branch) (C : Cs_stChanges P w K mg base C_Pile C_Store E_NoBox E_SnapError E_BadPath E_BadNumber E_LeafThere E_BranchThere E_Nothing E_NoShot Pt_is_name Pt_branch) : FnOk P w K mg base (L2N.CX P w) 13 f fd ["self", "one", "other"] (spChanges K C_Store C_Pile (exA E_BadPath E_BadNumber E_Nothing E_LeafThere E_BranchThere E_NoShot)) := by
  refine F.okN scstChanges (fun vs H Q E h => ?_) (fun cdv A' outer s H vs Q E hr h => ?_)
  · obtain ⟨B, X, x, y, v1, v2, z1, z2, rfl, _⟩ := h
    rfl
  · obtain ⟨B, X, x, y, v1, v2, z1, z2, rfl, st, ok, hv1, hv2, e1, e2, f1, f2, hz, k⟩ := h
    refine ⟨_, (pss_cons (ps_set (i := 3) scstChanges.nd rfl (Or.inl rfl) (pe_mmE (pv 0) T.cl_Store C.stTop (hr.mono (by decide)) (L2N.takes_of rfl rfl rfl rfl) (pa_cons (pv 1) pa_nil)))
  (pss_cons (ps_set (i := 4) scstChanges.nd rfl (Or.inl rfl) (pe_mmE (pv 0) T.cl_Store C.stTop (hr.mono (by decide)) (L2N.takes_of rfl rfl rfl rfl) (pa_cons (pv 2) pa_nil)))
  (pss_cons (ps_set (i := 5) scstChanges.nd rfl (Or.inl rfl) (pe_lst pa_nil))
  (pss_cons (ps_set (i := 6) scstChanges.nd rfl (Or.inl rfl) (pe_d0 C.compare (hr.mono (by decide)) rfl (pa_cons (pe_fldK (K := K) rfl (pv 0) rfl) (pa_cons (pe_lst pa_nil) (pa_cons (pv 3) (pa_cons (pv 4) (pa_cons (pv 5) pa_nil)))))))
  (pss_one (ps_ret (pe_tup (pa_cons (pv 5) (pa_cons (pv 6) pa_nil))))))))), ?_⟩
    repeat walk_at "sx"
    refine st.fm (by decide +kernel) (by decide +kernel) (by decide +kernel) (by decide +kernel) ?_
    repeat walk_at "sx"
    refine ⟨B, X, x, v1, rfl, st, hv1, ?_⟩
    rw [e1]
    repeat walk_at "sx"
    refine st.fm (by decide +kernel) (by decide +kernel) (by decide +kernel) (by decide +kernel) ?_
    repeat walk_at "sx"
    refine ⟨B, X, y, v2, rfl, st, hv2, ?_⟩
    rw [e2]
    repeat walk_at "sx"
    refine ⟨by decide, ?_⟩
    walk_at "new"; rename_i fl hfl H3 g3 e3
    repeat walk_at "sx"
    have st3 := st.gr g3
    refine lf_fld st3.ins T.cl_Store T.n_Store_pile (sfs_lk _ _ _).1 ?_
    repeat walk_at "sx"
    refine ⟨by decide, ?_⟩
    walk_at "new"; rename_i pl hpl H4 g4 e4
    have st4 := st3.gr g4
    repeat walk_at "sx"
    refine ⟨B.A, X.S, _, fun b => H b = none ∧ b ≠ fl, pl, fl, [], [], some z1, some z2, rfl, st4.pl, ok.t.toTInv, f1, f2, e4, g4.lst e3, fun p h => h.2, fun b hb => ⟨(g3.trans g4).free hb, fun z => by rw [z, g4.lst e3] at hb; cases hb⟩, ⟨g3.free hpl, (ne_of_none e3 hpl).symm⟩, by decide, by rw [List.length_nil, Nat.zero_add]; exact hz, fun gs H5 x5 e5 c5 => ?_⟩
    repeat walk_at "sx"
    refine ⟨by show 2 ≤ sizeLine; decide, ?_⟩
    walk_at "new"; rename_i t ht H6 g6 e6
    have g05 : Gr H H5 := Gl.gr (g3.trans g4) hfl x5
    exact k t fl gs H6 (g05.free ht) hfl (g05.trans g6) e6 (g6.lst e5) (Chgs.gr g6 c5)
end
section
variable {P : Program} {w : World} {K : PySem.W.Frag} {mg : Str → Option Value} {base : Heap} {C_Pile C_Store E_NoBox E_SnapError E_BadPath E_BadNumber E_LeafThere E_BranchThere E_Nothing E_NoShot Pt_is_name Pt_branch : Addr}
theorem scdoneL : FnScope ["_law_store", "_law_cell", "_law_more"] ["_law_store", "_law_cell", "_law_more"] (defScope sdoneL) := ⟨rfl, rfl, rfl, by decide +kernel, rfl, by decide +kernel, by decide +kernel⟩
theorem ok_doneL {f : Addr} {fd : FuncData} (F : Fun K "_law_done" "_law_done" sdoneL f fd) (T : Txt K mg C_Pile C_Store E_NoBox E_SnapError E_BadPath E_BadNumber E_LeafThere E_BranchThere E_Nothing E_NoShot Pt_is_name Pt_branch) (C : Cs_doneL P w K mg base C_Pile C_Store E_NoBox E_SnapError E_BadPath E_BadNumber E_LeafThere E_BranchThere E_Nothing E_NoShot Pt_is_name Pt_branch) : FnOk P w K mg base (L2N.CX P w) 8 f fd ["_law_store", "_law_cell", "_law_more"] (spDone12 K C_Store C_Pile Pt_branch Pt_is_name) := by
  refine F.okN scdoneL (fun vs H Q E h => ?_) (fun cdv A' outer s H vs Q E hr h => ?_)
  · obtain ⟨B, X, D, c, m, rfl, _⟩ := h
    rfl
  · obtain ⟨B, X, D, c, m, rfl, st, ok, w, hm, ht, tb, tn, k⟩ := h
    have up : ∀ r, PySem.W.exmOne K (.ref ((exA E_BadPath E_BadNumber E_Nothing E_LeafThere E_BranchThere E_NoShot) r)) (.ref E_SnapError) = some true := fun r => by
      cases r
      · exact T.up_BadPath
      · exact T.up_BadNumber
      · exact T.up_Nothing
      · exact T.up_LeafThere
      · exact T.up_BranchThere
      · exact T.up_NoShot
    refine ⟨_, (pss_one (L2H.ps_try_onlyX rfl rfl ⟨rfl, by decide, .inl T.mg_SnapError⟩ (fun hd => L2H.passesAt_of rfl hd) takes0 (fun W pn xe tk _ _ => (pss_one (ps_ret (pe_dS C.askedL (hr.mono (by decide)) rfl (fun σ => L2N.passAt tk σ) (pa_cons (pv 0) (pa_cons (pv 1) (pa_cons (pv 2) pa_nil)))))))
  (fun a oe cls d pn hz hf tkO hot => (pss_one (ps_ret pe_int))))), ?_⟩
    repeat walk_at "sx"
    refine st_callS ?_
    repeat walk_at "sx"
    refine ⟨B, X, c, m, rfl, st, ok, hm, ht, tb, tn, ?_⟩
    cases e : askF X c m with
    | error r =>
      intro H' g'
      refine ⟨true, up r, fun _ a na => ?_, fun q => nomatch q⟩
      repeat walk_at "sx"
      exact k X D 0 ok w (Nat.le_succ _) (by omega) (by omega) H' (Gx.of g') (st.gr g')
    | ok x =>
      obtain ⟨X', g⟩ := x
      obtain ⟨d, h1, h2⟩ := ask_deed ok hm ht e
      obtain ⟨D', w', hl⟩ := ask_wth ok w hm e
      intro H' gx st'
      exact k X' D' g d.ok w' hl h1 h2 H' gx st'
end
section
variable {P : Program} {w : World} {K : PySem.W.Frag} {mg : Str → Option Value} {base : Heap} {C_Pile C_Store E_NoBox E_SnapError E_BadPath E_BadNumber E_LeafThere E_BranchThere E_Nothing E_NoShot Pt_is_name Pt_branch : Addr}
theorem scleavesL : FnScope ["_law_pile", "_law_top", "_law_waiting", "_law_seen", "_law_step", "_law_inside", "_law_pair"] ["_law_pile", "_law_top"] (defScope sleavesL) := ⟨rfl, rfl, rfl, by decide +kernel, rfl, by decide +kernel, by decide +kernel⟩
set_option maxHeartbeats 20000000 in
theorem ok_leavesL {f : Addr} {fd : FuncData} (F : Fun K "_law_leaves" "_law_leaves" sleavesL f fd) (T : Txt K mg C_Pile C_Store E_NoBox E_SnapError E_BadPath E_BadNumber E_LeafThere E_BranchThere E_Nothing E_NoShot Pt_is_name Pt_branch) (C : Cs_leavesL P w K mg base C_Pile C_Store E_NoBox E_SnapError E_BadPath E_BadNumber E_LeafThere E_BranchThere E_Nothing E_NoShot Pt_is_name Pt_branch) : FnOk P w K mg base (L2N.CX P w) 4 f fd ["_law_pile", "_law_top"] (spLeaves12 K C_Pile) := by
  refine F.okN scleavesL (fun vs H Q E h => ?_) (fun cdv A' outer s H vs Q E hr h => ?_)
  · obtain ⟨A, S, R, z, rfl, _⟩ := h
    rfl
  · obtain ⟨A, S, R, z, rfl, pa, ti, hz, fz, hc, k⟩ := h
    have hu := hu_of hr
    refine ⟨_, (pss_cons (ps_set (i := 2) scleavesL.nd rfl (Or.inl rfl) (pe_lst (pa_cons (pe_tup (pa_cons (pe_tup pa_nil) (pa_cons (pv 1) pa_nil))) pa_nil)))
  (pss_cons (ps_set (i := 3) scleavesL.nd rfl (Or.inl rfl) pe_dnewT)
  (pss_cons (ps_while (passes_of rfl) (pt_cmpR (oNeD (K := K) rfl hr.units) (pv 2) (pe_lst pa_nil) (nomark _))
  (pss_cons (ps_set (i := 4) scleavesL.nd rfl (Or.inr rfl) (pe_bm0 PySem.F.plainAttrs_list PySem.F.slot_list_pop PySem.F.type_list_pop mt_pop (pv 2)))
  (pss_cons (ps_set (i := 5) scleavesL.nd rfl (Or.inl rfl) (pe_mm (pv 0) T.cl_Pile C.plContent (hr.mono (by decide)) (pa_cons (pe_ix (ixT (K := K) rfl) (pv 4) pe_int (fun _ _ => rfl)) pa_nil)))
  (pss_one (ps_if (pt_cmpR op_eq (pe_ix (ixT (K := K) rfl) (pv 5) pe_int (fun _ _ => rfl)) pe_str (nomark _))
  (pss_one (ps_dput hu (pv 3) (pe_ix (ixT (K := K) rfl) (pv 4) pe_int (fun _ _ => rfl)) (pe_ix (ixT (K := K) rfl) (pv 5) pe_int (fun _ _ => rfl)) rfl))
  (pss_one (ps_set (i := 2) scleavesL.nd rfl (Or.inl rfl) (pe_op op_cat (pv 2) (pe_lc (own := [("_law_pair", 6)]) (g := gName 6) (tt := tYes) rfl scleavesL.nd (pi_list (pe_ix (ixT (K := K) rfl) (pv 5) pe_int (fun _ _ => rfl))) (blkOk_by (N := ["_law_pile", "_law_top", "_law_waiting", "_law_seen", "_law_step", "_law_inside", "_law_pair"]) (sc := defScope sleavesL) (by decide +kernel)) (fun _ _ _ _ _ => pg_name (i := 6) scleavesL.nd rfl (Or.inl rfl)) (fun _ _ _ _ _ => pts_nil) (fun _ _ _ _ _ => (pe_tup (pa_cons (pe_op (oCatA (K := K) rfl) (pe_ix (ixT (K := K) rfl) (pv 4) pe_int (fun _ _ => rfl)) (pe_tup (pa_cons (pe_ix (ixT (K := K) rfl) (pv 6) pe_int (fun _ _ => rfl)) pa_nil))) (pa_cons (pe_ix (ixT (K := K) rfl) (pv 6) pe_int (fun _ _ => rfl)) pa_nil)))))))))))))
  (pss_one (ps_ret (pv 3)))))), ?_⟩
    repeat walk_at "sx"
    refine ⟨by show 0 ≤ sizeLine; decide, ?_⟩
    walk_at "new"; rename_i a0 ha0 H1 g1 e1
    repeat walk_at "sx"
    refine ⟨by show 2 ≤ sizeLine; decide, ?_⟩
    walk_at "new"; rename_i t0 ht0 H2 g2 e2
    repeat walk_at "sx"
    refine ⟨by show 1 ≤ sizeLine; decide, ?_⟩
    walk_at "new"; rename_i l0 hl0 H3 g3 e3
    repeat walk_at "sx"
    refine st_dnewT ?_
    walk_at "new"; rename_i d hd H4 g4 e4
    have g03 := (g1.trans g2).trans g3
    have g04 := g03.trans g4
    have hdn : H d = none := g03.free hd
    repeat walk_at "sx"
    refine st_whileN (fun m σ H' => ∃ (l : Addr) (vs : List V) (W : List Wt) (kvs : List (List Key × V)) (L : List (List Str)) (u1 u2 u3 : Option V), σ = [some (.ref A.p), some (.int z), some (.ref l), some (.ref d), u1, u2, u3] ∧ Gr H H' ∧ H l = none ∧ H' l = some (.lst vs) ∧ Paired (WtAt K H') vs W ∧ H' d = some (.dT kvs) ∧ LW S z W kvs L ∧ m = wsum S W ∧ m + L.length ≤ 10000) _
      ⟨l0, _, [([], z)], [], [], none, none, none, rfl, g04, (g1.trans g2).free hl0, g4.lst e3, .cons ⟨t0, a0, rfl, .of (g4.tup (g3.tup e2)), g4.tup (g3.tup (g2.tup e1))⟩ .nil, e4, LW.start hz fz, rfl, by show cntF S 9 (some z) + 0 + 0 ≤ 10000; omega⟩ ?_ ?_
    · rintro m σ H3 ⟨l, vs, W, kvs, L, u1, u2, u3, rfl, g3, hl3, e3, pw, ed, lw, hm, hmb⟩
      have pa3 := pa.gr g3
      have hwl := wsum_len (S := S) W
      have hkl : kvs.length = L.length := by
        have := congrArg List.length lw.keys
        rw [List.length_map, List.length_map] at this
        exact this
      repeat walk_at "sx"
      refine ⟨by show 0 ≤ sizeLine; decide, ?_⟩
      walk_at "new"; rename_i q4 hq4 H4 g4 e4
      refine st_neNilD (.of (g4.lst e3)) (dpa_imp wtD (fun _ _ h => dp_wt h) (WtAt.gr g4 pw)) (fun dd hdd => by
        obtain ⟨p, hp, rfl⟩ := List.mem_map.mp hdd
        exact lay_wt (lw.at' p hp).2.2.2) (.of e4) ?_
      have g34 := g3.trans g4
      by_cases hW : W = []
      · subst hW
        have ev := pd_nil pw
        subst ev
        rw [show (!([] : List V).isEmpty) = false from rfl]
        repeat walk_at "sx"
        exact k d kvs L H4 hdn g34 (g4.keep _ _ ed (fun _ z => by cases z)) lw.fin (by omega)
      · obtain ⟨W0, p, rfl⟩ : ∃ W0 y, W = W0 ++ [y] := ⟨W.dropLast, W.getLast hW, (List.dropLast_concat_getLast hW).symm⟩
        obtain ⟨vs0, v, rfl, pw0, t, a, rfl, ht, ea⟩ := pd_unsnoc pw
        rw [show (!(vs0 ++ [V.ref t]).isEmpty) = true by simp]
        repeat walk_at "sx"
        walk_at "dx"
        repeat walk_at "sx"
        refine st_tyL (.of (g4.lst e3)) ?_
        refine st_pop (l := l) (g4.lst e3) ?_
        have e34 := g4.lst e3
        have ed4 : H4 d = some (.dT kvs) := g4.keep _ _ ed (fun _ z => by cases z)
        have hld : l ≠ d := ne_of e34 ed4 (by intro z; cases z)
        generalize hH5 : upd H4 l (.lst vs0) = H5
        have g5 : Gr H H5 := by rw [← hH5]; exact g34.mut hl3
        have e5 : H5 l = some (.lst vs0) := by rw [← hH5]; exact upd_same
        have ed5 : H5 d = some (.dT kvs) := by rw [← hH5, upd_ne hld.symm]; exact ed4
        have pw5 : Paired (WtAt K H5) vs0 W0 := by rw [← hH5]; exact WtAt.mut e34 (WtAt.gr g4 pw0)
        have ht5 : SqT K H5 t [.ref a, .int p.2] := by rw [← hH5]; exact sqT_mut e34 (g4.t ht)
        have ea5 : H5 a = some (.tup (p.1.map V.str)) := by rw [← hH5, upd_ne (ne_of (g4.tup ea) e34 (by intro z; cases z))]; exact g4.tup ea
        obtain ⟨w1, w2, w3, w4⟩ := lw.at' p (List.mem_append_right _ List.mem_cons_self)
        obtain ⟨⟨b, c⟩, eb⟩ := Option.isSome_iff_exists.mp w2
        have ebx := bxO_some eb
        have pa5 := pa.gr g5
        rw [wsum_app] at hm
        repeat walk_at "sx"
        refine pa5.fm (by decide +kernel) (by decide +kernel) (by decide +kernel) (by decide +kernel) ?_
        repeat walk_at "sx"
        refine st_ixT ht5 (atI_nat (j := 1) rfl) ?_
        repeat walk_at "sx"
        refine ⟨A, S, .int p.2, rfl, pa5, .inl ⟨p.2, rfl, fun b' c' e' t7 H7 ht7 g7 told _ => ?_, fun e' => by rw [eb] at e'; cases e'⟩⟩
        rw [eb] at e'
        cases e'
        repeat walk_at "sx"
        cases b with
        | leaf n =>
          have ht7 : SqT K H7 t7 [.str "leaf", .int n] := .of told
          refine st_ixT ht7 (atI_nat (j := 0) rfl) ?_
          obtain ⟨L', lw', hL'⟩ := lw.leaf ebx
          have hs1 := wsum_leaf ebx
          rw [hs1] at hm
          have ed7 : H7 d = some (.dT kvs) := g7.keep _ _ ed5 (fun _ z => by cases z)
          have ea7 := g7.tup ea5
          repeat walk_at "sx"
          walk_at "dx"
          repeat walk_at "sx"
          refine st_ixT ht7 (atI_nat (j := 1) rfl) ?_
          repeat walk_at "sx"
          refine st_ixT (g7.t ht5) (atI_nat (j := 0) rfl) ?_
          refine lf_dputT (k := p.1.map Sum.inr) ed7 (by rw [kV_map]; exact ea7) (by omega) ?_
          have e7 := g7.lst e5
          generalize hH8 : upd H7 d _ = H8
          have g8 : Gr H H8 := by rw [← hH8]; exact (g5.trans g7).mut hdn
          have mv : ∀ p xs, SqT K H7 p xs → SqT K H8 p xs := fun q xs h => by
            rw [← hH8]
            rcases h with (h | ⟨o, h⟩) | h
            · exact .inl (.inl (by rw [upd_ne (ne_of h ed7 (by intro z; cases z))]; exact h))
            · exact .inl (.inr ⟨o, by rw [upd_ne (ne_of h ed7 (by intro z; cases z))]; exact h⟩)
            · exact .inr h
          refine ⟨_, ?_, l, vs0, W0, _, L', _, _, _, rfl, g8, hl3, by rw [← hH8, upd_ne hld]; exact e7, pd_imp (fun _ _ ⟨t, a, q1, q2, q3⟩ => ⟨t, a, q1, mv _ _ q2, by rw [← hH8, upd_ne (ne_of q3 ed7 (by intro z; cases z))]; exact q3⟩) (WtAt.gr g7 pw5), by rw [← hH8]; exact upd_same, lw', rfl, by omega⟩
          omega
        | branch rs =>
          obtain ⟨l8, us, t1, t2, hp⟩ := told
          have ht7 : SqT K H7 t7 [.str "branch", .ref l8] := .of t1
          refine st_ixT ht7 (atI_nat (j := 0) rfl) ?_
          have hs1 := wsum_branch ti w3 ebx
          have lw' := lw.branch ti ebx
          rw [hs1] at hm
          repeat walk_at "sx"
          rw [decide_eq_false (by intro q; exact absurd (V.str.inj q) (by decide +kernel))]
          repeat walk_at "sx"
          refine st_ixT ht7 (atI_nat (j := 1) rfl) ?_
          refine st_exL (.of t2) ?_
          have hul := hp.len
          have hrl : rs.length ≤ 5000 := by
            have := rows_le ti (some p.2)
            rw [rowsO_some eb] at this
            exact this
          have hpl : p.1.length ≤ 1000 := by
            refine Decidable.byContradiction fun hn => ?_
            have := fz p.1 (by omega)
            rw [w1] at this
            cases this
          have ea7 := g7.tup ea5
          refine lc_acc (n := us.length) (Y := fun i x => us[i]? = some x) walk_list (fun H' g => g.l (.of t2)) (fun i acc H' => Paired (WtAt K H') acc ((rs.take i).map fun r => (p.1 ++ [r.1], r.2))) (fun H2 _ => by rw [List.take_zero]; exact .nil) (fun i acc H H' g h => WtAt.gr g h) (fun i acc H D xs zs e _ h => WtAt.mut e h) ?_ (fun D acc H8 hD g8 e8 _ h => ?_) (by omega) (fun _ => rfl)
          · intro i x acc H8 hi hx g8 a8 Qy Qn q1 q2
            obtain ⟨pp, r, rfl, er, hpr⟩ := hp.back hx
            have ht8 := g8.t (g7.t ht5)
            have ea8 := g8.tup ea7
            have take1 : (rs.take (i + 1)).map (fun r => (p.1 ++ [r.1], r.2)) = (rs.take i).map (fun r => (p.1 ++ [r.1], r.2)) ++ [(p.1 ++ [r.1], r.2)] := by
              obtain ⟨hi2, e2⟩ := List.getElem?_eq_some_iff.mp er
              rw [List.take_succ_eq_append_getElem hi2, e2, List.map_append] <;> rfl
            repeat walk_at "sx"
            refine st_ixT ht8 (atI_nat (j := 0) rfl) ?_
            repeat walk_at "sx"
            refine st_ixT (g8.t hpr) (atI_nat (j := 0) rfl) ?_
            repeat walk_at "sx"
            refine ⟨by show 1 ≤ sizeLine; decide, ?_⟩
            walk_at "new"; rename_i b9 hb9 H9 g9 e9
            refine st_catA (p := p.1) (m := r.1) (.of (g9.tup ea8)) (.of e9) hpl (fun hnil => ?_) (fun hne b10 hb10 => ?_)
            · repeat walk_at "sx"
              refine st_ixT (g9.t (g8.t hpr)) (atI_nat (j := 1) rfl) ?_
              repeat walk_at "sx"
              refine ⟨by show 2 ≤ sizeLine; decide, ?_⟩
              walk_at "new"; rename_i t11 ht11 H11 g11 e11
              refine q1 _ H11 (g9.trans g11) ?_
              rw [take1]
              exact pd_snoc (WtAt.gr (g9.trans g11) a8) ⟨t11, b9, rfl, .of e11, by rw [hnil]; exact g11.tup e9⟩
            · generalize hH10 : upd H9 b10 _ = H10
              have g10 := gr_of hb10 hH10
              have e10 := at_of hH10
              repeat walk_at "sx"
              refine st_ixT ((g9.trans g10).t (g8.t hpr)) (atI_nat (j := 1) rfl) ?_
              repeat walk_at "sx"
              refine ⟨by show 2 ≤ sizeLine; decide, ?_⟩
              walk_at "new"; rename_i t11 ht11 H11 g11 e11
              refine q1 _ H11 ((g9.trans g10).trans g11) ?_
              rw [take1]
              exact pd_snoc (WtAt.gr ((g9.trans g10).trans g11) a8) ⟨t11, b10, rfl, .of e11, g11.tup e10⟩
          · rw [hul, List.take_length] at h
            have hv0 := pd_len pw5
            have hac := pd_len h
            rw [List.length_map] at hac
            have hwl0 := wsum_len (S := S) W0
            have e57 := g8.lst (g7.lst e5)
            refine st_cat e57 e8 (sz_of (by omega)) ?_
            walk_at "new"; rename_i q9 hq9 H9 g9 e9
            have g59 := ((g5.trans g7).trans g8).trans g9
            have g79 := (g7.trans g8).trans g9
            repeat walk_at "sx"
            refine ⟨_, ?_, q9, _, _, kvs, L, _, _, _, rfl, g59, ((g5.trans g7).trans g8).free hq9, e9, pd_app (WtAt.gr g79 pw5) (WtAt.gr g9 h), g79.keep _ _ ed5 (fun _ z => by cases z), lw', rfl, ?_⟩
            · rw [wsum_app]
              omega
            · rw [wsum_app]
              omega
    · rintro σ H' Q1 Q2 hq ⟨v, e, hz, q⟩
      refine ⟨v, e, hz, fun p hp => ?_⟩
      obtain ⟨d1, d2, a1, a2, a3, a4, kk, ek, qk⟩ := q p hp
      exact ⟨d1, d2, a1, a2, a3, a4, kk, ek, hq _ _ qk⟩
end
section
variable {P : Program} {w : World} {K : PySem.W.Frag} {mg : Str → Option Value} {base : Heap} {C_Pile C_Store E_NoBox E_SnapError E_BadPath E_BadNumber E_LeafThere E_BranchThere E_Nothing E_NoShot Pt_is_name Pt_branch : Addr}
theorem scrowsL : FnScope ["_law_pile", "_law_box"] ["_law_pile", "_law_box"] (defScope srowsL) := ⟨rfl, rfl, rfl, by decide +kernel, rfl, by decide +kernel, by decide +kernel⟩
theorem ok_rowsL {f : Addr} {fd : FuncData} (F : Fun K "_law_rows" "_law_rows" srowsL f fd) (T : Txt K mg C_Pile C_Store E_NoBox E_SnapError E_BadPath E_BadNumber E_LeafThere E_BranchThere E_Nothing E_NoShot Pt_is_name Pt_branch) (C : Cs_rowsL P w K mg base C_Pile C_Store E_NoBox E_SnapError E_BadPath E_BadNumber E_LeafThere E_BranchThere E_Nothing E_NoShot Pt_is_name Pt_branch) : FnOk P w K mg base (L2N.CX P w) 4 f fd ["_law_pile", "_law_box"] (spRows12 K C_Pile) := by
  refine F.okN scrowsL (fun vs H Q E h => ?_) (fun cdv A' outer s H vs Q E hr h => ?_)
  · obtain ⟨A, S, R, o, rfl, _⟩ := h
    rfl
  · obtain ⟨A, S, R, o, rfl, pa, ti, f, k⟩ := h
    refine ⟨_, (pss_cons (ps_if (PW.pt (pw_or (pt_cmpR oIsNo (pv 1) pe_non (nomark _)) (pw_or1 (pt_cmpR op_eq (pe_ix (ixT (K := K) rfl) (pe_mm (pv 0) T.cl_Pile C.plContent (hr.mono (by decide)) (pa_cons (pv 1) pa_nil)) pe_int (fun _ _ => rfl)) pe_str (nomark _)))))
  (pss_one (ps_ret pe_dnewK))
  pss_nil)
  (pss_one (ps_ret (pe_callTy (call_dictP rfl) (by rfl) T.dict PyProof.Rows.boot_dict (pa_cons (pe_ix (ixT (K := K) rfl) (pe_mm (pv 0) T.cl_Pile C.plContent (hr.mono (by decide)) (pa_cons (pv 1) pa_nil)) pe_int (fun _ _ => rfl)) pa_nil))))), ?_⟩
    repeat walk_at "sx"
    cases o with
    | none =>
      dsimp only [oV]
      repeat walk_at "sx"
      refine ite3 (fun _ => ?_) (fun h => absurd rfl (of_decide_eq_false h))
      repeat walk_at "sx"
      refine st_dnewK ?_
      walk_at "new"; rename_i d hd H1 g1 e1
      exact k d H1 hd g1 e1
    | some z =>
      dsimp only [oV]
      repeat walk_at "sx"
      obtain ⟨⟨b, c⟩, eb⟩ := Option.isSome_iff_exists.mp (f z rfl)
      have er := rowsO_some eb
      refine ite3 (fun h => absurd (of_decide_eq_true h) (by intro q; cases q)) (fun _ => ?_)
      repeat walk_at "sx"
      refine pa.fm (by decide +kernel) (by decide +kernel) (by decide +kernel) (by decide +kernel) ?_
      repeat walk_at "sx"
      refine ⟨A, S, .int z, rfl, pa, .inl ⟨z, rfl, fun b' c' e' t H1 ht g1 told _ => ?_, fun e' => by rw [eb] at e'; cases e'⟩⟩
      rw [eb] at e'
      cases e'
      cases b with
      | leaf n =>
        have ht1 : SqT K H1 t [.str "leaf", .int n] := .of told
        repeat walk_at "sx"
        refine st_ixT ht1 (atI_nat (j := 0) rfl) ?_
        repeat walk_at "sx"
        refine st_dnewK ?_
        walk_at "new"; rename_i d hd H2 g2 e2
        rw [er] at k
        exact k d H2 (g1.free hd) (g1.trans g2) e2
      | branch rs =>
        obtain ⟨l8, us, t1, t2, hp⟩ := told
        have ht1 : SqT K H1 t [.str "branch", .ref l8] := .of t1
        repeat walk_at "sx"
        refine st_ixT ht1 (atI_nat (j := 0) rfl) ?_
        repeat walk_at "sx"
        rw [decide_eq_false (by intro q; exact absurd (V.str.inj q) (by decide +kernel))]
        repeat walk_at "sx"
        have pa1 := pa.gr g1
        refine pa1.fm (by decide +kernel) (by decide +kernel) (by decide +kernel) (by decide +kernel) ?_
        repeat walk_at "sx"
        refine ⟨A, S, .int z, rfl, pa1, .inl ⟨z, rfl, fun b' c' e' t' H2 ht' g2 told' _ => ?_, fun e' => by rw [eb] at e'; cases e'⟩⟩
        rw [eb] at e'
        cases e'
        obtain ⟨l9, us', t1', t2', hp'⟩ := told'
        have ht2 : SqT K H2 t' [.str "branch", .ref l9] := .of t1'
        repeat walk_at "sx"
        refine st_ixT ht2 (atI_nat (j := 1) rfl) ?_
        obtain ⟨ps, eus, pr⟩ := prs_pairs hp'
        rw [eus] at t2'
        repeat walk_at "sx"
        refine ⟨l9, ps, rowKv rs, rfl, .of t2', pr, fun d hd => ?_⟩
        have hs : SrR rs := by
          have := (rowsO_srt ti (some z)).1
          rw [er] at this
          exact this
        rw [er] at k
        rw [rowKv_new hs]
        exact k d _ ((g1.trans g2).free hd) ((g1.trans g2).trans (Gr.new hd)) upd_same
end
section
variable {P : Program} {w : World} {K : PySem.W.Frag} {mg : Str → Option Value} {base : Heap} {C_Pile C_Store E_NoBox E_SnapError E_BadPath E_BadNumber E_LeafThere E_BranchThere E_Nothing E_NoShot Pt_is_name Pt_branch : Addr}
theorem sclookedL : FnScope ["_law_pile", "_law_one", "_law_other", "_law_waiting", "_law_many", "_law_step", "_law_left", "_law_right", "_law_name"] ["_law_pile", "_law_one", "_law_other"] (defScope slookedL) := ⟨rfl, rfl, rfl, by decide +kernel, rfl, by decide +kernel, by decide +kernel⟩
set_option maxHeartbeats 20000000 in
theorem ok_lookedL {f : Addr} {fd : FuncData} (F : Fun K "_law_looked" "_law_looked" slookedL f fd) (T : Txt K mg C_Pile C_Store E_NoBox E_SnapError E_BadPath E_BadNumber E_LeafThere E_BranchThere E_Nothing E_NoShot Pt_is_name Pt_branch) (C : Cs_lookedL P w K mg base C_Pile C_Store E_NoBox E_SnapError E_BadPath E_BadNumber E_LeafThere E_BranchThere E_Nothing E_NoShot Pt_is_name Pt_branch) : FnOk P w K mg base (L2N.CX P w) 5 f fd ["_law_pile", "_law_one", "_law_other"] (spLooked12 K C_Pile) := by
  refine F.okN sclookedL (fun vs H Q E h => ?_) (fun cdv A' outer s H vs Q E hr h => ?_)
  · obtain ⟨A, S, R, a, b, rfl, _⟩ := h
    rfl
  · obtain ⟨A, S, R, a, b, rfl, pa, ti, ha, hb, fa, fb, hc, h2, k⟩ := h
    have hu := hu_of hr
    refine ⟨_, (pss_cons (ps_set (i := 3) sclookedL.nd rfl (Or.inl rfl) (pe_lst (pa_cons (pe_lst (pa_cons (pv 1) (pa_cons (pv 2) pa_nil))) pa_nil)))
  (pss_cons (ps_set (i := 4) sclookedL.nd rfl (Or.inl rfl) pe_int)
  (pss_cons (ps_while (passes_of rfl) (pt_cmpR (oNeD (K := K) rfl hr.units) (pv 3) (pe_lst pa_nil) (nomark _))
  (pss_cons (ps_set (i := 5) sclookedL.nd rfl (Or.inl rfl) (pe_bm0 PySem.F.plainAttrs_list PySem.F.slot_list_pop PySem.F.type_list_pop mt_pop (pv 3)))
  (pss_one (ps_if (pt_cmpR op_ne (pe_ix (ixL (K := K) rfl) (pv 5) pe_int (fun _ _ => rfl)) (pe_ix (ixL (K := K) rfl) (pv 5) pe_int (fun _ _ => rfl)) (nomark _))
  (pss_cons (ps_set (i := 4) sclookedL.nd rfl (Or.inl rfl) (pe_op op_add (pv 4) pe_int))
  (pss_cons (ps_set (i := 6) sclookedL.nd rfl (Or.inl rfl) (pe_d0 C.rowsL (hr.mono (by decide)) rfl (pa_cons (pv 0) (pa_cons (pe_ix (ixL (K := K) rfl) (pv 5) pe_int (fun _ _ => rfl)) pa_nil))))
  (pss_cons (ps_set (i := 7) sclookedL.nd rfl (Or.inl rfl) (pe_d0 C.rowsL (hr.mono (by decide)) rfl (pa_cons (pv 0) (pa_cons (pe_ix (ixL (K := K) rfl) (pv 5) pe_int (fun _ _ => rfl)) pa_nil))))
  (pss_one (ps_for (passes_of rfl) rfl (pi_list (pe_callB (cr_sortedX rfl) (by rfl) T.sorted boot_sorted (pa_cons (pe_callTy (cSetX (K := K) rfl rfl) (by rfl) T.set PyProof.Rows.boot_set (pa_cons (pe_op op_cat (pe_callTy (call_list_dK rfl) (by rfl) T.list PyProof.Rows.boot_list (pa_cons (pv 6) pa_nil)) (pe_callTy (call_list_dK rfl) (by rfl) T.list PyProof.Rows.boot_list (pa_cons (pv 7) pa_nil))) pa_nil)) pa_nil))) (pg_name (i := 8) sclookedL.nd rfl (Or.inl rfl))
  (pss_one (ps_expr (pe_bm PySem.F.plainAttrs_list PySem.F.slot_list_append PySem.F.type_list_append mt_append (pv 3) (pa_cons (pe_lst (pa_cons (pe_dget2 hu (pv 6) (pv 8) pe_non ⟨rfl, rfl, rfl, rfl⟩) (pa_cons (pe_dget2 hu (pv 7) (pv 8) pe_non ⟨rfl, rfl, rfl, rfl⟩) pa_nil))) pa_nil)))))))))
  pss_nil))))
  (pss_one (ps_ret (pv 4)))))), ?_⟩
    repeat walk_at "sx"
    refine ⟨by show 2 ≤ sizeLine; decide, ?_⟩
    walk_at "new"; rename_i t0 ht0 H1 g1 e1
    repeat walk_at "sx"
    refine ⟨by show 1 ≤ sizeLine; decide, ?_⟩
    walk_at "new"; rename_i l hl H2 g2 e2
    have hln : H l = none := g1.free hl
    have g12 := g1.trans g2
    generalize htot : (cmpF S 9 [] (some a) (some b)).2 = tot at k
    have fit1 : ∀ z : Int, (S.box z).isSome = true → Fit S (some z) := fun z h y e => by cases e; exact h
    repeat walk_at "sx"
    refine st_whileN (fun m σ H' => ∃ (vs : List V) (W : List Pr2) (many : Nat) (u1 u2 u3 u4 : Option V), σ = [some (.ref A.p), some (.int a), some (.int b), some (.ref l), some (.int (many : Int)), u1, u2, u3, u4] ∧ Gr H H' ∧ H' l = some (.lst vs) ∧ Paired (P2At l H') vs W ∧ (∀ p ∈ W, Fit S p.1 ∧ Fit S p.2 ∧ FlatN S 9 p.1 ∧ FlatN S 9 p.2) ∧ m = lsum S W ∧ many + csum S W = tot ∧ m ≤ 10000) _
      ⟨_, [(some a, some b)], 0, none, none, none, none, rfl, g12, e2, .cons ⟨t0, rfl, g2.lst e1, (ne_of_none e1 hl)⟩ .nil, fun p hp => by rw [List.mem_singleton.mp hp]; exact ⟨fit1 a ha, fit1 b hb, fa, fb⟩, rfl, by rw [Nat.zero_add]; unfold csum; rw [List.map_cons, List.map_nil, List.sum_cons, List.sum_nil, Nat.add_zero]; exact htot, by unfold lsum; rw [List.map_cons, List.map_nil, List.sum_cons, List.sum_nil, Nat.add_zero]; exact hc⟩ ?_ ?_
    · rintro m σ H3 ⟨vs, W, many, u1, u2, u3, u4, rfl, g3, e3, pw, hW4, hm, hcs, hmb⟩
      have pa3 := pa.gr g3
      repeat walk_at "sx"
      refine ⟨by show 0 ≤ sizeLine; decide, ?_⟩
      walk_at "new"; rename_i q4 hq4 H4 g4 e4
      refine st_neNilD (.of (g4.lst e3)) (dpa_imp _ (fun _ _ h => dp_p2 h) (P2At.gr g4 pw)) (fun dd hdd => by
        obtain ⟨p, hp, rfl⟩ := List.mem_map.mp hdd
        exact lay_p2 p) (.of e4) ?_
      have g34 := g3.trans g4
      by_cases hW : W = []
      · subst hW
        have ev := pd_nil pw
        subst ev
        rw [show (!([] : List V).isEmpty) = false from rfl]
        repeat walk_at "sx"
        have e0 : many = tot := by
          have : csum S [] = 0 := rfl
          omega
        rw [e0]
        exact k H4 g34
      · obtain ⟨W0, p, rfl⟩ : ∃ W0 y, W = W0 ++ [y] := ⟨W.dropLast, W.getLast hW, (List.dropLast_concat_getLast hW).symm⟩
        obtain ⟨vs0, v, rfl, pw0, t, rfl, et, ntl⟩ := pd_unsnoc pw
        obtain ⟨o1, o2⟩ := p
        obtain ⟨w1, w2, w3, w4⟩ := hW4 _ (List.mem_append_right _ List.mem_cons_self)
        have hW0 : ∀ p ∈ W0, Fit S p.1 ∧ Fit S p.2 ∧ FlatN S 9 p.1 ∧ FlatN S 9 p.2 := fun p hp => hW4 p (List.mem_append_left _ hp)
        rw [show (!(vs0 ++ [V.ref t]).isEmpty) = true by simp]
        repeat walk_at "sx"
        walk_at "dx"
        repeat walk_at "sx"
        refine st_tyL (.of (g4.lst e3)) ?_
        refine st_pop (l := l) (g4.lst e3) ?_
        have e34 := g4.lst e3
        generalize hH5 : upd H4 l (.lst vs0) = H5
        have g5 : Gr H H5 := by rw [← hH5]; exact g34.mut hln
        have e5 : H5 l = some (.lst vs0) := by rw [← hH5]; exact upd_same
        have pw5 : Paired (P2At l H5) vs0 W0 := by rw [← hH5]; exact P2At.mut (P2At.gr g4 pw0)
        have et5 : H5 t = some (.lst [oV o1, oV o2]) := by rw [← hH5, upd_ne ntl]; exact g4.lst et
        have pa5 := pa.gr g5
        rw [lsum_app] at hm
        rw [csum_app] at hcs
        repeat walk_at "sx"
        refine st_ixL (.of et5) (atI_nat (j := 0) rfl) ?_
        repeat walk_at "sx"
        refine st_ixL (.of et5) (atI_nat (j := 1) rfl) ?_
        refine st_neO ?_
        by_cases ho : o1 = o2
        · subst ho
          obtain ⟨s1, s2⟩ := sum_same S o1
          rw [s1] at hm
          rw [s2] at hcs
          rw [decide_eq_true rfl]
          repeat walk_at "sx"
          exact ⟨_, by omega, vs0, W0, many, _, _, _, _, rfl, g5, e5, pw5, hW0, rfl, by omega, by omega⟩
        · obtain ⟨s1, s2⟩ := sum_kids ho w3 w4
          rw [s1] at hm
          rw [s2] at hcs
          rw [decide_eq_false ho]
          repeat walk_at "sx"
          refine st_ixL (.of et5) (atI_nat (j := 0) rfl) ?_
          repeat walk_at "sx"
          refine ⟨A, S, R, o1, rfl, pa5, ti, w1, fun d1 H6 hd1 g6 e6 => ?_⟩
          have pa6 := pa5.gr g6
          repeat walk_at "sx"
          refine st_ixL (.of (g6.lst et5)) (atI_nat (j := 1) rfl) ?_
          repeat walk_at "sx"
          refine ⟨A, S, R, o2, rfl, pa6, ti, w2, fun d2 H7 hd2 g7 e7 => ?_⟩
          have e67 := g7.dK e6
          repeat walk_at "sx"
          refine ⟨d1, _, rfl, e67, fun q8 hq8 => ?_⟩
          rw [names_rows]
          generalize hH8 : upd H7 q8 _ = H8
          have g8 := gr_of hq8 hH8
          have e8 := at_of hH8
          repeat walk_at "sx"
          refine ⟨d2, _, rfl, g8.dK e7, fun q9 hq9 => ?_⟩
          rw [names_rows]
          generalize hH9 : upd H8 q9 _ = H9
          have g9 := gr_of hq9 hH9
          have e9 := at_of hH9
          have n1 := h2 o1
          have n2 := h2 o2
          refine st_cat (g9.lst e8) e9 (sz_of (by rw [List.length_map, List.length_map, List.length_map, List.length_map]; omega)) ?_
          walk_at "new"; rename_i q10 hq10 H10 g10 e10
          rw [← List.map_append] at e10
          repeat walk_at "sx"
          refine ⟨q10, _, rfl, .of e10, by rw [List.length_append, List.length_map, List.length_map]; omega, fun q11 hq11 => ?_⟩
          generalize hH11 : upd H10 q11 _ = H11
          have g11 := gr_of hq11 hH11
          have e11 := at_of hH11
          repeat walk_at "sx"
          refine ⟨q11, _, _, rfl, e11, by rw [List.length_append, List.length_map, List.length_map]; omega, fun ns q12 hs hnd hmem hlen hq12 => ?_⟩
          have ens : ns = uniN (rowsO S o1) (rowsO S o2) := uni_of hs hnd hmem
          rw [List.length_append, List.length_map, List.length_map] at hlen
          generalize hH12 : upd H11 q12 _ = H12
          have g12 := gr_of hq12 hH12
          have e12 := at_of hH12
          have g512 := ((((((g6.trans g7).trans g8).trans g9).trans g10).trans g11).trans g12)
          have hl5 : H5 l ≠ none := by rw [e5]; intro z; cases z
          have nq : q12 ≠ l := fun z => by
            rw [z] at hq12
            have := ((((((g6.trans g7).trans g8).trans g9).trans g10).trans g11)).lst e5
            rw [hq12] at this
            cases this
          have nd1 : d1 ≠ l := ne_of (g512.keep _ _ e5 (fun _ z => by cases z) |> fun _ => g7.dK e6) (g7.lst (g6.lst e5)) (by intro z; cases z)
          have nd2 : d2 ≠ l := ne_of e7 (g7.lst (g6.lst e5)) (by intro z; cases z)
          have kl : (kids S o1 o2).length = ns.length := by unfold kids; rw [List.length_map, ens]
          have hlv := lsum_len S W0
          have hvl := pd_len pw5
          refine st_exL (.of e12) ?_
          refine st_loop (m := _) (Y := fun i x => (ns.map V.str)[i]? = some x) walk_list (fun i σ' H' => ∃ (vs1 : List V) (u4 : Option V), σ' = [some (.ref A.p), some (.int a), some (.int b), some (.ref l), some (.int ((many : Int) + 1)), some (.ref t), some (.ref d1), some (.ref d2), u4] ∧ Gl l H12 H' ∧ H' l = some (.lst vs1) ∧ Paired (P2At l H') vs1 (W0 ++ (kids S o1 o2).take i))
            ⟨vs0, u4, rfl, Gl.of (Gr.refl _), g512.lst e5, by rw [List.take_zero, List.append_nil]; exact P2At.gr g512 pw5⟩ ?_ ?_ ?_
          · rintro i σ' H' _ ⟨vs1, u4, rfl, x13, _⟩
            exact .of (x13.keep _ _ e12 nq (fun _ z => by cases z))
          · rintro i x σ' H13 hi ⟨vs1, u4, rfl, x13, e13, pw13⟩ hx
            rw [List.getElem?_map] at hx
            obtain ⟨nm, em, rfl⟩ := Option.map_eq_some_iff.mp hx
            have f1 : H13 d1 = some (.dK (rowKv (rowsO S o1))) := x13.keep _ _ (g12.dK (g11.dK (g10.dK (g9.dK (g8.dK e67))))) nd1 (fun _ z => by cases z)
            have f2 : H13 d2 = some (.dK (rowKv (rowsO S o2))) := x13.keep _ _ (g12.dK (g11.dK (g10.dK (g9.dK (g8.dK e7))))) nd2 (fun _ z => by cases z)
            have ek : (kids S o1 o2)[i]? = some (nextF S o1 nm, nextF S o2 nm) := by
              unfold kids
              rw [← ens, List.getElem?_map, em] <;> rfl
            have hl13 := pd_len pw13
            rw [List.length_append, List.length_take] at hl13
            repeat walk_at "sx"
            refine st_tyL (.of e13) ?_
            repeat walk_at "sx"
            refine st_dget2 ?_
            repeat walk_at "sx"
            refine ⟨d1, rfl, .inl ⟨_, .inl f1⟩, ?_⟩
            repeat walk_at "sx"
            refine ⟨_, DGet.k (k := .inr nm) f1, ?_⟩
            rw [rowKv_val, getD_map]
            repeat walk_at "sx"
            refine st_dget2 ?_
            repeat walk_at "sx"
            refine ⟨d2, rfl, .inl ⟨_, .inl f2⟩, ?_⟩
            repeat walk_at "sx"
            refine ⟨_, DGet.k (k := .inr nm) f2, ?_⟩
            rw [rowKv_val, getD_map]
            repeat walk_at "sx"
            refine ⟨by show 2 ≤ sizeLine; decide, ?_⟩
            walk_at "new"; rename_i t14 ht14 H14 g14 e14
            have ntl14 : t14 ≠ l := (ne_of_none e13 ht14).symm
            repeat walk_at "sx"
            refine st_append (g14.lst e13) (sz_lt (by omega)) ?_
            refine ⟨_, _, rfl, (x13.trans (Gl.of g14)).trans (Gl.put (g14.lst e13)), upd_same, ?_⟩
            obtain ⟨hi2, ei⟩ := List.getElem?_eq_some_iff.mp ek
            rw [List.take_succ_eq_append_getElem hi2, ei, ← List.append_assoc]
            exact pd_snoc (P2At.mut (P2At.gr g14 pw13)) ⟨t14, rfl, by rw [upd_ne ntl14]; exact e14, ntl14⟩
          · rintro σ' H13 ⟨vs1, u4, rfl, x13, e13, pw13⟩
            rw [List.length_map, ← kl, List.take_length] at pw13
            refine ⟨_, ?_, vs1, W0 ++ kids S o1 o2, many + 1, _, _, _, _, rfl, ?_, e13, pw13, fun p hp => ?_, rfl, by rw [csum_app]; omega, by rw [lsum_app]; omega⟩
            · rw [lsum_app]
              omega
            · exact Gl.gr (g5.trans g512) hln x13
            · rcases List.mem_append.mp hp with hp | hp
              · exact hW0 p hp
              · unfold kids at hp
                obtain ⟨m', hm', rfl⟩ := List.mem_map.mp hp
                exact ⟨ti.next o1 m', ti.next o2 m', ((w3.mono (k := 10) (by decide)).next m'), ((w4.mono (k := 10) (by decide)).next m')⟩
    · rintro σ H' Q1 Q2 hq ⟨v, e, hz, q⟩
      refine ⟨v, e, hz, fun p hp => ?_⟩
      obtain ⟨d1, d2, a1, a2, a3, a4, kk, ek, qk⟩ := q p hp
      exact ⟨d1, d2, a1, a2, a3, a4, kk, ek, hq _ _ qk⟩
end
section
variable {P : Program} {w : World} {K : PySem.W.Frag} {mg : Str → Option Value} {base : Heap} {C_Pile C_Store E_NoBox E_SnapError E_BadPath E_BadNumber E_LeafThere E_BranchThere E_Nothing E_NoShot Pt_is_name Pt_branch : Addr}
theorem sctoldL : FnScope ["_law_seen", "_law_due", "_law_looked_here", "_law_k", "_law_row", "_law_at"] ["_law_seen", "_law_due", "_law_looked_here"] (defScope stoldL) := ⟨rfl, rfl, rfl, by decide +kernel, rfl, by decide +kernel, by decide +kernel⟩
set_option maxHeartbeats 20000000 in
theorem ok_toldL {f : Addr} {fd : FuncData} (F : Fun K "_law_told" "_law_told" stoldL f fd) (T : Txt K mg C_Pile C_Store E_NoBox E_SnapError E_BadPath E_BadNumber E_LeafThere E_BranchThere E_Nothing E_NoShot Pt_is_name Pt_branch) (C : Cs_toldL P w K mg base C_Pile C_Store E_NoBox E_SnapError E_BadPath E_BadNumber E_LeafThere E_BranchThere E_Nothing E_NoShot Pt_is_name Pt_branch) : FnOk P w K mg base (L2N.CX P w) 3 f fd ["_law_seen", "_law_due", "_law_looked_here"] (spTold12 K) := by
  refine F.okN sctoldL (fun vs H Q E h => ?_) (fun cdv A' outer s H vs Q E hr h => ?_)
  · obtain ⟨t, fl, dl, N, fs, ds, rs, n, rfl, _⟩ := h
    rfl
  · obtain ⟨t, fl, dl, N, fs, ds, rs, n, rfl, ht, efl, cg, hdl, du, ok, hz, k⟩ := h
    have hu := hu_of hr
    have hfl := pd_len cg
    have hdl2 := pd_len du
    refine ⟨_, (pss_cons (ps_if (PW.pt (pw_or (pt_not (pt_val (pe_callB (cIsi (K := K) rfl) (by rfl) T.isinstance boot_isinstance (pa_cons (pv 0) (pa_cons (pe_bltn (by rfl) T.tuple PyProof.Rows.boot_tuple (v := .ty "tuple") rfl) pa_nil))))) (pw_or (pt_cmpR op_ne (pe_callB (cLenQ (K := K) rfl) (by rfl) T.len PySem.boot_len (pa_cons (pv 0) pa_nil)) pe_int (nomark _)) (pw_or1 (pt_not (pt_val (pe_d0 C.count (hr.mono (by decide)) rfl (pa_cons (pe_ix (ixT (K := K) rfl) (pv 0) pe_int (fun _ _ => rfl)) (pa_cons (pv 2) pa_nil)))))))))
  (pss_one (ps_ret pe_bl))
  pss_nil)
  (pss_cons (ps_if (PW.pt (pw_or (pt_not (pt_val (pe_callB (cIsi (K := K) rfl) (by rfl) T.isinstance boot_isinstance (pa_cons (pe_ix (ixT (K := K) rfl) (pv 0) pe_int (fun _ _ => rfl)) (pa_cons (pe_bltn (by rfl) T.list PyProof.Rows.boot_list (v := .ty "list") rfl) pa_nil))))) (pw_or1 (pt_cmpR op_ne (pe_callB (cLenQ (K := K) rfl) (by rfl) T.len PySem.boot_len (pa_cons (pe_ix (ixT (K := K) rfl) (pv 0) pe_int (fun _ _ => rfl)) pa_nil)) (pe_callB (cLenQ (K := K) rfl) (by rfl) T.len PySem.boot_len (pa_cons (pv 1) pa_nil)) (nomark _)))))
  (pss_one (ps_ret pe_bl))
  pss_nil)
  (pss_cons (ps_for (passes_of rfl) rfl (pi_range1 rfl T.range (pa_cons (pe_callB (cLenQ (K := K) rfl) (by rfl) T.len PySem.boot_len (pa_cons (pv 1) pa_nil)) pa_nil)) (pg_name (i := 3) sctoldL.nd rfl (Or.inl rfl))
  (pss_cons (ps_set (i := 4) sctoldL.nd rfl (Or.inl rfl) (pe_ix (ixL (K := K) rfl) (pe_ix (ixT (K := K) rfl) (pv 0) pe_int (fun _ _ => rfl)) (pv 3) (fun _ _ => rfl)))
  (pss_cons (ps_if (PW.pt (pw_or (pt_not (pt_val (pe_callB (cIsi (K := K) rfl) (by rfl) T.isinstance boot_isinstance (pa_cons (pv 4) (pa_cons (pe_bltn (by rfl) T.tuple PyProof.Rows.boot_tuple (v := .ty "tuple") rfl) pa_nil))))) (pw_or (pt_cmpR op_ne (pe_callB (cLenQ (K := K) rfl) (by rfl) T.len PySem.boot_len (pa_cons (pv 4) pa_nil)) pe_int (nomark _)) (pw_or (pt_not (pt_val (pe_callB (cIsi (K := K) rfl) (by rfl) T.isinstance boot_isinstance (pa_cons (pe_ix (ixT (K := K) rfl) (pv 4) pe_int (fun _ _ => rfl)) (pa_cons (pe_bltn (by rfl) T.list PyProof.Rows.boot_list (v := .ty "list") rfl) pa_nil))))) (pw_or1 (pt_cmpR (oNeD (K := K) rfl hr.units) (pe_callTy (cTupOf (K := K) rfl) (by rfl) T.tuple PyProof.Rows.boot_tuple (pa_cons (pe_ix (ixT (K := K) rfl) (pv 4) pe_int (fun _ _ => rfl)) pa_nil)) (pe_ix (ixT (K := K) rfl) (pe_ix (ixL (K := K) rfl) (pv 1) (pv 3) (fun _ _ => rfl)) pe_int (fun _ _ => rfl)) (nomark _)))))))
  (pss_one (ps_ret pe_bl))
  pss_nil)
  (pss_one (ps_for (passes_of rfl) rfl (pi_list (pe_lst (pa_cons pe_int (pa_cons pe_int pa_nil)))) (pg_name (i := 5) sctoldL.nd rfl (Or.inl rfl))
  (pss_cons (ps_if (PW.pt (pw_and (pt_cmpR oIsNo (pe_ix (ixT (K := K) rfl) (pe_ix (ixL (K := K) rfl) (pv 1) (pv 3) (fun _ _ => rfl)) (pv 5) (fun _ _ => rfl)) pe_non (nomark _)) (pw_and1 (pt_cmpR oIsNot (pe_ix (ixT (K := K) rfl) (pv 4) (pv 5) (fun _ _ => rfl)) pe_non (nomark _)))))
  (pss_one (ps_ret pe_bl))
  pss_nil)
  (pss_one (ps_if (PW.pt (pw_and (pt_cmpR oIsNot (pe_ix (ixT (K := K) rfl) (pe_ix (ixL (K := K) rfl) (pv 1) (pv 3) (fun _ _ => rfl)) (pv 5) (fun _ _ => rfl)) pe_non (nomark _)) (pw_and1 (pt_not (pt_val (pe_d0 C.count (hr.mono (by decide)) rfl (pa_cons (pe_ix (ixT (K := K) rfl) (pv 4) (pv 5) (fun _ _ => rfl)) (pa_cons (pe_ix (ixT (K := K) rfl) (pe_ix (ixL (K := K) rfl) (pv 1) (pv 3) (fun _ _ => rfl)) (pv 5) (fun _ _ => rfl)) pa_nil))))))))
  (pss_one (ps_ret pe_bl))
  pss_nil))))))))
  (pss_one (ps_ret pe_bl))))), ?_⟩
    repeat walk_at "sx"
    refine st_isi (tyT ht) (b := true) (by decide +kernel) ?_
    repeat walk_at "sx"
    refine st_len2 (.inr ht) ?_
    rw [show ((([V.ref fl, V.int (n : Int)] : List V).length : Nat) : Int) = 2 from rfl]
    repeat walk_at "sx"
    refine st_ixT ht (atI_nat (j := 1) rfl) ?_
    repeat walk_at "sx"
    refine st_count rfl ?_
    repeat walk_at "sx"
    refine st_ixT ht (atI_nat (j := 0) rfl) ?_
    repeat walk_at "sx"
    refine st_isi (tyL (.of efl)) (b := true) (by decide +kernel) ?_
    repeat walk_at "sx"
    refine st_ixT ht (atI_nat (j := 0) rfl) ?_
    repeat walk_at "sx"
    refine st_lenL (.of efl) ?_
    repeat walk_at "sx"
    refine st_lenL hdl ?_
    rw [hfl, hdl2]
    repeat walk_at "sx"
    refine st_lenL hdl ?_
    repeat walk_at "sx"
    refine st_exR (by omega) (by omega) ?_
    rw [Int.toNat_natCast]
    refine st_loopR (fun i σ H' => ∃ (u4 u5 u6 : Option V), σ = [some (.ref t), some (.ref dl), some (.int (n : Int)), u4, u5, u6] ∧ Gr H H') ⟨none, none, none, rfl, Gr.refl _⟩ ?_ ?_
    · rintro i σ H1 hi ⟨u4, u5, u6, rfl, g1⟩
      have hfi : i < fs.length := by omega
      obtain ⟨r, er, tt, pp, ev, h1, h2, _⟩ := pd_at cg (List.getElem?_eq_getElem hfi)
      have hdi : i < ds.length := by omega
      obtain ⟨r', er', t2, p2, ev2, k1, k2⟩ := pd_at du (List.getElem?_eq_getElem hdi)
      rw [er] at er'
      cases er'
      obtain ⟨ok1, ok2, ok3⟩ := ok r (List.mem_of_getElem? er)
      have af : atI fs (i : Int) = some (.ref tt) := atI_nat (by rw [List.getElem?_eq_getElem hfi, ev])
      have ad : atI ds (i : Int) = some (.ref t2) := atI_nat (by rw [List.getElem?_eq_getElem hdi, ev2])
      have ht1 := g1.t ht
      have hr1 := g1.t h1
      repeat walk_at "sx"
      refine st_ixT ht1 (atI_nat (j := 0) rfl) ?_
      repeat walk_at "sx"
      refine st_ixL (.of (g1.lst efl)) af ?_
      repeat walk_at "sx"
      refine st_isi (tyT hr1) (b := true) (by decide +kernel) ?_
      repeat walk_at "sx"
      refine st_len2 (.inr hr1) ?_
      rw [show ((([V.ref pp, r.2.1, r.2.2] : List V).length : Nat) : Int) = 3 from rfl]
      repeat walk_at "sx"
      refine st_ixT hr1 (atI_nat (j := 0) rfl) ?_
      repeat walk_at "sx"
      refine st_isi (tyL (.of (g1.lst h2))) (b := true) (by decide +kernel) ?_
      repeat walk_at "sx"
      refine st_ixT hr1 (atI_nat (j := 0) rfl) ?_
      repeat walk_at "sx"
      refine st_tupL (.of (g1.lst h2)) ?_
      walk_at "new"; rename_i t3 ht3 H2 g2 e2
      have g12 := g1.trans g2
      repeat walk_at "sx"
      refine st_ixL (g12.l hdl) ad ?_
      repeat walk_at "sx"
      refine st_ixT (g12.t k1) (atI_nat (j := 0) rfl) ?_
      refine st_neTS (p := r.1) (.of e2) (.of (g12.tup k2)) ok3 ?_
      repeat walk_at "sx"
      refine ⟨by show 2 ≤ sizeLine; decide, ?_⟩
      walk_at "new"; rename_i l4 hl4 H4 g4 e4
      have g14 := g12.trans g4
      refine st_exL (.of e4) ?_
      refine st_loop (m := _) (Y := fun j x => ([V.int 1, V.int 2] : List V)[j]? = some x) walk_list (fun j σ' H' => ∃ (u6 : Option V), σ' = [some (.ref t), some (.ref dl), some (.int (n : Int)), some (.int (i : Int)), some (.ref tt), u6] ∧ Gr H4 H')
        ⟨u6, rfl, Gr.refl _⟩ ?_ ?_ ?_
      · rintro j σ' H' _ ⟨u6, rfl, g5⟩
        exact .of (g5.lst e4)
      · rintro j x σ' H5 hj ⟨u6, rfl, g5⟩ hx
        have g15 := g14.trans g5
        obtain ⟨at_, v, rfl, hv, hiv⟩ : ∃ (at_ : Nat) (v : V), x = .int (at_ : Int) ∧ ([.ref pp, r.2.1, r.2.2] : List V)[at_]? = some v ∧ isN v ∧ (([.ref p2, r.2.1, r.2.2] : List V)[at_]? = some v) := by
          have hj2 : j < 2 := hj
          rcases Nat.lt_or_ge j 1 with c | c
          · obtain rfl : j = 0 := by omega
            cases hx
            exact ⟨1, r.2.1, rfl, rfl, ok1, rfl⟩
          · obtain rfl : j = 1 := by omega
            cases hx
            exact ⟨2, r.2.2, rfl, rfl, ok2, rfl⟩
        obtain ⟨hiv, hv2⟩ := hiv
        have r1 : SqT K H5 tt [.ref pp, r.2.1, r.2.2] := g15.t h1
        have r2 : SqT K H5 t2 [.ref p2, r.2.1, r.2.2] := g15.t k1
        repeat walk_at "sx"
        refine st_ixL (g15.l hdl) ad ?_
        repeat walk_at "sx"
        refine st_ixT r2 (atI_nat hv2) ?_
        rcases hiv with rfl | ⟨z, rfl⟩
        · repeat walk_at "sx"
          refine st_ixT r1 (atI_nat hv) ?_
          repeat walk_at "sx"
          refine st_ixL (g15.l hdl) ad ?_
          repeat walk_at "sx"
          refine st_ixT r2 (atI_nat hv2) ?_
          repeat walk_at "sx"
          exact ⟨_, rfl, g5⟩
        · repeat walk_at "sx"
          refine st_ixL (g15.l hdl) ad ?_
          repeat walk_at "sx"
          refine st_ixT r2 (atI_nat hv2) ?_
          repeat walk_at "sx"
          refine st_ixT r1 (atI_nat hv) ?_
          repeat walk_at "sx"
          refine st_ixL (g15.l hdl) ad ?_
          repeat walk_at "sx"
          refine st_ixT r2 (atI_nat hv2) ?_
          repeat walk_at "sx"
          refine st_count rfl ?_
          repeat walk_at "sx"
          exact ⟨_, rfl, g5⟩
      · rintro σ' H5 ⟨u6, rfl, g5⟩
        repeat walk_at "sx"
        exact ⟨_, _, _, rfl, g14.trans g5⟩
    · rintro σ H1 ⟨u4, u5, u6, rfl, g1⟩
      repeat walk_at "sx"
      exact k H1 g1
end
section
variable {P : Program} {w : World} {K : PySem.W.Frag} {mg : Str → Option Value} {base : Heap} {C_Pile C_Store E_NoBox E_SnapError E_BadPath E_BadNumber E_LeafThere E_BranchThere E_Nothing E_NoShot Pt_is_name Pt_branch : Addr}
theorem sclaw : FnScope ["_law_script", "_law_store", "_law_k", "_law_shots", "_law_views", "_law_one", "_law_other", "_law_tops", "_law_left", "_law_right", "_law_due", "_law_path", "_law_looked_here", "_law_back", "_law_row", "_law_first", "_law_second"] ["_law_script"] (defScope slaw) := ⟨rfl, rfl, rfl, by decide +kernel, rfl, by decide +kernel, by decide +kernel⟩
set_option maxHeartbeats 20000000 in
theorem ok_law {f : Addr} {fd : FuncData} (F : Fun K "law" "law" slaw f fd) (T : Txt K mg C_Pile C_Store E_NoBox E_SnapError E_BadPath E_BadNumber E_LeafThere E_BranchThere E_Nothing E_NoShot Pt_is_name Pt_branch) (C : Cs_law P w K mg base C_Pile C_Store E_NoBox E_SnapError E_BadPath E_BadNumber E_LeafThere E_BranchThere E_Nothing E_NoShot Pt_is_name Pt_branch) : FnOk P w K mg base (L2N.CX P w) 14 f fd ["_law_script"] (spLawS K Pt_is_name Pt_branch) := by
  refine F.okN sclaw (fun vs H Q E h => ?_) (fun cdv A' outer s H vs Q E hr h => ?_)
  · obtain ⟨l, ns, rfl, _⟩ := h
    rfl
  · obtain ⟨l, ns, rfl, hS, hn63, tb, tn, k⟩ := h
    have hu := hu_of hr
    refine ⟨_, (pss_cons (ps_set (i := 1) sclaw.nd rfl (Or.inl rfl) (pe_mk0 C.mk_Store (hr.mono (by decide)) rfl))
  (pss_cons (ps_for (passes_of rfl) rfl (pi_range1 rfl T.range (pa_cons (pe_op op_mul (pe_op op_mod (pe_op op_fdiv (pe_d0 C.cell (hr.mono (by decide)) rfl (pa_cons (pv 0) (pa_cons pe_int pa_nil))) pe_int) pe_int) (pe_callTy call_int1 (by rfl) T.int PyProof.Rows.boot_int (pa_cons (pe_cmpR op_eq (pe_op op_mod (pe_d0 C.cell (hr.mono (by decide)) rfl (pa_cons (pv 0) (pa_cons pe_int pa_nil))) pe_int) pe_int (nomark _)) pa_nil))) pa_nil)) (pg_name (i := 2) sclaw.nd rfl (Or.inl rfl))
  (pss_cons (ps_expr (pe_mm (pv 1) T.cl_Store C.stPut (hr.mono (by decide)) (pa_cons (pe_lst (pa_cons pe_str (pa_cons (pe_op oAddS (pe_ix ix_str pe_str (pe_op op_mod (pv 2) pe_int) (fun _ _ => rfl)) (pe_op oMulS (pe_ix ix_str pe_str (pe_op op_fdiv (pv 2) pe_int) (fun _ _ => rfl)) (pe_op op_add pe_int (pe_op op_mod (pv 2) pe_int)))) pa_nil))) (pa_cons (pv 2) pa_nil))))
  (pss_one (ps_if (pt_cmpR op_eq (pe_op op_mod (pv 2) pe_int) pe_int (nomark _))
  (pss_one (ps_expr (pe_mm0 (pv 1) T.cl_Store C.stSnap (hr.mono (by decide)) )))
  pss_nil))))
  (pss_cons (ps_for (passes_of rfl) rfl (pi_range1 rfl T.range (pa_cons (pe_callB (call_min2 rfl) (by rfl) T.min (by decide +kernel) (pa_cons pe_int (pa_cons (pe_op op_fdiv (pe_callB (cLenQ (K := K) rfl) (by rfl) T.len PySem.boot_len (pa_cons (pv 0) pa_nil)) pe_int) pa_nil))) pa_nil)) (pg_name (i := 2) sclaw.nd rfl (Or.inl rfl))
  (pss_cons (ps_set (i := 3) sclaw.nd rfl (Or.inl rfl) (pe_mm0 (pv 1) T.cl_Store C.stShots (hr.mono (by decide)) ))
  (C8.pss_cut (ps_if (PW.pt (pw_and (pt_cmpR op_eq (pe_op op_mod (pv 2) pe_int) pe_int (nomark _)) (pw_and1 (pt_cmpR (oNeD (K := K) rfl hr.units) (pv 3) (pe_lst pa_nil) (nomark _)))))
  (pss_cons (ps_expr (pe_mm (pv 1) T.cl_Store C.stChanges (hr.mono (by decide)) (pa_cons pe_non (pa_cons (pe_ix (ixL (K := K) rfl) (pv 3) pe_int (fun _ _ => rfl)) pa_nil))))
  (pss_one (ps_expr (pe_mm (pv 1) T.cl_Store C.stChanges (hr.mono (by decide)) (pa_cons (pe_ix (ixL (K := K) rfl) (pv 3) (pe_un un_neg pe_int) (fun _ _ => rfl)) (pa_cons pe_non pa_nil))))))
  pss_nil)
  (pss_one (ps_expr (pe_d0 C.doneL (hr.mono (by decide)) rfl (pa_cons (pv 1) (pa_cons (pe_ix (ixL (K := K) rfl) (pv 0) (pe_op op_mul pe_int (pv 2)) (fun _ _ => rfl)) (pa_cons (pe_ix (ixL (K := K) rfl) (pv 0) (pe_op op_add (pe_op op_mul pe_int (pv 2)) pe_int) (fun _ _ => rfl)) pa_nil)))))))))
  (pss_cons (ps_set (i := 4) sclaw.nd rfl (Or.inl rfl) (pe_op op_cat (pe_lst (pa_cons pe_non pa_nil)) (pe_mm0 (pv 1) T.cl_Store C.stShots (hr.mono (by decide)) )))
  (pss_cons (ps_set (i := 5) sclaw.nd rfl (Or.inl rfl) (pe_ix (ixL (K := K) rfl) (pv 4) (pe_op op_mod (pe_op op_fdiv (pe_d0 C.cell (hr.mono (by decide)) rfl (pa_cons (pv 0) (pa_cons pe_int pa_nil))) pe_int) (pe_callB (cLenQ (K := K) rfl) (by rfl) T.len PySem.boot_len (pa_cons (pv 4) pa_nil))) (fun _ _ => rfl)))
  (pss_cons (ps_set (i := 6) sclaw.nd rfl (Or.inl rfl) (pe_ix (ixL (K := K) rfl) (pv 4) (pe_op op_mod (pe_op op_fdiv (pe_d0 C.cell (hr.mono (by decide)) rfl (pa_cons (pv 0) (pa_cons pe_int pa_nil))) pe_int) (pe_callB (cLenQ (K := K) rfl) (by rfl) T.len PySem.boot_len (pa_cons (pv 4) pa_nil))) (fun _ _ => rfl)))
  (pss_cons (ps_set (i := 7) sclaw.nd rfl (Or.inl rfl) (pe_lst (pa_cons (pe_mm (pv 1) T.cl_Store C.stTop (hr.mono (by decide)) (pa_cons (pv 5) pa_nil)) (pa_cons (pe_mm (pv 1) T.cl_Store C.stTop (hr.mono (by decide)) (pa_cons (pv 6) pa_nil)) pa_nil))))
  (pss_cons (ps_set (i := 8) sclaw.nd rfl (Or.inl rfl) (pe_d0 C.leavesL (hr.mono (by decide)) rfl (pa_cons (pe_fldK (K := K) rfl (pv 1) rfl) (pa_cons (pe_ix (ixL (K := K) rfl) (pv 7) pe_int (fun _ _ => rfl)) pa_nil))))
  (pss_cons (ps_set (i := 9) sclaw.nd rfl (Or.inl rfl) (pe_d0 C.leavesL (hr.mono (by decide)) rfl (pa_cons (pe_fldK (K := K) rfl (pv 1) rfl) (pa_cons (pe_ix (ixL (K := K) rfl) (pv 7) pe_int (fun _ _ => rfl)) pa_nil))))
  (pss_cons (ps_set (i := 10) sclaw.nd rfl (Or.inl rfl) (pe_lst pa_nil))
  (C8.pss_cut (ps_for (passes_of rfl) rfl (pi_list (pe_callB (XS.cr_sortT rfl) (by rfl) T.sorted boot_sorted (pa_cons (pe_callTy (XS.cr_setT rfl hr.units) (by rfl) T.set PyProof.Rows.boot_set (pa_cons (pe_op op_cat (pe_callTy (call_list_dT rfl) (by rfl) T.list PyProof.Rows.boot_list (pa_cons (pv 8) pa_nil)) (pe_callTy (call_list_dT rfl) (by rfl) T.list PyProof.Rows.boot_list (pa_cons (pv 9) pa_nil))) pa_nil)) pa_nil))) (pg_name (i := 11) sclaw.nd rfl (Or.inl rfl))
  (pss_one (ps_if (pt_cmpR op_ne (pe_dget2 hu (pv 8) (pv 11) pe_non ⟨rfl, rfl, rfl, rfl⟩) (pe_dget2 hu (pv 9) (pv 11) pe_non ⟨rfl, rfl, rfl, rfl⟩) (nomark _))
  (pss_one (ps_expr (pe_bm PySem.F.plainAttrs_list PySem.F.slot_list_append PySem.F.type_list_append mt_append (pv 10) (pa_cons (pe_tup (pa_cons (pv 11) (pa_cons (pe_dget2 hu (pv 8) (pv 11) pe_non ⟨rfl, rfl, rfl, rfl⟩) (pa_cons (pe_dget2 hu (pv 9) (pv 11) pe_non ⟨rfl, rfl, rfl, rfl⟩) pa_nil)))) pa_nil))))
  pss_nil)))
  (pss_cons (ps_set (i := 12) sclaw.nd rfl (Or.inl rfl) (pe_d0 C.lookedL (hr.mono (by decide)) rfl (pa_cons (pe_fldK (K := K) rfl (pv 1) rfl) (pa_cons (pe_ix (ixL (K := K) rfl) (pv 7) pe_int (fun _ _ => rfl)) (pa_cons (pe_ix (ixL (K := K) rfl) (pv 7) pe_int (fun _ _ => rfl)) pa_nil)))))
  (pss_cons (ps_setLc (i := 13) (own := [("_law_row", 14)]) (g := gName 14) (tt := tYes) rfl sclaw.nd rfl rfl (sw_true rfl rfl rfl (by decide +kernel)) (pi_list (pv 10)) (blkOk_by (N := ["_law_script", "_law_store", "_law_k", "_law_shots", "_law_views", "_law_one", "_law_other", "_law_tops", "_law_left", "_law_right", "_law_due", "_law_path", "_law_looked_here", "_law_back", "_law_row", "_law_first", "_law_second"]) (sc := defScope slaw) (by decide +kernel)) (fun _ _ _ _ _ => pg_name (i := 14) sclaw.nd rfl (Or.inl rfl)) (fun _ _ _ _ _ => pts_nil) (fun _ _ _ _ _ => (pe_tup (pa_cons (pe_ix (ixT (K := K) rfl) (pv 14) pe_int (fun _ _ => rfl)) (pa_cons (pe_ix (ixT (K := K) rfl) (pv 14) pe_int (fun _ _ => rfl)) (pa_cons (pe_ix (ixT (K := K) rfl) (pv 14) pe_int (fun _ _ => rfl)) pa_nil))))))
  (pss_cons (ps_for (passes_of rfl) rfl (pi_list (pe_ix (ixT (K := K) rfl) (pe_mm (pv 1) T.cl_Store C.stChanges (hr.mono (by decide)) (pa_cons (pv 5) (pa_cons (pv 6) pa_nil))) pe_int (fun _ _ => rfl))) (pg_name (i := 14) sclaw.nd rfl (Or.inl rfl))
  (pss_one (ps_expr (pe_bm PySem.F.plainAttrs_list PySem.F.slot_list_append PySem.F.type_list_append mt_append (pe_ix (ixT (K := K) rfl) (pv 14) pe_int (fun _ _ => rfl)) (pa_cons pe_str pa_nil)))))
  (pss_cons (ps_expr (pe_bm PySem.F.plainAttrs_list PySem.F.slot_list_append PySem.F.type_list_append mt_append (pe_ix (ixT (K := K) rfl) (pe_mm (pv 1) T.cl_Store C.stChanges (hr.mono (by decide)) (pa_cons (pv 5) (pa_cons (pv 6) pa_nil))) pe_int (fun _ _ => rfl)) (pa_cons pe_int pa_nil)))
  (pss_cons (ps_set (i := 15) sclaw.nd rfl (Or.inl rfl) (pe_mm (pv 1) T.cl_Store C.stChanges (hr.mono (by decide)) (pa_cons (pv 5) (pa_cons (pv 6) pa_nil))))
  (pss_cons (ps_set (i := 16) sclaw.nd rfl (Or.inl rfl) (pe_mm (pv 1) T.cl_Store C.stChanges (hr.mono (by decide)) (pa_cons (pv 6) (pa_cons (pv 5) pa_nil))))
  (pss_one (ps_ret (pe_and (pe_d0 C.toldL (hr.mono (by decide)) rfl (pa_cons (pv 15) (pa_cons (pv 10) (pa_cons (pv 12) pa_nil)))) (pe_one (pe_d0 C.toldL (hr.mono (by decide)) rfl (pa_cons (pv 16) (pa_cons (pv 13) (pa_cons (pv 12) pa_nil))))))))))))))))))))))))), ?_⟩
    repeat walk_at "sx"
    refine st_newStore tb ?_
    intro B H1 hB g1 st1
    have tb1 := g1.tab _ tb
    have tn1 := g1.tab _ tn
    have hS1 := g1.l hS
    repeat walk_at "sx"
    refine ⟨l, ns, 0, rfl, hS1, ?_⟩
    repeat walk_at "sx"
    refine st_I ⟨by decide, by decide⟩ ?_
    repeat walk_at "sx"
    refine st_I (by show (0 : Int) < 41; decide) ?_
    repeat walk_at "sx"
    refine ⟨l, ns, 0, rfl, hS1, ?_⟩
    repeat walk_at "sx"
    refine st_I (by show (0 : Int) < 5; decide) ?_
    repeat walk_at "sx"
    refine .inr ⟨_, rfl, ?_⟩
    obtain ⟨a0, ea0, ha0⟩ := nat_emod (cellOf ns 0 / 5) 41 41 rfl (by decide)
    rw [ea0]
    repeat walk_at "sx"
    refine st_I (.inl ⟨by omega, by omega⟩) ?_
    obtain ⟨nf, enf, hnf⟩ : ∃ nf : Nat, ((a0 : Int) * (if decide (V.int (cellOf ns 0 % 5) = V.int 2) = true then 1 else 0)) = (nf : Int) ∧ nf ≤ 40 := by
      by_cases q : decide (V.int (cellOf ns 0 % 5) = V.int 2) = true
      · rw [if_pos q]
        exact ⟨a0, by omega, by omega⟩
      · rw [if_neg q]
        exact ⟨0, by omega, by omega⟩
    rw [enf]
    repeat walk_at "sx"
    refine st_exR (by omega) (by omega) ?_
    rw [Int.toNat_natCast]
    refine st_loopR (fun i σ H' => ∃ (X : TS) (D : List (List Str)) (u : Option V), σ = [some (.ref l), some (.ref B.p), u, none, none, none, none, none, none, none, none, none, none, none, none, none, none] ∧ Gx B.foot H1 H' ∧ StAt K C_Store C_Pile H' B X ∧ X.Ok ∧ Two X ∧ Wth X D ∧ D.length ≤ i ∧ X.S.made ≤ 1 + 9 * i ∧ X.taken ≤ i)
      ⟨TS.new, [], none, rfl, Gx.refl _, st1, TS.Ok.new, Two.new, Wth.new, Nat.le_refl _, by decide, by decide⟩ ?_ ?_
    · rintro i σ H2 hi ⟨X, D, u, rfl, gx2, st2, ok, tw, wt, hD, hm, htk⟩
      have hp := pathL_two (fillN_ok (k := i) (by omega))
      obtain ⟨X', g', ep, tw'⟩ := tw.goes ok hp (i : Int) (by omega)
      obtain ⟨dd, hm', ht'⟩ := put_deed ok hp (by omega) ep
      have wt' := put_wth ok wt hp (by omega) ep
      have ok' := dd.ok
      have e6 : (i : Int) % 6 = ((i % 6 : Nat) : Int) := by omega
      have e7 : (i : Int) / 6 = ((i / 6 : Nat) : Int) := by omega
      have e8 : 1 + (i : Int) % 3 = ((1 + i % 3 : Nat) : Int) := by omega
      repeat walk_at "sx"
      refine st2.fm (by decide +kernel) (by decide +kernel) (by decide +kernel) (by decide +kernel) ?_
      repeat walk_at "sx"
      refine st_I (by show (0 : Int) < 6; decide) ?_
      rw [e6]
      repeat walk_at "sx"
      refine st_ixS (by decide +kernel) (chA_at i) ?_
      repeat walk_at "sx"
      refine st_I ⟨by decide, by decide⟩ ?_
      rw [e7]
      repeat walk_at "sx"
      refine st_ixS (by decide +kernel) (chB_at (by omega)) ?_
      repeat walk_at "sx"
      refine st_I (by show (0 : Int) < 3; decide) ?_
      repeat walk_at "sx"
      rw [e8]
      refine st_mulS (by show 1 ≤ 1; decide) (by show 1 ≤ 16; decide) (by omega) ?_
      refine st_addS (sz_of ?_) ?_
      · show 1 + _ ≤ _
        have := okN_le (fillN_ok (k := i) (by omega))
        have h2 : (fillN i).length = 1 + (repS ⟨#[chB i]⟩ (1 + i % 3)).length := by
          unfold fillN
          rw [len_app] <;> rfl
        omega
      repeat walk_at "sx"
      refine ⟨by show 2 ≤ sizeLine; decide, ?_⟩
      walk_at "new"; rename_i q4 hq4 H4 g4 e4
      have st4 := st2.gr g4
      have e4 : H4 q4 = some (.lst (([strB, fillN i] : List Str).map V.str)) := e4
      repeat walk_at "sx"
      refine ⟨B, X, _, _, some (([strB, fillN i] : List Str).map V.str), some (i : Int), rfl, st4, ok, path_in (.inl (.of e4)) hp.le hp.ok, ⟨rfl, isNum_small (by omega) (by omega)⟩, by omega, g4.tab _ (gx2.tab _ tb1), g4.tab _ (gx2.tab _ tn1), ?_⟩
      rw [hp.putO, ep]
      intro H5 gx5 st5
      have st5 : StAt K C_Store C_Pile H5 B X' := st5
      have hD' : (D ++ [[strB, fillN i]]).length ≤ i + 1 := by rw [List.length_append, List.length_singleton]; omega
      repeat walk_at "sx"
      refine st_I (by show (0 : Int) < 16; decide) ?_
      repeat walk_at "sx"
      refine ite3 (fun _ => ?_) (fun _ => ?_)
      · repeat walk_at "sx"
        refine st5.fm (by decide +kernel) (by decide +kernel) (by decide +kernel) (by decide +kernel) ?_
        repeat walk_at "sx"
        refine ⟨B, X', rfl, st5, ok', by omega, fun H6 gx6 st6 => ?_⟩
        have st6 : StAt K C_Store C_Pile H6 B X'.snapF := st6
        repeat walk_at "sx"
        exact ⟨X'.snapF, _, _, rfl, ((gx2.then g4).trans gx5).trans gx6, st6, ok'.snap (by omega), tw'.snap, wt'.snap, hD', by show X'.S.made ≤ _; omega, by show X'.taken + 1 ≤ _; omega⟩
      · repeat walk_at "sx"
        exact ⟨X', _, _, rfl, (gx2.then g4).trans gx5, st5, ok', tw', wt', hD', by omega, by omega⟩
    · rintro σ H2 ⟨X, D, u, rfl, gx2, st2, ok, _, wt, hD, hm, htk⟩
      have hnf2 : D.length ≤ 40 ∧ X.S.made ≤ 361 ∧ X.taken ≤ 40 := ⟨by omega, by omega, by omega⟩
      repeat walk_at "sx"
      refine st_lenL (gx2.l hS1) ?_
      rw [List.length_map]
      repeat walk_at "sx"
      refine st_I ⟨by decide, by decide⟩ ?_
      repeat walk_at "sx"
      refine ⟨_, _, rfl, ?_⟩
      obtain ⟨n, en, hn, hn2⟩ : ∃ n : Nat, (if ((ns.length : Nat) : Int) / 2 < 24 then ((ns.length : Nat) : Int) / 2 else 24) = (n : Int) ∧ n ≤ 24 ∧ 2 * n ≤ ns.length := by
        by_cases q : ((ns.length : Nat) : Int) / 2 < 24
        · rw [if_pos q]
          exact ⟨ns.length / 2, by omega, by omega, by omega⟩
        · rw [if_neg q]
          exact ⟨24, rfl, by omega, by omega⟩
      rw [en]
      repeat walk_at "sx"
      refine st_exR (by omega) (by omega) ?_
      rw [Int.toNat_natCast]
      refine st_loopR (fun i σ H' => ∃ (X : TS) (D : List (List Str)) (u2 u3 : Option V), σ = [some (.ref l), some (.ref B.p), u2, u3, none, none, none, none, none, none, none, none, none, none, none, none, none] ∧ Gx B.foot H1 H' ∧ StAt K C_Store C_Pile H' B X ∧ X.Ok ∧ Wth X D ∧ D.length ≤ 40 + i ∧ X.S.made ≤ 361 + 9 * i ∧ X.taken ≤ 40 + 33 * i)
        ⟨X, D, _, _, rfl, gx2, st2, ok, wt, by omega, by omega, by omega⟩ ?_ ?_
      · rintro i σ H3 hi ⟨X, D, u2, u3, rfl, gx3, st3, ok, wt, hD, hm, htk⟩
        have hS3 := gx3.l hS1
        repeat walk_at "sx"
        refine st3.fm (by decide +kernel) (by decide +kernel) (by decide +kernel) (by decide +kernel) ?_
        repeat walk_at "sx"
        refine ⟨B, X, rfl, st3, ok, fun l4 H4 hl4 g4 e4 => ?_⟩
        have st4 := st3.gr g4
        have gx4 := gx3.then g4
        repeat walk_at "sx"
        refine st_cut (fun σ' H' => σ' = [some (.ref l), some (.ref B.p), some (.int (i : Int)), some (.ref l4), none, none, none, none, none, none, none, none, none, none, none, none, none] ∧ Gr H4 H') ?_ ?_
        · repeat walk_at "sx"
          refine st_I (by show (0 : Int) < 3; decide) ?_
          repeat walk_at "sx"
          refine ite3 (fun _ => ?_) (fun _ => ?_)
          · repeat walk_at "sx"
            refine ⟨by show 0 ≤ sizeLine; decide, ?_⟩
            walk_at "new"; rename_i q5 hq5 H5 g5 e5
            refine st_neI (xs := X.shots.map (·.1)) (ys := []) (.of (g5.lst e4)) (.of e5) ?_
            by_cases hsh : X.shots.map (·.1) = []
            · rw [decide_eq_true hsh]
              repeat walk_at "sx"
              exact ⟨rfl, g5⟩
            · rw [decide_eq_false hsh]
              repeat walk_at "sx"
              have st5 := st4.gr g5
              have e45 := g5.lst e4
              obtain ⟨k0, ks, eks⟩ := List.exists_cons_of_ne_nil hsh
              have hk0 : k0 ∈ X.nums := by show k0 ∈ X.shots.map (·.1); rw [eks]; exact List.mem_cons_self
              obtain ⟨z0, ez0⟩ := ok.shot_of hk0
              have hz0 : z0 ∈ X.top :: X.shots.map (·.2) := List.mem_cons_of_mem _ (List.mem_map.mpr ⟨_, findI_mem ez0, rfl⟩)
              have htop : X.top ∈ X.top :: X.shots.map (·.2) := List.mem_cons_self
              obtain ⟨ks2, k1, eks2⟩ : ∃ ks2 k1, X.shots.map (·.1) = ks2 ++ [k1] := ⟨_, _, (List.dropLast_concat_getLast hsh).symm⟩
              have hk1 : k1 ∈ X.nums := by show k1 ∈ X.shots.map (·.1); rw [eks2]; exact List.mem_append_right _ List.mem_cons_self
              obtain ⟨z1, ez1⟩ := ok.shot_of hk1
              have hz1 : z1 ∈ X.top :: X.shots.map (·.2) := List.mem_cons_of_mem _ (List.mem_map.mpr ⟨_, findI_mem ez1, rfl⟩)
              have c0 := Wth.cmp ok wt htop hz0
              have c1 := Wth.cmp ok wt hz1 htop
              refine st5.fm (by decide +kernel) (by decide +kernel) (by decide +kernel) (by decide +kernel) ?_
              repeat walk_at "sx"
              refine st_ixL (xs := (X.shots.map (·.1)).map V.int) (.of e45) (atI_nat (j := 0) (by rw [eks] <;> rfl)) ?_
              repeat walk_at "sx"
              refine ⟨B, X, .non, .int k0, .tree, .shot k0, X.top, z0, rfl, st5, ok, rfl, rfl, rfl, ez0, wt.flat ok htop, wt.flat ok hz0, by omega, fun t6 fl6 fs6 H6 _ _ g6 _ _ _ => ?_⟩
              have st6 := st5.gr g6
              repeat walk_at "sx"
              refine st6.fm (by decide +kernel) (by decide +kernel) (by decide +kernel) (by decide +kernel) ?_
              repeat walk_at "sx"
              refine st_un ?_
              repeat walk_at "sx"
              refine st_rU ?_
              refine st_ixL (xs := ks2.map V.int ++ [V.int k1]) (.of (by rw [← List.map_singleton (f := V.int), ← List.map_append, ← eks2]; exact g6.lst e45)) atI_m1 ?_
              repeat walk_at "sx"
              refine ⟨B, X, .int k1, .non, .shot k1, .tree, z1, X.top, rfl, st6, ok, rfl, rfl, ez1, rfl, wt.flat ok hz1, wt.flat ok htop, by omega, fun t7 fl7 fs7 H7 _ _ g7 _ _ _ => ?_⟩
              repeat walk_at "sx"
              exact ⟨rfl, (g5.trans g6).trans g7⟩
          · repeat walk_at "sx"
            exact ⟨rfl, Gr.refl _⟩
        · rintro σ' H5 ⟨rfl, g5⟩
          have gx5 := gx4.then g5
          have st5 := st4.gr g5
          repeat walk_at "sx"
          refine st_I (.inl ⟨by decide, by decide⟩) ?_
          refine st_ixL (g5.l (g4.l hS3)) (by rw [show (2 : Int) * (i : Int) = ((2 * i : Nat) : Int) by omega]; exact cellAt (by omega)) ?_
          repeat walk_at "sx"
          refine st_I (.inl ⟨by decide, by decide⟩) ?_
          repeat walk_at "sx"
          refine st_ixL (g5.l (g4.l hS3)) (by rw [show (2 : Int) * (i : Int) + 1 = ((2 * i + 1 : Nat) : Int) by omega]; exact cellAt (by omega)) ?_
          repeat walk_at "sx"
          refine ⟨B, X, D, _, _, rfl, st5, ok, wt, by omega, by omega, gx5.tab _ tb1, gx5.tab _ tn1, fun X' D' g ok' wt' hD' hm' ht' H6 gx6 st6 => ?_⟩
          have st6 : StAt K C_Store C_Pile H6 B X' := st6
          repeat walk_at "sx"
          exact ⟨X', D', _, _, rfl, gx5.trans gx6, st6, ok', wt', by omega, by omega, by omega⟩
      · rintro σ H3 ⟨X, D, u2, u3, rfl, gx3, st3, ok, wt, hD, hm, htk⟩
        have hS3 := gx3.l hS1
        have hD64 : D.length ≤ 64 := by omega
        have hsl : X.shots.length ≤ X.taken := nodup_le (List.nodup_of_lt ok.ks) ok.kb
        have ti := ok.t.toTInv
        repeat walk_at "sx"
        refine ⟨by show 1 ≤ sizeLine; decide, ?_⟩
        walk_at "new"; rename_i l4 hl4 H4 g4 e4
        have st4 := st3.gr g4
        repeat walk_at "sx"
        refine st4.fm (by decide +kernel) (by decide +kernel) (by decide +kernel) (by decide +kernel) ?_
        repeat walk_at "sx"
        refine ⟨B, X, rfl, st4, ok, fun l5 H5 hl5 g5 e5 => ?_⟩
        refine st_cat (g5.lst e4) e5 (sz_of (by rw [List.length_map, List.length_map]; show 1 + _ ≤ _; omega)) ?_
        walk_at "new"; rename_i l6 hl6 H6 g6 e6
        have g36 := (g4.trans g5).trans g6
        have st6 := st3.gr g36
        have e6 : H6 l6 = some (.lst (V.non :: (X.shots.map (·.1)).map V.int)) := e6
        have hpos : 0 < (V.non :: (X.shots.map (·.1)).map V.int).length := by simp
        repeat walk_at "sx"
        refine ⟨l, ns, 0, rfl, g36.l hS3, ?_⟩
        repeat walk_at "sx"
        refine st_I ⟨by decide, by decide⟩ ?_
        repeat walk_at "sx"
        refine st_lenL (.of e6) ?_
        refine st_I (by show (0 : Int) < _; exact Int.ofNat_lt.mpr hpos) ?_
        obtain ⟨j1, ej1, hj1⟩ := nat_emod (cellOf ns 0 / 3) _ _ rfl hpos
        rw [ej1]
        obtain ⟨x1, v1, z1, ex1, hv1, ez1, hz1⟩ := view_at ok hj1
        refine st_ixL (.of e6) (atI_nat ex1) ?_
        repeat walk_at "sx"
        refine ⟨l, ns, 1, rfl, g36.l hS3, ?_⟩
        repeat walk_at "sx"
        refine st_I ⟨by decide, by decide⟩ ?_
        repeat walk_at "sx"
        refine st_lenL (.of e6) ?_
        refine st_I (by show (0 : Int) < _; exact Int.ofNat_lt.mpr hpos) ?_
        obtain ⟨j2, ej2, hj2⟩ := nat_emod (cellOf ns 1 / 7) _ _ rfl hpos
        rw [ej2]
        obtain ⟨x2, v2, z2, ex2, hv2, ez2, hz2⟩ := view_at ok hj2
        refine st_ixL (.of e6) (atI_nat ex2) ?_
        have f1 := wt.flat ok hz1
        have f2 := wt.flat ok hz2
        have b1 := ok.t.there z1 hz1
        have b2 := ok.t.there z2 hz2
        have n1 := Wth.cnt ok wt hz1 9
        have n2 := Wth.cnt ok wt hz2 9
        repeat walk_at "sx"
        refine st6.fm (by decide +kernel) (by decide +kernel) (by decide +kernel) (by decide +kernel) ?_
        repeat walk_at "sx"
        refine ⟨B, X, x1, v1, rfl, st6, hv1 _ _, ?_⟩
        rw [ez1]
        repeat walk_at "sx"
        refine st6.fm (by decide +kernel) (by decide +kernel) (by decide +kernel) (by decide +kernel) ?_
        repeat walk_at "sx"
        refine ⟨B, X, x2, v2, rfl, st6, hv2 _ _, ?_⟩
        rw [ez2]
        repeat walk_at "sx"
        refine ⟨by show 2 ≤ sizeLine; decide, ?_⟩
        walk_at "new"; rename_i l7 hl7 H7 g7 e7
        have st7 := st6.gr g7
        repeat walk_at "sx"
        refine lf_fld st7.ins T.cl_Store T.n_Store_pile (sfs_lk _ _ _).1 ?_
        repeat walk_at "sx"
        refine st_ixL (.of e7) (atI_nat (j := 0) rfl) ?_
        repeat walk_at "sx"
        refine ⟨B.A, X.S, _, z1, rfl, st7.pl, ti, b1, f1, by omega, fun d1 k1 L1 H8 hd1 g8 e8 ld1 ll1 => ?_⟩
        have st8 := st7.gr g8
        repeat walk_at "sx"
        refine lf_fld st8.ins T.cl_Store T.n_Store_pile (sfs_lk _ _ _).1 ?_
        repeat walk_at "sx"
        refine st_ixL (.of (g8.lst e7)) (atI_nat (j := 1) rfl) ?_
        repeat walk_at "sx"
        refine ⟨B.A, X.S, _, z2, rfl, st8.pl, ti, b2, f2, by omega, fun d2 k2 L2 H9 hd2 g9 e9 ld2 ll2 => ?_⟩
        have st9 := st8.gr g9
        have e89 : H9 d1 = some (.dT k1) := g9.keep _ _ e8 (fun _ z => by cases z)
        have e79 := g9.lst (g8.lst e7)
        repeat walk_at "sx"
        refine ⟨by show 0 ≤ sizeLine; decide, ?_⟩
        walk_at "new"; rename_i l10 hl10 H10 g10 e10
        have g39 := ((g36.trans g7).trans g8).trans g9
        generalize hchg : (cmpF X.S 9 [] (some z1) (some z2)).1 = chg
        repeat walk_at "sx"
        refine st_cut (fun σ' H' => ∃ (us : List V) (u11 : Option V), σ' = [some (.ref l), some (.ref B.p), u2, u3, some (.ref l6), some x1, some x2, some (.ref l7), some (.ref d1), some (.ref d2), some (.ref l10), u11, none, none, none, none, none] ∧ Gr H9 H' ∧ H' l10 = some (.lst us) ∧ Dues K H' us chg) ?_ ?_
        · repeat walk_at "sx"
          refine ⟨d1, k1, rfl, .inl (g10.keep _ _ e89 (fun _ z => by cases z)), fun p1 bs1 hp1 ik1 => ?_⟩
          obtain ⟨r1, er1, tu1, ke1⟩ := keys_rows ik1
          rw [er1]
          generalize hH11 : upd H10 p1 _ = H11
          have g11 := gr_of hp1 hH11
          have e11 := at_of hH11
          repeat walk_at "sx"
          refine ⟨d2, k2, rfl, .inl (g11.keep _ _ (g10.keep _ _ e9 (fun _ z => by cases z)) (fun _ z => by cases z)), fun p2 bs2 hp2 ik2 => ?_⟩
          obtain ⟨r2, er2, tu2, ke2⟩ := keys_rows ik2
          rw [er2]
          generalize hH12 : upd H11 p2 _ = H12
          have g12 := gr_of hp2 hH12
          have e12 := at_of hH12
          have lr1 : r1.length = L1.length := by
            have h1 := congrArg List.length ke1
            have h2 := congrArg List.length ld1.keys
            rw [List.length_map, List.length_map] at h1
            rw [List.length_map, List.length_map] at h2
            omega
          have lr2 : r2.length = L2.length := by
            have h1 := congrArg List.length ke2
            have h2 := congrArg List.length ld2.keys
            rw [List.length_map, List.length_map] at h1
            rw [List.length_map, List.length_map] at h2
            omega
          refine st_cat (g12.lst e11) e12 (sz_of (by rw [List.length_map, List.length_map]; omega)) ?_
          walk_at "new"; rename_i q13 hq13 H13 g13 e13
          rw [← List.map_append] at e13
          have tup13 : ∀ p ∈ r1 ++ r2, H13 p.1 = some (.tup (p.2.map kV)) := fun p hp => by
            rcases List.mem_append.mp hp with hp | hp
            · exact g13.tup (g12.tup (g11.tup (tu1 p hp)))
            · exact g13.tup (g12.tup (tu2 p hp))
          have mem1 : ∀ p ∈ r1 ++ r2, ∃ ns : List Str, p.2 = ns.map Sum.inr ∧ (ns ∈ L1 ∨ ns ∈ L2) := fun p hp => by
            rcases List.mem_append.mp hp with hp | hp
            · have : p.2 ∈ r1.map (·.2) := List.mem_map.mpr ⟨p, hp, rfl⟩
              rw [ke1, ld1.keys] at this
              obtain ⟨m, hm, e⟩ := List.mem_map.mp this
              exact ⟨m, e.symm, .inl hm⟩
            · have : p.2 ∈ r2.map (·.2) := List.mem_map.mpr ⟨p, hp, rfl⟩
              rw [ke2, ld2.keys] at this
              obtain ⟨m, hm, e⟩ := List.mem_map.mp this
              exact ⟨m, e.symm, .inr hm⟩
          have mem2 : ∀ ns : List Str, ns ∈ L1 ∨ ns ∈ L2 → (ns.map Sum.inr : XS.XK) ∈ (r1 ++ r2).map (·.2) := fun m hm => by
            rw [List.map_append, ke1, ke2, ld1.keys, ld2.keys]
            exact List.mem_append.mpr (hm.imp (fun h => List.mem_map.mpr ⟨m, h, rfl⟩) fun h => List.mem_map.mpr ⟨m, h, rfl⟩)
          have inD : ∀ m : List Str, m ∈ L1 ∨ m ∈ L2 → m ∈ D ∧ m ≠ [] := fun m hm => by
            have key : ∀ z ∈ X.top :: X.shots.map (·.2), nAt X.S (some z) m ≠ .non → m ∈ D ∧ m ≠ [] := fun z hz h => by
              obtain ⟨v, e⟩ := nAt_leaf h
              refine ⟨(wt.tr z hz m _ e).2 rfl, fun q => ?_⟩
              rw [q] at e
              obtain ⟨rs, c, ebr⟩ := ok.br z hz
              rw [AtB.nil, bxO_some ebr] at e
              cases e
            rcases hm with hm | hm
            · exact key z1 hz1 ((ld1.mem m).mp hm)
            · exact key z2 hz2 ((ld2.mem m).mp hm)
          repeat walk_at "sx"
          refine ⟨q13, r1 ++ r2, rfl, .of e13, fun p hp => .of (tup13 p hp), ⟨D.map fun m => m.map Sum.inr, by rw [List.length_map]; omega, fun p hp => ?_⟩, fun q14 LL hq14 sub all => ?_⟩
          · obtain ⟨m, em, hm⟩ := mem1 p hp
            rw [em]
            exact List.mem_map.mpr ⟨m, (inD m hm).1, rfl⟩
          generalize hH14 : upd H13 q14 _ = H14
          have g14 := gr_of hq14 hH14
          have e14 := at_of hH14
          repeat walk_at "sx"
          refine ⟨q14, LL, rfl, e14, fun p hp => .of (g14.tup (tup13 p (sub p hp))), fun p hp => ?_, fun L' q15 pm nd ln pw hq15 => ?_⟩
          · obtain ⟨m, em, hm⟩ := mem1 p (sub p hp)
            rw [em]
            refine ⟨fun q => (inD m hm).2 (List.map_eq_nil_iff.mp q), fun x hx => ?_⟩
            obtain ⟨y, _, e⟩ := List.mem_map.mp hx
            exact ⟨y, e.symm⟩
          generalize hH15 : upd H14 q15 _ = H15
          have g15 := gr_of hq15 hH15
          have e15 := at_of hH15
          have g1015 := ((((g11.trans g12).trans g13).trans g14).trans g15)
          have e1015 := g1015.lst e10
          have nq15 : q15 ≠ l10 := fun z => by
            rw [z] at hq15
            have := (((g11.trans g12).trans g13).trans g14).lst e10
            rw [hq15] at this
            cases this
          have keyL : ∀ p ∈ L', ∃ ns : List Str, p.2 = ns.map Sum.inr := fun p hp => by
            obtain ⟨m, em, _⟩ := mem1 p (sub p (pm.mem_iff.mp hp))
            exact ⟨m, em⟩
          have srt := sorted_paths (La := L1) (Lb := L2) keyL nd pw
          generalize hLp : L'.map (fun p => unK p.2) = Lp at srt
          have duec : dueF X.S (some z1) (some z2) Lp = chg := by
            rw [← hchg]
            refine due_cmp f1 f2 srt fun m hm => ?_
            have hm2 : m ∈ L1 ∨ m ∈ L2 := by
              by_cases q : nAt X.S (some z1) m = .non
              · rw [q] at hm
                exact .inr ((ld2.mem m).mpr fun z => hm z.symm)
              · exact .inl ((ld1.mem m).mpr q)
            obtain ⟨p, hp, ep⟩ := List.mem_map.mp (mem2 m hm2)
            have h2 := all p hp
            rw [ep] at h2
            obtain ⟨p', hp', ep'⟩ := List.mem_map.mp h2
            rw [← hLp]
            exact List.mem_map.mpr ⟨p', pm.mem_iff.mpr hp', by rw [ep', unK_map]⟩
          have lLp : L'.length = Lp.length := by rw [← hLp, List.length_map]
          refine st_exL (.of e15) ?_
          refine st_loop (m := _) (Y := fun i x => (L'.map fun q => V.ref q.1)[i]? = some x) walk_list (fun i σ' H' => ∃ (us : List V) (u11 : Option V), σ' = [some (.ref l), some (.ref B.p), u2, u3, some (.ref l6), some x1, some x2, some (.ref l7), some (.ref d1), some (.ref d2), some (.ref l10), u11, none, none, none, none, none] ∧ Gl l10 H15 H' ∧ H' l10 = some (.lst us) ∧ Dues K H' us (dueF X.S (some z1) (some z2) (Lp.take i)))
            ⟨[], none, rfl, Gl.of (Gr.refl _), e1015, .nil⟩ ?_ ?_ ?_
          · rintro i σ' H' _ ⟨us, u11, rfl, x16, _⟩
            exact .of (x16.keep _ _ e15 nq15 (fun _ z => by cases z))
          · rintro i x σ' H16 hi ⟨us, u11, rfl, x16, e16, du⟩ hx
            rw [List.getElem?_map] at hx
            obtain ⟨p, ep, rfl⟩ := Option.map_eq_some_iff.mp hx
            have hpL := List.mem_of_getElem? ep
            obtain ⟨m, em⟩ := keyL p hpL
            have emi : Lp[i]? = some m := by rw [← hLp, List.getElem?_map, ep, Option.map_some, em, unK_map]
            have etup : H15 p.1 = some (.tup (p.2.map kV)) := g15.tup (g14.tup (tup13 p (sub p (pm.mem_iff.mp hpL))))
            have et16 : H16 p.1 = some (.tup ((m.map Sum.inr : XS.XK).map kV)) := by
              rw [← em]
              exact x16.keep _ _ etup (ne_of etup e1015 (by intro z; cases z)) (fun _ z => by cases z)
            have ed1 : H15 d1 = some (.dT k1) := g1015.keep _ _ (g10.keep _ _ e89 (fun _ z => by cases z)) (fun _ z => by cases z)
            have ed2 : H15 d2 = some (.dT k2) := g1015.keep _ _ (g10.keep _ _ e9 (fun _ z => by cases z)) (fun _ z => by cases z)
            have f16a : H16 d1 = some (.dT k1) := x16.keep _ _ ed1 (ne_of ed1 e1015 (by intro z; cases z)) (fun _ z => by cases z)
            have f16b : H16 d2 = some (.dT k2) := x16.keep _ _ ed2 (ne_of ed2 e1015 (by intro z; cases z)) (fun _ z => by cases z)
            have dt := dueF_take (S := X.S) (a := some z1) (b := some z2) emi
            have lus := pd_len du
            have ldf : (dueF X.S (some z1) (some z2) (Lp.take i)).length ≤ 76 := by
              unfold dueF
              rw [List.length_map]
              refine Nat.le_trans (List.length_filter_le _ _) ?_
              rw [List.length_take]
              omega
            repeat walk_at "sx"
            refine st_dget2 ?_
            repeat walk_at "sx"
            refine ⟨d1, rfl, .inr ⟨_, .inl f16a⟩, ?_⟩
            repeat walk_at "sx"
            refine ⟨_, DGet.t f16a et16, ?_⟩
            rw [ld1.val m]
            repeat walk_at "sx"
            refine st_dget2 ?_
            repeat walk_at "sx"
            refine ⟨d2, rfl, .inr ⟨_, .inl f16b⟩, ?_⟩
            repeat walk_at "sx"
            refine ⟨_, DGet.t f16b et16, ?_⟩
            rw [ld2.val m]
            refine st_neN ?_
            by_cases hq : nAt X.S (some z1) m = nAt X.S (some z2) m
            · rw [show (decide (numB (AtB X.S (some z1) m) = numB (AtB X.S (some z2) m))) = true from decide_eq_true hq]
              rw [if_pos hq] at dt
              repeat walk_at "sx"
              exact ⟨us, _, rfl, x16, e16, by rw [dt]; exact du⟩
            · rw [show (decide (numB (AtB X.S (some z1) m) = numB (AtB X.S (some z2) m))) = false from decide_eq_false hq]
              rw [if_neg hq] at dt
              repeat walk_at "sx"
              refine st_tyL (.of e16) ?_
              repeat walk_at "sx"
              refine st_dget2 ?_
              repeat walk_at "sx"
              refine ⟨d1, rfl, .inr ⟨_, .inl f16a⟩, ?_⟩
              repeat walk_at "sx"
              refine ⟨_, DGet.t f16a et16, ?_⟩
              rw [ld1.val m]
              repeat walk_at "sx"
              refine st_dget2 ?_
              repeat walk_at "sx"
              refine ⟨d2, rfl, .inr ⟨_, .inl f16b⟩, ?_⟩
              repeat walk_at "sx"
              refine ⟨_, DGet.t f16b et16, ?_⟩
              rw [ld2.val m]
              repeat walk_at "sx"
              refine ⟨by show 3 ≤ sizeLine; decide, ?_⟩
              walk_at "new"; rename_i t17 ht17 H17 g17 e17
              repeat walk_at "sx"
              refine st_append (g17.lst e16) (sz_lt (by omega)) ?_
              refine ⟨_, _, rfl, (x16.trans (Gl.of g17)).trans (Gl.put (g17.lst e16)), upd_same, ?_⟩
              rw [dt]
              refine pd_snoc (Dues.mut (g17.lst e16) (Dues.gr g17 du)) ⟨t17, p.1, rfl, sqT_mut (g17.lst e16) (.of e17), ?_⟩
              have et17 := g17.tup et16
              rw [kV_map] at et17
              rw [upd_ne (ne_of et17 (g17.lst e16) (by intro z; cases z))]
              exact et17
          · rintro σ' H16 ⟨us, u11, rfl, x16, e16, du⟩
            rw [List.length_map, lLp, List.take_length, duec] at du
            exact ⟨us, u11, rfl, Gl.gr (g10.trans g1015) hl10 x16, e16, du⟩
        · rintro σ' H11 ⟨us, u11, rfl, g11, e11, du⟩
          have st11 := st9.gr g11
          have lk := Wth.look ok wt hz1 hz2
          have hrows : ∀ o, (rowsO X.S o).length ≤ 2000 := fun o => by
            have := ok.t.rowsLen o
            omega
          have e7_11 := g11.lst e79
          have hus := pd_len du
          have lchg : chg.length ≤ 64 := by
            rw [← hchg]
            have := Wth.cmp ok wt hz1 hz2
            omega
          repeat walk_at "sx"
          refine lf_fld st11.ins T.cl_Store T.n_Store_pile (sfs_lk _ _ _).1 ?_
          repeat walk_at "sx"
          refine st_ixL (.of e7_11) (atI_nat (j := 0) rfl) ?_
          repeat walk_at "sx"
          refine st_ixL (.of e7_11) (atI_nat (j := 1) rfl) ?_
          repeat walk_at "sx"
          refine ⟨B.A, X.S, _, z1, z2, rfl, st11.pl, ti, b1, b2, f1, f2, by omega, hrows, fun H12 g12 => ?_⟩
          have st12 := st11.gr g12
          have e12 := g12.lst e11
          have du12 := Dues.gr g12 du
          repeat walk_at "sx"
          refine st_exL (.of e12) ?_
          refine lc_acc (n := us.length) (Y := fun i x => us[i]? = some x) walk_list (fun H' g => g.l (.of e12)) (fun i acc H' => Dues K H' acc ((chg.map swp).take i)) (fun H5 _ => by rw [List.take_zero]; exact .nil) (fun i acc H H' g h => Dues.gr g h) (fun i acc H D xs zs e _ h => Dues.mut e h) ?_ (fun D13 D13s H13 hD13 g13 e13 _ bk => ?_) (by omega) (fun _ => rfl)
          · intro i x acc H13 hi hx g13 a13 Qy Qn q1 q2
            obtain ⟨r, er, t, pth, rfl, ht, hpth⟩ := pd_at (Dues.gr g13 du12) hx
            repeat walk_at "sx"
            refine st_ixT ht (atI_nat (j := 0) rfl) ?_
            repeat walk_at "sx"
            refine st_ixT ht (atI_nat (j := 2) rfl) ?_
            repeat walk_at "sx"
            refine st_ixT ht (atI_nat (j := 1) rfl) ?_
            repeat walk_at "sx"
            refine ⟨by show 3 ≤ sizeLine; decide, ?_⟩
            walk_at "new"; rename_i t14 ht14 H14 g14 e14
            refine q1 _ H14 g14 ?_
            have es : (chg.map swp)[i]? = some (swp r) := by rw [List.getElem?_map, er] <;> rfl
            obtain ⟨hi2, ei⟩ := List.getElem?_eq_some_iff.mp es
            rw [List.take_succ_eq_append_getElem hi2, ei]
            exact pd_snoc (Dues.gr g14 a13) ⟨t14, pth, rfl, .of e14, g14.tup hpth⟩
          have lbk : us.length = (chg.map swp).length := by rw [List.length_map]; exact hus
          rw [lbk, List.take_length] at bk
          have st13 := st12.gr g13
          have c12 : (cmpF X.S 9 [] (some z1) (some z2)).1.length ≤ 1000000 := by rw [hchg]; omega
          repeat walk_at "sx"
          refine st13.fm (by decide +kernel) (by decide +kernel) (by decide +kernel) (by decide +kernel) ?_
          repeat walk_at "sx"
          refine ⟨B, X, x1, x2, v1, v2, z1, z2, rfl, st13, ok, hv1 _ _, hv2 _ _, ez1, ez2, f1, f2, c12, fun t14 f14 fs14 H14 ht14 hf14 g14 et14 ef14 ch14 => ?_⟩
          rw [hchg] at ch14
          repeat walk_at "sx"
          refine st_ixT (.of et14) (atI_nat (j := 0) rfl) ?_
          generalize htwo : (cmpF X.S 9 [] (some z1) (some z2)).2 = two at et14 ⊢
          have chL : ∀ r ∈ chg, r.1.length ≤ 8 := fun r hr => by
            rw [← hchg] at hr
            obtain ⟨m, e, ne⟩ := (mem_cmpF 9 [] _ _ f1 f2 r).mp hr
            rw [e]
            exact (wt.ln m (wt.nAt hz1 hz2 ne)).2
          refine st_exL (.of ef14) ?_
          refine st_loop (m := _) (Y := fun i x => fs14[i]? = some x) walk_list (fun i σ' H' => ∃ (u14 : Option V), σ' = [some (.ref l), some (.ref B.p), u2, u3, some (.ref l6), some x1, some x2, some (.ref l7), some (.ref d1), some (.ref d2), some (.ref l10), u11, some (.int (two : Int)), some (.ref D13), u14, none, none] ∧ Gr H13 H' ∧ H' f14 = some (.lst fs14) ∧
              ∀ v ∈ fs14, ∃ t p a b xs, v = V.ref t ∧ SqT K H' t [.ref p, a, b] ∧ H' p = some (.lst xs) ∧ xs.length ≤ 8 + i ∧ H13 p = none ∧ p ≠ f14)
            ⟨none, rfl, g14, ef14, fun v hv => ?_⟩ ?_ ?_ ?_
          · obtain ⟨j, hj, ej⟩ := List.mem_iff_getElem.mp hv
            obtain ⟨r, er, t, p, ev, h1, h2, h3, h4⟩ := pd_at ch14 (show fs14[j]? = some v by rw [List.getElem?_eq_getElem hj, ej])
            exact ⟨t, p, _, _, _, ev, h1, h2, by rw [List.length_map]; exact chL r (List.mem_of_getElem? er), h3, h4⟩
          · rintro i σ' H' _ ⟨u14, rfl, g15, e15, _⟩
            exact .of e15
          · rintro i x σ' H15 hi ⟨u14, rfl, g15, e15, al⟩ hx
            obtain ⟨t, p, a, b, xs, rfl, ht, hp, hxl, hpn, hpf⟩ := al x (List.mem_of_getElem? hx)
            have hlf := pd_len ch14
            repeat walk_at "sx"
            refine st_ixT ht (atI_nat (j := 0) rfl) ?_
            refine st_tyL (.of hp) ?_
            repeat walk_at "sx"
            refine st_append hp (sz_lt (by omega)) ?_
            refine ⟨_, rfl, g15.mut hpn, by rw [upd_ne (Ne.symm hpf)]; exact e15, fun v hv => ?_⟩
            obtain ⟨t', p', a', b', xs', ev, ht', hp', hxl', hpn', hpf'⟩ := al v hv
            by_cases q : p' = p
            · subst q
              rw [hp] at hp'
              cases hp'
              exact ⟨t', p', a', b', _, ev, sqT_mut hp ht', upd_same, by rw [List.length_append, List.length_singleton]; omega, hpn', hpf'⟩
            · exact ⟨t', p', a', b', xs', ev, sqT_mut hp ht', by rw [upd_ne q]; exact hp', by omega, hpn', hpf'⟩
          · rintro σ' H15 ⟨u14, rfl, g15, _, _⟩
            have st15 := st13.gr g15
            repeat walk_at "sx"
            refine st15.fm (by decide +kernel) (by decide +kernel) (by decide +kernel) (by decide +kernel) ?_
            repeat walk_at "sx"
            refine ⟨B, X, x1, x2, v1, v2, z1, z2, rfl, st15, ok, hv1 _ _, hv2 _ _, ez1, ez2, f1, f2, c12, fun t16 f16 fs16 H16 ht16 hf16 g16 et16 ef16 ch16 => ?_⟩
            have lf16 := pd_len ch16
            repeat walk_at "sx"
            refine st_ixT (.of et16) (atI_nat (j := 0) rfl) ?_
            refine st_tyL (.of ef16) ?_
            repeat walk_at "sx"
            refine st_append ef16 (sz_lt (by rw [lf16, hchg]; omega)) ?_
            generalize hH17 : upd H16 f16 _ = H17
            have g17 : Gr H15 H17 := by rw [← hH17]; exact g16.mut hf16
            have st17 := st15.gr g17
            repeat walk_at "sx"
            refine st17.fm (by decide +kernel) (by decide +kernel) (by decide +kernel) (by decide +kernel) ?_
            repeat walk_at "sx"
            refine ⟨B, X, x1, x2, v1, v2, z1, z2, rfl, st17, ok, hv1 _ _, hv2 _ _, ez1, ez2, f1, f2, c12, fun t18 f18 fs18 H18 ht18 hf18 g18 et18 ef18 ch18 => ?_⟩
            have st18 := st17.gr g18
            have ecm := cmpF_comm (S := X.S) 9 [] (some z1) (some z2)
            have c21 : (cmpF X.S 9 [] (some z2) (some z1)).1.length ≤ 1000000 := by rw [ecm, List.length_map]; exact c12
            repeat walk_at "sx"
            refine st18.fm (by decide +kernel) (by decide +kernel) (by decide +kernel) (by decide +kernel) ?_
            repeat walk_at "sx"
            refine ⟨B, X, x2, x1, v2, v1, z2, z1, rfl, st18, ok, hv2 _ _, hv1 _ _, ez2, ez1, f2, f1, c21, fun t19 f19 fs19 H19 ht19 hf19 g19 et19 ef19 ch19 => ?_⟩
            rw [hchg] at ch18
            rw [htwo] at et18
            rw [ecm] at et19 ch19
            dsimp only at et19 ch19
            rw [htwo] at et19
            rw [hchg] at ch19
            have g1319 := ((g15.trans g17).trans g18).trans g19
            have okc := chg_ok ti f1 f2
            rw [hchg] at okc
            have okb : ∀ r ∈ chg.map swp, isN r.2.1 ∧ isN r.2.2 ∧ ∀ m ∈ r.1, okN m = true := fun r hr => by
              obtain ⟨q, hq, rfl⟩ := List.mem_map.mp hr
              obtain ⟨h1, h2, h3⟩ := okc q hq
              exact ⟨h2, h1, h3⟩
            have du19 := Dues.gr g1319 (Dues.gr g13 du12)
            have bk19 := Dues.gr g1319 bk
            have ch18' := Chgs.gr g19 ch18
            repeat walk_at "sx"
            refine ⟨t18, f18, l10, _, fs18, us, chg, two, rfl, .of (g19.tup et18), g19.lst ef18, ch18', .of (g1319.lst (g13.lst e12)), du19, okc, by omega, fun H20 g20 => ?_⟩
            repeat walk_at "sx"
            refine ⟨t19, f19, D13, _, fs19, D13s, chg.map swp, two, rfl, .of (g20.tup et19), g20.lst ef19, Chgs.gr g20 ch19, .of (g20.lst (g1319.lst e13)), Dues.gr g20 bk19, okb, by rw [List.length_map]; omega, fun H21 g21 => ?_⟩
            repeat walk_at "sx"
            exact k H21
end
theorem walk_tabs {l : PySem.W.OpenLaw} {n k : Nat} {q : Program} {loose : List Str} {XP : (Str → Option Value) → Heap → Prop} {YP : World → Heap → Prop} {d : DefRec} {K : Params → PySem.W.Frag} {CX : World → CXT} {x : Str} {ts : List Addr}
    (hn : l.most = some n) (hn2 : n ≤ sizeLine) (hdf : d.params.defaults = []) (hr : Room k callerA) (hY : ∀ (w : World) (h : Heap), YP w h → (K w.params).In h ∧ ∀ P ∈ ts, h.get? P = some (PySem.W.tabObj #[]))
    (F : ∀ (w : World) (mg : Str → Option Value) (fa : Addr) (h : Heap), (K w.params).In h → h.Ns mainGlobals mg → mg d.name = some (.ref fa) → (∀ P ∈ ts, h.get? P = some (PySem.W.tabObj #[])) → LamX.LawAtS l w (K w.params) (CX w) k n x mg fa h)
    (hCX : ∀ (w : World) (H : Hp) (s : Shared) (e : Value) (s' : Shared), CX w [] H s (fun _ _ _ => False) e s' → False) : PySem.W.WalkO q loose XP YP l.row.toRowW d [] (fun f vs => PySem.call f vs) := by
  refine Att.attach_callB hn hdf fun w s₀ s₁ mg mb fa o pm cd doc a vs ns G Y ho hd hcd hmg hobj hints hlen hbits hg => ?_
  obtain ⟨fd, cs, sp, hT, nT, C, hb, hsp, hF⟩ := F w mg fa _ (hY w _ Y).1 G.T.g hmg (hY w _ Y).2
  exact LamX.law_callTs (hY w _ Y).1 G.T.g G.T.b G.T.builtins G.T.nolimit hg hT nT C G.T.bmain hobj hints (Nat.le_trans hlen hn2) hr hF hb (fun H hH hS => hsp H a ns hlen hbits hH hS) fun H e s' => hCX w H s₁ e s'
theorem all_mk {l : PySem.W.OpenLaw} {w : World} {K : PySem.W.Frag} {h : Heap} {mg : Str → Option Value} {fa C_Pile C_Store E_NoBox E_SnapError E_BadPath E_BadNumber E_LeafThere E_BranchThere E_Nothing E_NoShot f0 f1 f2 f3 f4 f5 f6 f7 f8 f9 f10 f11 f12 f13 f14 f15 f16 f17 f18 f19 f20 f21 f22 f23 f24 f25 f26 f27 f28 f29 f30 f31 f32 f33 f34 f35 f36 f37 f38 f39 f40 f41 f42 f43 f44 f45 f46 f47 f48 f49 f50 Cd_is_name Pt_is_name Cd_branch Pt_branch : Addr} (X : K.In h) (G : h.Ns mainGlobals mg) (hfa : mg "law" = some (.ref fa))
    {od0 an0 od1 an1 od2 an2 od3 an3 od4 an4 od5 an5 od6 an6 od7 an7 od8 an8 od9 an9 od10 an10 od11 an11 od12 an12 od13 an13 od14 an14 od15 an15 od16 an16 od17 an17 od18 an18 od19 an19 od20 an20 od21 an21 od22 an22 od23 an23 od24 an24 od25 an25 od26 an26 od27 an27 od28 an28 od29 an29 od30 an30 od31 an31 od32 an32 od33 an33 od34 an34 od35 an35 od36 an36 od37 an37 od38 an38 od39 an39 od40 an40 od41 an41 od42 an42 od43 an43 od44 an44 od45 an45 od46 an46 od47 an47 od48 an48 od49 an49 od50 an50 : Option Addr} {sl0 sl1 sl2 sl3 sl4 sl5 sl6 sl7 sl8 sl9 sl10 sl11 sl12 sl13 sl14 sl15 sl16 sl17 sl18 sl19 sl20 sl21 sl22 sl23 sl24 sl25 sl26 sl27 sl28 sl29 sl30 sl31 sl32 sl33 sl34 sl35 sl36 sl37 sl38 sl39 sl40 sl41 sl42 sl43 sl44 sl45 sl46 sl47 sl48 sl49 sl50 : Array (Option Value)} {oc0 kV0 dc0 pm0 ct0 oc1 kV1 dc1 pm1 ct1 cd1 oc2 kV2 dc2 pm2 ct2 cd2 oc3 kV3 dc3 pm3 ct3 cd3 oc4 kV4 dc4 pm4 ct4 cd4 oc5 kV5 dc5 pm5 ct5 cd5 oc6 kV6 dc6 pm6 ct6 oc7 kV7 dc7 pm7 ct7 cd7 oc8 kV8 dc8 pm8 ct8 cd8 oc9 kV9 dc9 pm9 ct9 cd9 oc10 kV10 dc10 pm10 ct10 cd10 oc11 kV11 dc11 pm11 ct11 cd11 oc12 kV12 dc12 pm12 ct12 cd12 oc13 kV13 dc13 pm13 ct13 cd13 oc14 kV14 dc14 pm14 ct14 cd14 oc15 kV15 dc15 pm15 ct15 cd15 oc16 kV16 dc16 pm16 ct16 cd16 oc17 kV17 dc17 pm17 ct17 cd17 oc18 kV18 dc18 pm18 ct18 cd18 oc19 kV19 dc19 pm19 ct19 cd19 oc20 kV20 dc20 pm20 ct20 cd20 oc21 kV21 dc21 pm21 ct21 cd21 oc22 kV22 dc22 pm22 ct22 cd22 oc23 kV23 dc23 pm23 ct23 cd23 oc24 kV24 dc24 pm24 ct24 cd24 oc25 kV25 dc25 pm25 ct25 cd25 oc26 kV26 dc26 pm26 ct26 cd26 oc27 kV27 dc27 pm27 ct27 cd27 oc28 kV28 dc28 pm28 ct28 cd28 oc29 kV29 dc29 pm29 ct29 cd29 oc30 kV30 dc30 pm30 ct30 cd30 oc31 kV31 dc31 pm31 ct31 cd31 oc32 kV32 dc32 pm32 ct32 cd32 oc33 kV33 dc33 pm33 ct33 cd33 oc34 kV34 dc34 pm34 ct34 cd34 oc35 kV35 dc35 pm35 ct35 cd35 oc36 kV36 dc36 pm36 ct36 cd36 oc37 kV37 dc37 pm37 ct37 cd37 oc38 kV38 dc38 pm38 ct38 cd38 oc39 kV39 dc39 pm39 ct39 cd39 oc40 kV40 dc40 pm40 ct40 cd40 oc41 kV41 dc41 pm41 ct41 cd41 oc42 kV42 dc42 pm42 ct42 cd42 oc43 kV43 dc43 pm43 ct43 cd43 oc44 kV44 dc44 pm44 ct44 cd44 oc45 kV45 dc45 pm45 ct45 cd45 oc46 kV46 dc46 pm46 ct46 cd46 oc47 kV47 dc47 pm47 ct47 cd47 oc48 kV48 dc48 pm48 ct48 cd48 oc49 kV49 dc49 pm49 ct49 cd49 oc50 kV50 dc50 pm50 ct50 cd50 : Value}
    (aC_Pile : PySem.W.nsIn K mainGlobals "Pile" = some (some (.ref C_Pile)))
    (aC_Store : PySem.W.nsIn K mainGlobals "Store" = some (some (.ref C_Store)))
    (a0 : PySem.W.nsIn K mainGlobals "is_name" = some (some (.ref f0))) (l0 : K.lookup f0 = some ⟨oc0, od0, .func (PySem.W.fnOf "is_name" "is_name" (defArgs sisName) (defBody sisName) (defScope sisName) .none kV0 dc0 pm0 an0 (.ref Cd_is_name) ct0), sl0⟩) (c0 : PySem.W.codeIn K (.ref Cd_is_name) "is_name" = true) (k0 : PySem.W.keepIn K (.ref f0) = true)
    (a1 : PySem.W.nsIn K mainGlobals "checked" = some (some (.ref f1))) (l1 : K.lookup f1 = some ⟨oc1, od1, .func (PySem.W.fnOf "checked" "checked" (defArgs schecked) (defBody schecked) (defScope schecked) .none kV1 dc1 pm1 an1 cd1 ct1), sl1⟩) (c1 : PySem.W.codeIn K cd1 "checked" = true) (k1 : PySem.W.keepIn K (.ref f1) = true)
    (a2 : PySem.W.nsIn K mainGlobals "is_whole" = some (some (.ref f2))) (l2 : K.lookup f2 = some ⟨oc2, od2, .func (PySem.W.fnOf "is_whole" "is_whole" (defArgs sisWhole) (defBody sisWhole) (defScope sisWhole) .none kV2 dc2 pm2 an2 cd2 ct2), sl2⟩) (c2 : PySem.W.codeIn K cd2 "is_whole" = true) (k2 : PySem.W.keepIn K (.ref f2) = true)
    (a3 : PySem.W.nsIn K mainGlobals "is_leaf_number" = some (some (.ref f3))) (l3 : K.lookup f3 = some ⟨oc3, od3, .func (PySem.W.fnOf "is_leaf_number" "is_leaf_number" (defArgs sisLeafNumber) (defBody sisLeafNumber) (defScope sisLeafNumber) .none kV3 dc3 pm3 an3 cd3 ct3), sl3⟩) (c3 : PySem.W.codeIn K cd3 "is_leaf_number" = true) (k3 : PySem.W.keepIn K (.ref f3) = true)
    (a4 : PySem.W.findIn K (.ref C_Pile) "__init__" = some (some (.ref f4))) (i4 : PySem.W.isFn K (.ref f4) = true) (l4 : K.lookup f4 = some ⟨oc4, od4, .func (PySem.W.fnOf "__init__" "Pile.__init__" (defArgs splInit) (defBody splInit) (defScope splInit) .none kV4 dc4 pm4 an4 cd4 ct4), sl4⟩) (c4 : PySem.W.codeIn K cd4 "Pile.__init__" = true) (k4 : PySem.W.keepIn K (.ref f4) = true)
    (a5 : PySem.W.findIn K (.ref C_Pile) "leaf" = some (some (.ref f5))) (i5 : PySem.W.isFn K (.ref f5) = true) (l5 : K.lookup f5 = some ⟨oc5, od5, .func (PySem.W.fnOf "leaf" "Pile.leaf" (defArgs splLeaf) (defBody splLeaf) (defScope splLeaf) .none kV5 dc5 pm5 an5 cd5 ct5), sl5⟩) (c5 : PySem.W.codeIn K cd5 "Pile.leaf" = true) (k5 : PySem.W.keepIn K (.ref f5) = true)
    (a6 : PySem.W.findIn K (.ref C_Pile) "branch" = some (some (.ref f6))) (i6 : PySem.W.isFn K (.ref f6) = true) (l6 : K.lookup f6 = some ⟨oc6, od6, .func (PySem.W.fnOf "branch" "Pile.branch" (defArgs splBranch) (defBody splBranch) (defScope splBranch) .none kV6 dc6 pm6 an6 (.ref Cd_branch) ct6), sl6⟩) (c6 : PySem.W.codeIn K (.ref Cd_branch) "Pile.branch" = true) (k6 : PySem.W.keepIn K (.ref f6) = true)
    (a7 : PySem.W.findIn K (.ref C_Pile) "content" = some (some (.ref f7))) (i7 : PySem.W.isFn K (.ref f7) = true) (l7 : K.lookup f7 = some ⟨oc7, od7, .func (PySem.W.fnOf "content" "Pile.content" (defArgs splContent) (defBody splContent) (defScope splContent) .none kV7 dc7 pm7 an7 cd7 ct7), sl7⟩) (c7 : PySem.W.codeIn K cd7 "Pile.content" = true) (k7 : PySem.W.keepIn K (.ref f7) = true)
    (a8 : PySem.W.findIn K (.ref C_Pile) "hold" = some (some (.ref f8))) (i8 : PySem.W.isFn K (.ref f8) = true) (l8 : K.lookup f8 = some ⟨oc8, od8, .func (PySem.W.fnOf "hold" "Pile.hold" (defArgs splHold) (defBody splHold) (defScope splHold) .none kV8 dc8 pm8 an8 cd8 ct8), sl8⟩) (c8 : PySem.W.codeIn K cd8 "Pile.hold" = true) (k8 : PySem.W.keepIn K (.ref f8) = true)
    (a9 : PySem.W.findIn K (.ref C_Pile) "let_go" = some (some (.ref f9))) (i9 : PySem.W.isFn K (.ref f9) = true) (l9 : K.lookup f9 = some ⟨oc9, od9, .func (PySem.W.fnOf "let_go" "Pile.let_go" (defArgs splLetGo) (defBody splLetGo) (defScope splLetGo) .none kV9 dc9 pm9 an9 cd9 ct9), sl9⟩) (c9 : PySem.W.codeIn K cd9 "Pile.let_go" = true) (k9 : PySem.W.keepIn K (.ref f9) = true)
    (a10 : PySem.W.findIn K (.ref C_Pile) "kind_of" = some (some (.ref f10))) (i10 : PySem.W.isFn K (.ref f10) = true) (l10 : K.lookup f10 = some ⟨oc10, od10, .func (PySem.W.fnOf "kind_of" "Pile.kind_of" (defArgs splKindOf) (defBody splKindOf) (defScope splKindOf) .none kV10 dc10 pm10 an10 cd10 ct10), sl10⟩) (c10 : PySem.W.codeIn K cd10 "Pile.kind_of" = true) (k10 : PySem.W.keepIn K (.ref f10) = true)
    (a11 : PySem.W.findIn K (.ref C_Pile) "number_of" = some (some (.ref f11))) (i11 : PySem.W.isFn K (.ref f11) = true) (l11 : K.lookup f11 = some ⟨oc11, od11, .func (PySem.W.fnOf "number_of" "Pile.number_of" (defArgs splNumberOf) (defBody splNumberOf) (defScope splNumberOf) .none kV11 dc11 pm11 an11 cd11 ct11), sl11⟩) (c11 : PySem.W.codeIn K cd11 "Pile.number_of" = true) (k11 : PySem.W.keepIn K (.ref f11) = true)
    (a12 : PySem.W.findIn K (.ref C_Pile) "rows_of" = some (some (.ref f12))) (i12 : PySem.W.isFn K (.ref f12) = true) (l12 : K.lookup f12 = some ⟨oc12, od12, .func (PySem.W.fnOf "rows_of" "Pile.rows_of" (defArgs splRowsOf) (defBody splRowsOf) (defScope splRowsOf) .none kV12 dc12 pm12 an12 cd12 ct12), sl12⟩) (c12 : PySem.W.codeIn K cd12 "Pile.rows_of" = true) (k12 : PySem.W.keepIn K (.ref f12) = true)
    (a13 : PySem.W.findIn K (.ref C_Pile) "_next_box" = some (some (.ref f13))) (i13 : PySem.W.isFn K (.ref f13) = true) (l13 : K.lookup f13 = some ⟨oc13, od13, .func (PySem.W.fnOf "_next_box" "Pile._next_box" (defArgs splNext) (defBody splNext) (defScope splNext) .none kV13 dc13 pm13 an13 cd13 ct13), sl13⟩) (c13 : PySem.W.codeIn K cd13 "Pile._next_box" = true) (k13 : PySem.W.keepIn K (.ref f13) = true)
    (a14 : PySem.W.findIn K (.ref C_Pile) "_refuse_unless_there" = some (some (.ref f14))) (i14 : PySem.W.isFn K (.ref f14) = true) (l14 : K.lookup f14 = some ⟨oc14, od14, .func (PySem.W.fnOf "_refuse_unless_there" "Pile._refuse_unless_there" (defArgs splRefuse) (defBody splRefuse) (defScope splRefuse) .none kV14 dc14 pm14 an14 cd14 ct14), sl14⟩) (c14 : PySem.W.codeIn K cd14 "Pile._refuse_unless_there" = true) (k14 : PySem.W.keepIn K (.ref f14) = true)
    (a15 : PySem.W.findIn K (.ref C_Pile) "_lowered" = some (some (.ref f15))) (i15 : PySem.W.isFn K (.ref f15) = true) (l15 : K.lookup f15 = some ⟨oc15, od15, .func (PySem.W.fnOf "_lowered" "Pile._lowered" (defArgs splLowered) (defBody splLowered) (defScope splLowered) .none kV15 dc15 pm15 an15 cd15 ct15), sl15⟩) (c15 : PySem.W.codeIn K cd15 "Pile._lowered" = true) (k15 : PySem.W.keepIn K (.ref f15) = true)
    (a16 : PySem.W.findIn K (.ref C_Pile) "_taken_away" = some (some (.ref f16))) (i16 : PySem.W.isFn K (.ref f16) = true) (l16 : K.lookup f16 = some ⟨oc16, od16, .func (PySem.W.fnOf "_taken_away" "Pile._taken_away" (defArgs splTaken) (defBody splTaken) (defScope splTaken) .none kV16 dc16 pm16 an16 cd16 ct16), sl16⟩) (c16 : PySem.W.codeIn K cd16 "Pile._taken_away" = true) (k16 : PySem.W.keepIn K (.ref f16) = true)
    (a17 : PySem.W.nsIn K mainGlobals "box_of" = some (some (.ref f17))) (l17 : K.lookup f17 = some ⟨oc17, od17, .func (PySem.W.fnOf "box_of" "box_of" (defArgs sboxOf) (defBody sboxOf) (defScope sboxOf) .none kV17 dc17 pm17 an17 cd17 ct17), sl17⟩) (c17 : PySem.W.codeIn K cd17 "box_of" = true) (k17 : PySem.W.keepIn K (.ref f17) = true)
    (a18 : PySem.W.nsIn K mainGlobals "placed" = some (some (.ref f18))) (l18 : K.lookup f18 = some ⟨oc18, od18, .func (PySem.W.fnOf "placed" "placed" (defArgs splaced) (defBody splaced) (defScope splaced) .none kV18 dc18 pm18 an18 cd18 ct18), sl18⟩) (c18 : PySem.W.codeIn K cd18 "placed" = true) (k18 : PySem.W.keepIn K (.ref f18) = true)
    (a19 : PySem.W.nsIn K mainGlobals "without" = some (some (.ref f19))) (l19 : K.lookup f19 = some ⟨oc19, od19, .func (PySem.W.fnOf "without" "without" (defArgs swithout) (defBody swithout) (defScope swithout) .none kV19 dc19 pm19 an19 cd19 ct19), sl19⟩) (c19 : PySem.W.codeIn K cd19 "without" = true) (k19 : PySem.W.keepIn K (.ref f19) = true)
    (a20 : PySem.W.nsIn K mainGlobals "_place" = some (some (.ref f20))) (l20 : K.lookup f20 = some ⟨oc20, od20, .func (PySem.W.fnOf "_place" "_place" (defArgs splace) (defBody splace) (defScope splace) .none kV20 dc20 pm20 an20 cd20 ct20), sl20⟩) (c20 : PySem.W.codeIn K cd20 "_place" = true) (k20 : PySem.W.keepIn K (.ref f20) = true)
    (a21 : PySem.W.nsIn K mainGlobals "_is_at" = some (some (.ref f21))) (l21 : K.lookup f21 = some ⟨oc21, od21, .func (PySem.W.fnOf "_is_at" "_is_at" (defArgs sisAt) (defBody sisAt) (defScope sisAt) .none kV21 dc21 pm21 an21 cd21 ct21), sl21⟩) (c21 : PySem.W.codeIn K cd21 "_is_at" = true) (k21 : PySem.W.keepIn K (.ref f21) = true)
    (a22 : PySem.W.nsIn K mainGlobals "boxes_on" = some (some (.ref f22))) (l22 : K.lookup f22 = some ⟨oc22, od22, .func (PySem.W.fnOf "boxes_on" "boxes_on" (defArgs sboxesOn) (defBody sboxesOn) (defScope sboxesOn) .none kV22 dc22 pm22 an22 cd22 ct22), sl22⟩) (c22 : PySem.W.codeIn K cd22 "boxes_on" = true) (k22 : PySem.W.keepIn K (.ref f22) = true)
    (a23 : PySem.W.nsIn K mainGlobals "compare" = some (some (.ref f23))) (l23 : K.lookup f23 = some ⟨oc23, od23, .func (PySem.W.fnOf "compare" "compare" (defArgs scompare) (defBody scompare) (defScope scompare) .none kV23 dc23 pm23 an23 cd23 ct23), sl23⟩) (c23 : PySem.W.codeIn K cd23 "compare" = true) (k23 : PySem.W.keepIn K (.ref f23) = true)
    (a24 : PySem.W.nsIn K mainGlobals "_side_by_side" = some (some (.ref f24))) (l24 : K.lookup f24 = some ⟨oc24, od24, .func (PySem.W.fnOf "_side_by_side" "_side_by_side" (defArgs ssideBy) (defBody ssideBy) (defScope ssideBy) .none kV24 dc24 pm24 an24 cd24 ct24), sl24⟩) (c24 : PySem.W.codeIn K cd24 "_side_by_side" = true) (k24 : PySem.W.keepIn K (.ref f24) = true)
    (a25 : PySem.W.findIn K (.ref C_Store) "__init__" = some (some (.ref f25))) (i25 : PySem.W.isFn K (.ref f25) = true) (l25 : K.lookup f25 = some ⟨oc25, od25, .func (PySem.W.fnOf "__init__" "Store.__init__" (defArgs sstInit) (defBody sstInit) (defScope sstInit) .none kV25 dc25 pm25 an25 cd25 ct25), sl25⟩) (c25 : PySem.W.codeIn K cd25 "Store.__init__" = true) (k25 : PySem.W.keepIn K (.ref f25) = true)
    (a26 : PySem.W.findIn K (.ref C_Store) "put" = some (some (.ref f26))) (i26 : PySem.W.isFn K (.ref f26) = true) (l26 : K.lookup f26 = some ⟨oc26, od26, .func (PySem.W.fnOf "put" "Store.put" (defArgs sstPut) (defBody sstPut) (defScope sstPut) .none kV26 dc26 pm26 an26 cd26 ct26), sl26⟩) (c26 : PySem.W.codeIn K cd26 "Store.put" = true) (k26 : PySem.W.keepIn K (.ref f26) = true)
    (a27 : PySem.W.findIn K (.ref C_Store) "cut" = some (some (.ref f27))) (i27 : PySem.W.isFn K (.ref f27) = true) (l27 : K.lookup f27 = some ⟨oc27, od27, .func (PySem.W.fnOf "cut" "Store.cut" (defArgs sstCut) (defBody sstCut) (defScope sstCut) .none kV27 dc27 pm27 an27 cd27 ct27), sl27⟩) (c27 : PySem.W.codeIn K cd27 "Store.cut" = true) (k27 : PySem.W.keepIn K (.ref f27) = true)
    (a28 : PySem.W.findIn K (.ref C_Store) "drop" = some (some (.ref f28))) (i28 : PySem.W.isFn K (.ref f28) = true) (l28 : K.lookup f28 = some ⟨oc28, od28, .func (PySem.W.fnOf "drop" "Store.drop" (defArgs sstDrop) (defBody sstDrop) (defScope sstDrop) .none kV28 dc28 pm28 an28 cd28 ct28), sl28⟩) (c28 : PySem.W.codeIn K cd28 "Store.drop" = true) (k28 : PySem.W.keepIn K (.ref f28) = true)
    (a29 : PySem.W.findIn K (.ref C_Store) "back" = some (some (.ref f29))) (i29 : PySem.W.isFn K (.ref f29) = true) (l29 : K.lookup f29 = some ⟨oc29, od29, .func (PySem.W.fnOf "back" "Store.back" (defArgs sstBack) (defBody sstBack) (defScope sstBack) .none kV29 dc29 pm29 an29 cd29 ct29), sl29⟩) (c29 : PySem.W.codeIn K cd29 "Store.back" = true) (k29 : PySem.W.keepIn K (.ref f29) = true)
    (a30 : PySem.W.findIn K (.ref C_Store) "snap" = some (some (.ref f30))) (i30 : PySem.W.isFn K (.ref f30) = true) (l30 : K.lookup f30 = some ⟨oc30, od30, .func (PySem.W.fnOf "snap" "Store.snap" (defArgs sstSnap) (defBody sstSnap) (defScope sstSnap) .none kV30 dc30 pm30 an30 cd30 ct30), sl30⟩) (c30 : PySem.W.codeIn K cd30 "Store.snap" = true) (k30 : PySem.W.keepIn K (.ref f30) = true)
    (a31 : PySem.W.findIn K (.ref C_Store) "shot_numbers" = some (some (.ref f31))) (i31 : PySem.W.isFn K (.ref f31) = true) (l31 : K.lookup f31 = some ⟨oc31, od31, .func (PySem.W.fnOf "shot_numbers" "Store.shot_numbers" (defArgs sstShots) (defBody sstShots) (defScope sstShots) .none kV31 dc31 pm31 an31 cd31 ct31), sl31⟩) (c31 : PySem.W.codeIn K cd31 "Store.shot_numbers" = true) (k31 : PySem.W.keepIn K (.ref f31) = true)
    (a32 : PySem.W.findIn K (.ref C_Store) "top" = some (some (.ref f32))) (i32 : PySem.W.isFn K (.ref f32) = true) (l32 : K.lookup f32 = some ⟨oc32, od32, .func (PySem.W.fnOf "top" "Store.top" (defArgs sstTop) (defBody sstTop) (defScope sstTop) .none kV32 dc32 pm32 an32 cd32 ct32), sl32⟩) (c32 : PySem.W.codeIn K cd32 "Store.top" = true) (k32 : PySem.W.keepIn K (.ref f32) = true)
    (a33 : PySem.W.findIn K (.ref C_Store) "changes" = some (some (.ref f33))) (i33 : PySem.W.isFn K (.ref f33) = true) (l33 : K.lookup f33 = some ⟨oc33, od33, .func (PySem.W.fnOf "changes" "Store.changes" (defArgs sstChanges) (defBody sstChanges) (defScope sstChanges) .none kV33 dc33 pm33 an33 cd33 ct33), sl33⟩) (c33 : PySem.W.codeIn K cd33 "Store.changes" = true) (k33 : PySem.W.keepIn K (.ref f33) = true)
    (a34 : PySem.W.findIn K (.ref C_Store) "_shot_top" = some (some (.ref f34))) (i34 : PySem.W.isFn K (.ref f34) = true) (l34 : K.lookup f34 = some ⟨oc34, od34, .func (PySem.W.fnOf "_shot_top" "Store._shot_top" (defArgs sstShotTop) (defBody sstShotTop) (defScope sstShotTop) .none kV34 dc34 pm34 an34 cd34 ct34), sl34⟩) (c34 : PySem.W.codeIn K cd34 "Store._shot_top" = true) (k34 : PySem.W.keepIn K (.ref f34) = true)
    (a35 : PySem.W.findIn K (.ref C_Store) "_lead_to" = some (some (.ref f35))) (i35 : PySem.W.isFn K (.ref f35) = true) (l35 : K.lookup f35 = some ⟨oc35, od35, .func (PySem.W.fnOf "_lead_to" "Store._lead_to" (defArgs sstLeadTo) (defBody sstLeadTo) (defScope sstLeadTo) .none kV35 dc35 pm35 an35 cd35 ct35), sl35⟩) (c35 : PySem.W.codeIn K cd35 "Store._lead_to" = true) (k35 : PySem.W.keepIn K (.ref f35) = true)
    (a36 : PySem.W.findIn K (.ref C_Store) "_turn_to" = some (some (.ref f36))) (i36 : PySem.W.isFn K (.ref f36) = true) (l36 : K.lookup f36 = some ⟨oc36, od36, .func (PySem.W.fnOf "_turn_to" "Store._turn_to" (defArgs sstTurnTo) (defBody sstTurnTo) (defScope sstTurnTo) .none kV36 dc36 pm36 an36 cd36 ct36), sl36⟩) (c36 : PySem.W.codeIn K cd36 "Store._turn_to" = true) (k36 : PySem.W.keepIn K (.ref f36) = true)
    (a37 : PySem.W.nsIn K mainGlobals "_names_below_top" = some (some (.ref f37))) (l37 : K.lookup f37 = some ⟨oc37, od37, .func (PySem.W.fnOf "_names_below_top" "_names_below_top" (defArgs snamesBelow) (defBody snamesBelow) (defScope snamesBelow) .none kV37 dc37 pm37 an37 cd37 ct37), sl37⟩) (c37 : PySem.W.codeIn K cd37 "_names_below_top" = true) (k37 : PySem.W.keepIn K (.ref f37) = true)
    (a38 : PySem.W.nsIn K mainGlobals "_law_whole" = some (some (.ref f38))) (l38 : K.lookup f38 = some ⟨oc38, od38, .func (PySem.W.fnOf "_law_whole" "_law_whole" (defArgs swhole) (defBody swhole) (defScope swhole) .none kV38 dc38 pm38 an38 cd38 ct38), sl38⟩) (c38 : PySem.W.codeIn K cd38 "_law_whole" = true) (k38 : PySem.W.keepIn K (.ref f38) = true)
    (a39 : PySem.W.nsIn K mainGlobals "_law_cell_at" = some (some (.ref f39))) (l39 : K.lookup f39 = some ⟨oc39, od39, .func (PySem.W.fnOf "_law_cell_at" "_law_cell_at" (defArgs scell) (defBody scell) (defScope scell) .none kV39 dc39 pm39 an39 cd39 ct39), sl39⟩) (c39 : PySem.W.codeIn K cd39 "_law_cell_at" = true) (k39 : PySem.W.keepIn K (.ref f39) = true)
    (a40 : PySem.W.nsIn K mainGlobals "_law_name_by" = some (some (.ref f40))) (l40 : K.lookup f40 = some ⟨oc40, od40, .func (PySem.W.fnOf "_law_name_by" "_law_name_by" (defArgs snameBy) (defBody snameBy) (defScope snameBy) .none kV40 dc40 pm40 an40 cd40 ct40), sl40⟩) (c40 : PySem.W.codeIn K cd40 "_law_name_by" = true) (k40 : PySem.W.keepIn K (.ref f40) = true)
    (a41 : PySem.W.nsIn K mainGlobals "_law_path_by" = some (some (.ref f41))) (l41 : K.lookup f41 = some ⟨oc41, od41, .func (PySem.W.fnOf "_law_path_by" "_law_path_by" (defArgs spathBy) (defBody spathBy) (defScope spathBy) .none kV41 dc41 pm41 an41 cd41 ct41), sl41⟩) (c41 : PySem.W.codeIn K cd41 "_law_path_by" = true) (k41 : PySem.W.keepIn K (.ref f41) = true)
    (a42 : PySem.W.nsIn K mainGlobals "_law_number_by" = some (some (.ref f42))) (l42 : K.lookup f42 = some ⟨oc42, od42, .func (PySem.W.fnOf "_law_number_by" "_law_number_by" (defArgs snumberBy) (defBody snumberBy) (defScope snumberBy) .none kV42 dc42 pm42 an42 cd42 ct42), sl42⟩) (c42 : PySem.W.codeIn K cd42 "_law_number_by" = true) (k42 : PySem.W.keepIn K (.ref f42) = true)
    (a43 : PySem.W.nsIn K mainGlobals "_law_count" = some (some (.ref f43))) (l43 : K.lookup f43 = some ⟨oc43, od43, .func (PySem.W.fnOf "_law_count" "_law_count" (defArgs scount) (defBody scount) (defScope scount) .none kV43 dc43 pm43 an43 cd43 ct43), sl43⟩) (c43 : PySem.W.codeIn K cd43 "_law_count" = true) (k43 : PySem.W.keepIn K (.ref f43) = true)
    (a44 : PySem.W.nsIn K mainGlobals "_law_asked" = some (some (.ref f44))) (l44 : K.lookup f44 = some ⟨oc44, od44, .func (PySem.W.fnOf "_law_asked" "_law_asked" (defArgs saskedL) (defBody saskedL) (defScope saskedL) .none kV44 dc44 pm44 an44 cd44 ct44), sl44⟩) (c44 : PySem.W.codeIn K cd44 "_law_asked" = true) (k44 : PySem.W.keepIn K (.ref f44) = true)
    (a45 : PySem.W.nsIn K mainGlobals "_law_done" = some (some (.ref f45))) (l45 : K.lookup f45 = some ⟨oc45, od45, .func (PySem.W.fnOf "_law_done" "_law_done" (defArgs sdoneL) (defBody sdoneL) (defScope sdoneL) .none kV45 dc45 pm45 an45 cd45 ct45), sl45⟩) (c45 : PySem.W.codeIn K cd45 "_law_done" = true) (k45 : PySem.W.keepIn K (.ref f45) = true)
    (a46 : PySem.W.nsIn K mainGlobals "_law_rows" = some (some (.ref f46))) (l46 : K.lookup f46 = some ⟨oc46, od46, .func (PySem.W.fnOf "_law_rows" "_law_rows" (defArgs srowsL) (defBody srowsL) (defScope srowsL) .none kV46 dc46 pm46 an46 cd46 ct46), sl46⟩) (c46 : PySem.W.codeIn K cd46 "_law_rows" = true) (k46 : PySem.W.keepIn K (.ref f46) = true)
    (a47 : PySem.W.nsIn K mainGlobals "_law_leaves" = some (some (.ref f47))) (l47 : K.lookup f47 = some ⟨oc47, od47, .func (PySem.W.fnOf "_law_leaves" "_law_leaves" (defArgs sleavesL) (defBody sleavesL) (defScope sleavesL) .none kV47 dc47 pm47 an47 cd47 ct47), sl47⟩) (c47 : PySem.W.codeIn K cd47 "_law_leaves" = true) (k47 : PySem.W.keepIn K (.ref f47) = true)
    (a48 : PySem.W.nsIn K mainGlobals "_law_looked" = some (some (.ref f48))) (l48 : K.lookup f48 = some ⟨oc48, od48, .func (PySem.W.fnOf "_law_looked" "_law_looked" (defArgs slookedL) (defBody slookedL) (defScope slookedL) .none kV48 dc48 pm48 an48 cd48 ct48), sl48⟩) (c48 : PySem.W.codeIn K cd48 "_law_looked" = true) (k48 : PySem.W.keepIn K (.ref f48) = true)
    (a49 : PySem.W.nsIn K mainGlobals "_law_told" = some (some (.ref f49))) (l49 : K.lookup f49 = some ⟨oc49, od49, .func (PySem.W.fnOf "_law_told" "_law_told" (defArgs stoldL) (defBody stoldL) (defScope stoldL) .none kV49 dc49 pm49 an49 cd49 ct49), sl49⟩) (c49 : PySem.W.codeIn K cd49 "_law_told" = true) (k49 : PySem.W.keepIn K (.ref f49) = true)
    (a50 : PySem.W.nsIn K mainGlobals "law" = some (some (.ref f50))) (l50 : K.lookup f50 = some ⟨oc50, od50, .func (PySem.W.fnOf "law" "law" (defArgs slaw) (defBody slaw) (defScope slaw) .none kV50 dc50 pm50 an50 cd50 ct50), sl50⟩) (c50 : PySem.W.codeIn K cd50 "law" = true) (k50 : PySem.W.keepIn K (.ref f50) = true)
    (pg_Pile : PySem.W.plainGet K C_Pile Str.empty = true) (hd_Pile : PySem.W.hasDictIn K C_Pile = true) (po_Pile : PySem.W.plainOver K C_Pile = true) (sa_Pile : PySem.W.findIn K (.ref C_Pile) "__setattr__" = some (some (.builtin "object.__setattr__"))) (mk_Pile : PySem.W.makesIn K C_Pile = true) (kc_Pile : PySem.W.keepIn K (.ref C_Pile) = true)
    (n_Pile_made : PySem.W.findIn K (.ref C_Pile) "made" = some none) (n_Pile__counts : PySem.W.findIn K (.ref C_Pile) "_counts" = some none) (n_Pile__numbers : PySem.W.findIn K (.ref C_Pile) "_numbers" = some none) (n_Pile__rows : PySem.W.findIn K (.ref C_Pile) "_rows" = some none)
    (pg_Store : PySem.W.plainGet K C_Store Str.empty = true) (hd_Store : PySem.W.hasDictIn K C_Store = true) (po_Store : PySem.W.plainOver K C_Store = true) (sa_Store : PySem.W.findIn K (.ref C_Store) "__setattr__" = some (some (.builtin "object.__setattr__"))) (mk_Store : PySem.W.makesIn K C_Store = true) (kc_Store : PySem.W.keepIn K (.ref C_Store) = true)
    (n_Store_pile : PySem.W.findIn K (.ref C_Store) "pile" = some none) (n_Store__top : PySem.W.findIn K (.ref C_Store) "_top" = some none) (n_Store__shot_tops : PySem.W.findIn K (.ref C_Store) "_shot_tops" = some none) (n_Store__shots_taken : PySem.W.findIn K (.ref C_Store) "_shots_taken" = some none)
    (z_len : PySem.W.nsIn K mainGlobals "len" = some none) (z_isinstance : PySem.W.nsIn K mainGlobals "isinstance" = some none) (z_range : PySem.W.nsIn K mainGlobals "range" = some none) (z_sorted : PySem.W.nsIn K mainGlobals "sorted" = some none) (z_all : PySem.W.nsIn K mainGlobals "all" = some none) (z_max : PySem.W.nsIn K mainGlobals "max" = some none) (z_int : PySem.W.nsIn K mainGlobals "int" = some none) (z_bool : PySem.W.nsIn K mainGlobals "bool" = some none) (z_str : PySem.W.nsIn K mainGlobals "str" = some none) (z_list : PySem.W.nsIn K mainGlobals "list" = some none) (z_tuple : PySem.W.nsIn K mainGlobals "tuple" = some none) (z_ValueError : PySem.W.nsIn K mainGlobals "ValueError" = some none) (z_reversed : PySem.W.nsIn K mainGlobals "reversed" = some none) (z_zip : PySem.W.nsIn K mainGlobals "zip" = some none) (z_min : PySem.W.nsIn K mainGlobals "min" = some none) (z_set : PySem.W.nsIn K mainGlobals "set" = some none) (z_dict : PySem.W.nsIn K mainGlobals "dict" = some none)
    {t_LONGEST_NAME t_LONGEST_PATH t_LIMIT : Tok} (c_LONGEST_NAME : PySem.W.nsIn K mainGlobals "LONGEST_NAME" = some (some (.int 8 t_LONGEST_NAME))) (c_LONGEST_PATH : PySem.W.nsIn K mainGlobals "LONGEST_PATH" = some (some (.int 8 t_LONGEST_PATH))) (c_LIMIT : PySem.W.nsIn K mainGlobals "LIMIT" = some (some (.int 1000000000000000000000000000000 t_LIMIT)))
    (aE_NoBox : PySem.W.nsIn K mainGlobals "NoBox" = some (some (.ref E_NoBox))) (x_NoBox : PySem.W.excIn K E_NoBox [.type "ValueError", .type "Exception", .type "BaseException", .type "object"] "ValueError.__new__" = true) (k_NoBox : PySem.W.keepIn K (.ref E_NoBox) = true) (b_NoBox : PySem.W.subIn K (.ref E_NoBox) (.type "BaseException") = some true) (t_NoBox : PySem.W.typeIn K (.ref E_NoBox) = some (.type "type")) (s_NoBox : PySem.W.subIn K (.ref E_NoBox) (.ref E_NoBox) = some true) (g1_NoBox : PySem.W.findIn K (.ref E_NoBox) "__getattribute__" = some (some (.builtin "BaseException.__getattribute__"))) (g2_NoBox : PySem.W.findIn K (.ref E_NoBox) "__getattr__" = some none) (g3_NoBox : PySem.W.hasDictIn K E_NoBox = true) (g4_NoBox : PySem.W.findIn K (.ref E_NoBox) "__class__" = some (some (.builtin "object.__class__"))) (g7_NoBox : PySem.W.mroIn K E_NoBox (.type "object") = some true)
    (aE_SnapError : PySem.W.nsIn K mainGlobals "SnapError" = some (some (.ref E_SnapError))) (x_SnapError : PySem.W.excIn K E_SnapError [.type "ValueError", .type "Exception", .type "BaseException", .type "object"] "ValueError.__new__" = true) (k_SnapError : PySem.W.keepIn K (.ref E_SnapError) = true) (b_SnapError : PySem.W.subIn K (.ref E_SnapError) (.type "BaseException") = some true) (t_SnapError : PySem.W.typeIn K (.ref E_SnapError) = some (.type "type")) (s_SnapError : PySem.W.subIn K (.ref E_SnapError) (.ref E_SnapError) = some true) (g1_SnapError : PySem.W.findIn K (.ref E_SnapError) "__getattribute__" = some (some (.builtin "BaseException.__getattribute__"))) (g2_SnapError : PySem.W.findIn K (.ref E_SnapError) "__getattr__" = some none) (g3_SnapError : PySem.W.hasDictIn K E_SnapError = true) (g4_SnapError : PySem.W.findIn K (.ref E_SnapError) "__class__" = some (some (.builtin "object.__class__"))) (g7_SnapError : PySem.W.mroIn K E_SnapError (.type "object") = some true)
    (aE_BadPath : PySem.W.nsIn K mainGlobals "BadPath" = some (some (.ref E_BadPath))) (x_BadPath : PySem.W.excIn K E_BadPath [.type "ValueError", .type "Exception", .type "BaseException", .type "object"] "ValueError.__new__" = true) (k_BadPath : PySem.W.keepIn K (.ref E_BadPath) = true) (b_BadPath : PySem.W.subIn K (.ref E_BadPath) (.type "BaseException") = some true) (t_BadPath : PySem.W.typeIn K (.ref E_BadPath) = some (.type "type")) (s_BadPath : PySem.W.subIn K (.ref E_BadPath) (.ref E_BadPath) = some true) (g1_BadPath : PySem.W.findIn K (.ref E_BadPath) "__getattribute__" = some (some (.builtin "BaseException.__getattribute__"))) (g2_BadPath : PySem.W.findIn K (.ref E_BadPath) "__getattr__" = some none) (g3_BadPath : PySem.W.hasDictIn K E_BadPath = true) (g4_BadPath : PySem.W.findIn K (.ref E_BadPath) "__class__" = some (some (.builtin "object.__class__"))) (g7_BadPath : PySem.W.mroIn K E_BadPath (.type "object") = some true)
    (aE_BadNumber : PySem.W.nsIn K mainGlobals "BadNumber" = some (some (.ref E_BadNumber))) (x_BadNumber : PySem.W.excIn K E_BadNumber [.type "ValueError", .type "Exception", .type "BaseException", .type "object"] "ValueError.__new__" = true) (k_BadNumber : PySem.W.keepIn K (.ref E_BadNumber) = true) (b_BadNumber : PySem.W.subIn K (.ref E_BadNumber) (.type "BaseException") = some true) (t_BadNumber : PySem.W.typeIn K (.ref E_BadNumber) = some (.type "type")) (s_BadNumber : PySem.W.subIn K (.ref E_BadNumber) (.ref E_BadNumber) = some true) (g1_BadNumber : PySem.W.findIn K (.ref E_BadNumber) "__getattribute__" = some (some (.builtin "BaseException.__getattribute__"))) (g2_BadNumber : PySem.W.findIn K (.ref E_BadNumber) "__getattr__" = some none) (g3_BadNumber : PySem.W.hasDictIn K E_BadNumber = true) (g4_BadNumber : PySem.W.findIn K (.ref E_BadNumber) "__class__" = some (some (.builtin "object.__class__"))) (g7_BadNumber : PySem.W.mroIn K E_BadNumber (.type "object") = some true)
    (aE_LeafThere : PySem.W.nsIn K mainGlobals "LeafThere" = some (some (.ref E_LeafThere))) (x_LeafThere : PySem.W.excIn K E_LeafThere [.type "ValueError", .type "Exception", .type "BaseException", .type "object"] "ValueError.__new__" = true) (k_LeafThere : PySem.W.keepIn K (.ref E_LeafThere) = true) (b_LeafThere : PySem.W.subIn K (.ref E_LeafThere) (.type "BaseException") = some true) (t_LeafThere : PySem.W.typeIn K (.ref E_LeafThere) = some (.type "type")) (s_LeafThere : PySem.W.subIn K (.ref E_LeafThere) (.ref E_LeafThere) = some true) (g1_LeafThere : PySem.W.findIn K (.ref E_LeafThere) "__getattribute__" = some (some (.builtin "BaseException.__getattribute__"))) (g2_LeafThere : PySem.W.findIn K (.ref E_LeafThere) "__getattr__" = some none) (g3_LeafThere : PySem.W.hasDictIn K E_LeafThere = true) (g4_LeafThere : PySem.W.findIn K (.ref E_LeafThere) "__class__" = some (some (.builtin "object.__class__"))) (g7_LeafThere : PySem.W.mroIn K E_LeafThere (.type "object") = some true)
    (aE_BranchThere : PySem.W.nsIn K mainGlobals "BranchThere" = some (some (.ref E_BranchThere))) (x_BranchThere : PySem.W.excIn K E_BranchThere [.type "ValueError", .type "Exception", .type "BaseException", .type "object"] "ValueError.__new__" = true) (k_BranchThere : PySem.W.keepIn K (.ref E_BranchThere) = true) (b_BranchThere : PySem.W.subIn K (.ref E_BranchThere) (.type "BaseException") = some true) (t_BranchThere : PySem.W.typeIn K (.ref E_BranchThere) = some (.type "type")) (s_BranchThere : PySem.W.subIn K (.ref E_BranchThere) (.ref E_BranchThere) = some true) (g1_BranchThere : PySem.W.findIn K (.ref E_BranchThere) "__getattribute__" = some (some (.builtin "BaseException.__getattribute__"))) (g2_BranchThere : PySem.W.findIn K (.ref E_BranchThere) "__getattr__" = some none) (g3_BranchThere : PySem.W.hasDictIn K E_BranchThere = true) (g4_BranchThere : PySem.W.findIn K (.ref E_BranchThere) "__class__" = some (some (.builtin "object.__class__"))) (g7_BranchThere : PySem.W.mroIn K E_BranchThere (.type "object") = some true)
    (aE_Nothing : PySem.W.nsIn K mainGlobals "Nothing" = some (some (.ref E_Nothing))) (x_Nothing : PySem.W.excIn K E_Nothing [.type "ValueError", .type "Exception", .type "BaseException", .type "object"] "ValueError.__new__" = true) (k_Nothing : PySem.W.keepIn K (.ref E_Nothing) = true) (b_Nothing : PySem.W.subIn K (.ref E_Nothing) (.type "BaseException") = some true) (t_Nothing : PySem.W.typeIn K (.ref E_Nothing) = some (.type "type")) (s_Nothing : PySem.W.subIn K (.ref E_Nothing) (.ref E_Nothing) = some true) (g1_Nothing : PySem.W.findIn K (.ref E_Nothing) "__getattribute__" = some (some (.builtin "BaseException.__getattribute__"))) (g2_Nothing : PySem.W.findIn K (.ref E_Nothing) "__getattr__" = some none) (g3_Nothing : PySem.W.hasDictIn K E_Nothing = true) (g4_Nothing : PySem.W.findIn K (.ref E_Nothing) "__class__" = some (some (.builtin "object.__class__"))) (g7_Nothing : PySem.W.mroIn K E_Nothing (.type "object") = some true)
    (aE_NoShot : PySem.W.nsIn K mainGlobals "NoShot" = some (some (.ref E_NoShot))) (x_NoShot : PySem.W.excIn K E_NoShot [.type "ValueError", .type "Exception", .type "BaseException", .type "object"] "ValueError.__new__" = true) (k_NoShot : PySem.W.keepIn K (.ref E_NoShot) = true) (b_NoShot : PySem.W.subIn K (.ref E_NoShot) (.type "BaseException") = some true) (t_NoShot : PySem.W.typeIn K (.ref E_NoShot) = some (.type "type")) (s_NoShot : PySem.W.subIn K (.ref E_NoShot) (.ref E_NoShot) = some true) (g1_NoShot : PySem.W.findIn K (.ref E_NoShot) "__getattribute__" = some (some (.builtin "BaseException.__getattribute__"))) (g2_NoShot : PySem.W.findIn K (.ref E_NoShot) "__getattr__" = some none) (g3_NoShot : PySem.W.hasDictIn K E_NoShot = true) (g4_NoShot : PySem.W.findIn K (.ref E_NoShot) "__class__" = some (some (.builtin "object.__class__"))) (g7_NoShot : PySem.W.mroIn K E_NoShot (.type "object") = some true)
    (g5 : PySem.W.specialIn K (.builtin "object.__class__") "__get__" = some (some (.builtin "getset_descriptor.__get__"))) (g6 : PySem.W.takesIn K (.builtin "object.__class__") = some true)
    (up_BadPath : PySem.W.subIn K (.ref E_BadPath) (.ref E_SnapError) = some true)
    (up_BadNumber : PySem.W.subIn K (.ref E_BadNumber) (.ref E_SnapError) = some true)
    (up_Nothing : PySem.W.subIn K (.ref E_Nothing) (.ref E_SnapError) = some true)
    (up_LeafThere : PySem.W.subIn K (.ref E_LeafThere) (.ref E_SnapError) = some true)
    (up_BranchThere : PySem.W.subIn K (.ref E_BranchThere) (.ref E_SnapError) = some true)
    (up_NoShot : PySem.W.subIn K (.ref E_NoShot) (.ref E_SnapError) = some true)
    {ocd_is_name : Value} {odd_is_name : Option Addr} {vcd_is_name : Array Value} {slc_is_name : Array (Option Value)} (lC_is_name : K.lookup Cd_is_name = some ⟨ocd_is_name, odd_is_name, .fields vcd_is_name, slc_is_name⟩) (vC_is_name : vcd_is_name[11]? = some (.ref Pt_is_name)) (nP_is_name : K.lookup Pt_is_name = none) (cH_is_name : PySem.W.codeHdIn K Cd_is_name Pt_is_name = true) (hT_is_name : h.get? Pt_is_name = some (PySem.W.tabObj #[]))
    {ocd_branch : Value} {odd_branch : Option Addr} {vcd_branch : Array Value} {slc_branch : Array (Option Value)} (lC_branch : K.lookup Cd_branch = some ⟨ocd_branch, odd_branch, .fields vcd_branch, slc_branch⟩) (vC_branch : vcd_branch[11]? = some (.ref Pt_branch)) (nP_branch : K.lookup Pt_branch = none) (cH_branch : PySem.W.codeHdIn K Cd_branch Pt_branch = true) (hT_branch : h.get? Pt_branch = some (PySem.W.tabObj #[])) :
    LamX.LawAtS l w K (L2N.CX l.prog w) 14 63 "_law_script" mg fa h := by
  have e := hfa.symm.trans (PySem.W.mg_of X G a50)
  cases e
  have T : Txt K mg C_Pile C_Store E_NoBox E_SnapError E_BadPath E_BadNumber E_LeafThere E_BranchThere E_Nothing E_NoShot Pt_is_name Pt_branch :=
    { len := PySem.W.mg_none_of X G z_len, isinstance := PySem.W.mg_none_of X G z_isinstance, range := PySem.W.mg_none_of X G z_range, sorted := PySem.W.mg_none_of X G z_sorted, all := PySem.W.mg_none_of X G z_all, max := PySem.W.mg_none_of X G z_max, int := PySem.W.mg_none_of X G z_int, bool := PySem.W.mg_none_of X G z_bool, str := PySem.W.mg_none_of X G z_str, list := PySem.W.mg_none_of X G z_list, tuple := PySem.W.mg_none_of X G z_tuple, ValueError := PySem.W.mg_none_of X G z_ValueError, reversed := PySem.W.mg_none_of X G z_reversed, zip := PySem.W.mg_none_of X G z_zip, min := PySem.W.mg_none_of X G z_min, set := PySem.W.mg_none_of X G z_set, dict := PySem.W.mg_none_of X G z_dict, mg_LONGEST_NAME := ⟨_, PySem.W.mg_of X G c_LONGEST_NAME⟩, mg_LONGEST_PATH := ⟨_, PySem.W.mg_of X G c_LONGEST_PATH⟩, mg_LIMIT := ⟨_, PySem.W.mg_of X G c_LIMIT⟩, cl_Pile := ⟨pg_Pile, hd_Pile, po_Pile, sa_Pile⟩, mg_Pile := PySem.W.mg_of X G aC_Pile, n_Pile_made := n_Pile_made, n_Pile__counts := n_Pile__counts, n_Pile__numbers := n_Pile__numbers, n_Pile__rows := n_Pile__rows, cl_Store := ⟨pg_Store, hd_Store, po_Store, sa_Store⟩, mg_Store := PySem.W.mg_of X G aC_Store, n_Store_pile := n_Store_pile, n_Store__top := n_Store__top, n_Store__shot_tops := n_Store__shot_tops, n_Store__shots_taken := n_Store__shots_taken, mg_NoBox := PySem.W.mg_of X G aE_NoBox, x_NoBox := x_NoBox, k_NoBox := k_NoBox, b_NoBox := b_NoBox, t_NoBox := t_NoBox, e_NoBox := PySem.W.exm_ref b_NoBox g3_NoBox t_NoBox s_NoBox, c_NoBox := ⟨g1_NoBox, g2_NoBox, b_NoBox, g3_NoBox, g4_NoBox, g5, g6, g7_NoBox⟩, mg_SnapError := PySem.W.mg_of X G aE_SnapError, x_SnapError := x_SnapError, k_SnapError := k_SnapError, b_SnapError := b_SnapError, t_SnapError := t_SnapError, e_SnapError := PySem.W.exm_ref b_SnapError g3_SnapError t_SnapError s_SnapError, c_SnapError := ⟨g1_SnapError, g2_SnapError, b_SnapError, g3_SnapError, g4_SnapError, g5, g6, g7_SnapError⟩, mg_BadPath := PySem.W.mg_of X G aE_BadPath, x_BadPath := x_BadPath, k_BadPath := k_BadPath, b_BadPath := b_BadPath, t_BadPath := t_BadPath, e_BadPath := PySem.W.exm_ref b_BadPath g3_BadPath t_BadPath s_BadPath, c_BadPath := ⟨g1_BadPath, g2_BadPath, b_BadPath, g3_BadPath, g4_BadPath, g5, g6, g7_BadPath⟩, mg_BadNumber := PySem.W.mg_of X G aE_BadNumber, x_BadNumber := x_BadNumber, k_BadNumber := k_BadNumber, b_BadNumber := b_BadNumber, t_BadNumber := t_BadNumber, e_BadNumber := PySem.W.exm_ref b_BadNumber g3_BadNumber t_BadNumber s_BadNumber, c_BadNumber := ⟨g1_BadNumber, g2_BadNumber, b_BadNumber, g3_BadNumber, g4_BadNumber, g5, g6, g7_BadNumber⟩, mg_LeafThere := PySem.W.mg_of X G aE_LeafThere, x_LeafThere := x_LeafThere, k_LeafThere := k_LeafThere, b_LeafThere := b_LeafThere, t_LeafThere := t_LeafThere, e_LeafThere := PySem.W.exm_ref b_LeafThere g3_LeafThere t_LeafThere s_LeafThere, c_LeafThere := ⟨g1_LeafThere, g2_LeafThere, b_LeafThere, g3_LeafThere, g4_LeafThere, g5, g6, g7_LeafThere⟩, mg_BranchThere := PySem.W.mg_of X G aE_BranchThere, x_BranchThere := x_BranchThere, k_BranchThere := k_BranchThere, b_BranchThere := b_BranchThere, t_BranchThere := t_BranchThere, e_BranchThere := PySem.W.exm_ref b_BranchThere g3_BranchThere t_BranchThere s_BranchThere, c_BranchThere := ⟨g1_BranchThere, g2_BranchThere, b_BranchThere, g3_BranchThere, g4_BranchThere, g5, g6, g7_BranchThere⟩, mg_Nothing := PySem.W.mg_of X G aE_Nothing, x_Nothing := x_Nothing, k_Nothing := k_Nothing, b_Nothing := b_Nothing, t_Nothing := t_Nothing, e_Nothing := PySem.W.exm_ref b_Nothing g3_Nothing t_Nothing s_Nothing, c_Nothing := ⟨g1_Nothing, g2_Nothing, b_Nothing, g3_Nothing, g4_Nothing, g5, g6, g7_Nothing⟩, mg_NoShot := PySem.W.mg_of X G aE_NoShot, x_NoShot := x_NoShot, k_NoShot := k_NoShot, b_NoShot := b_NoShot, t_NoShot := t_NoShot, e_NoShot := PySem.W.exm_ref b_NoShot g3_NoShot t_NoShot s_NoShot, c_NoShot := ⟨g1_NoShot, g2_NoShot, b_NoShot, g3_NoShot, g4_NoShot, g5, g6, g7_NoShot⟩, up_BadPath := PySem.W.exm_ref b_SnapError g3_SnapError t_SnapError up_BadPath, up_BadNumber := PySem.W.exm_ref b_SnapError g3_SnapError t_SnapError up_BadNumber, up_Nothing := PySem.W.exm_ref b_SnapError g3_SnapError t_SnapError up_Nothing, up_LeafThere := PySem.W.exm_ref b_SnapError g3_SnapError t_SnapError up_LeafThere, up_BranchThere := PySem.W.exm_ref b_SnapError g3_SnapError t_SnapError up_BranchThere, up_NoShot := PySem.W.exm_ref b_SnapError g3_SnapError t_SnapError up_NoShot }
  refine ⟨PySem.W.fnOf "law" "law" (defArgs slaw) (defBody slaw) (defScope slaw) .none kV50 dc50 pm50 an50 cd50 ct50, [(Cd_is_name, Pt_is_name), (Cd_branch, Pt_branch)], spLawS K Pt_is_name Pt_branch, fun p hp => ?_, fun p hp => ?_, fun p hp => ?_, fun s u => .of_eq rfl, fun H a ns hl hbits hH hS => ⟨a, ns, rfl, hS, hl, ⟨#[], hH _ (List.mem_cons_of_mem _ List.mem_cons_self), True.intro⟩, ⟨#[], hH _ List.mem_cons_self, True.intro⟩, fun _ => rfl⟩, fun base KB GB TB => ?_⟩
  · simp only [List.mem_cons, List.not_mem_nil, or_false] at hp
    rcases hp with rfl | rfl
    · exact hT_is_name
    · exact hT_branch
  · simp only [List.mem_cons, List.not_mem_nil, or_false] at hp
    rcases hp with rfl | rfl
    · exact nP_is_name
    · exact nP_branch
  · simp only [List.mem_cons, List.not_mem_nil, or_false] at hp
    rcases hp with rfl | rfl
    · exact PySem.W.codeHd_of_K X cH_is_name
    · exact PySem.W.codeHd_of_K X cH_branch
  · skip
    have tb0_is_name := TB (Cd_is_name, Pt_is_name) (by simp)
    have tbb_is_name : GxR.TabB base mg Cd_is_name Pt_is_name := ⟨tb0_is_name.code, tb0_is_name.bm, tb0_is_name.gP⟩
    have tb0_branch := TB (Cd_branch, Pt_branch) (by simp)
    have tbb_branch : GxR.TabB base mg Cd_branch Pt_branch := ⟨tb0_branch.code, tb0_branch.bm, tb0_branch.gP⟩
    have F0 := fun_mk (st := sisName) l0 c0 k0
    have b0 := F0.binds (ps := ["thing"]) fun _ _ _ _ _ _ us hl => match us, hl with | [_], _ => rfl
    have F1 := fun_mk (st := schecked) l1 c1 k1
    have b1 := F1.binds (ps := ["path"]) fun _ _ _ _ _ _ us hl => match us, hl with | [_], _ => rfl
    have F2 := fun_mk (st := sisWhole) l2 c2 k2
    have b2 := F2.binds (ps := ["thing"]) fun _ _ _ _ _ _ us hl => match us, hl with | [_], _ => rfl
    have F3 := fun_mk (st := sisLeafNumber) l3 c3 k3
    have b3 := F3.binds (ps := ["thing"]) fun _ _ _ _ _ _ us hl => match us, hl with | [_], _ => rfl
    have F4 := fun_mk (st := splInit) l4 c4 k4
    have b4 := F4.binds (ps := ["self"]) fun _ _ _ _ _ _ us hl => match us, hl with | [_], _ => rfl
    have F5 := fun_mk (st := splLeaf) l5 c5 k5
    have b5 := F5.binds (ps := ["self", "number"]) fun _ _ _ _ _ _ us hl => match us, hl with | [_, _], _ => rfl
    have F6 := fun_mk (st := splBranch) l6 c6 k6
    have b6 := F6.binds (ps := ["self", "rows"]) fun _ _ _ _ _ _ us hl => match us, hl with | [_, _], _ => rfl
    have F7 := fun_mk (st := splContent) l7 c7 k7
    have b7 := F7.binds (ps := ["self", "box"]) fun _ _ _ _ _ _ us hl => match us, hl with | [_, _], _ => rfl
    have F8 := fun_mk (st := splHold) l8 c8 k8
    have b8 := F8.binds (ps := ["self", "box"]) fun _ _ _ _ _ _ us hl => match us, hl with | [_, _], _ => rfl
    have F9 := fun_mk (st := splLetGo) l9 c9 k9
    have b9 := F9.binds (ps := ["self", "box"]) fun _ _ _ _ _ _ us hl => match us, hl with | [_, _], _ => rfl
    have F10 := fun_mk (st := splKindOf) l10 c10 k10
    have b10 := F10.binds (ps := ["self", "box"]) fun _ _ _ _ _ _ us hl => match us, hl with | [_, _], _ => rfl
    have F11 := fun_mk (st := splNumberOf) l11 c11 k11
    have b11 := F11.binds (ps := ["self", "box"]) fun _ _ _ _ _ _ us hl => match us, hl with | [_, _], _ => rfl
    have F12 := fun_mk (st := splRowsOf) l12 c12 k12
    have b12 := F12.binds (ps := ["self", "box"]) fun _ _ _ _ _ _ us hl => match us, hl with | [_, _], _ => rfl
    have F13 := fun_mk (st := splNext) l13 c13 k13
    have b13 := F13.binds (ps := ["self"]) fun _ _ _ _ _ _ us hl => match us, hl with | [_], _ => rfl
    have F14 := fun_mk (st := splRefuse) l14 c14 k14
    have b14 := F14.binds (ps := ["self", "box"]) fun _ _ _ _ _ _ us hl => match us, hl with | [_, _], _ => rfl
    have F15 := fun_mk (st := splLowered) l15 c15 k15
    have b15 := F15.binds (ps := ["self", "box"]) fun _ _ _ _ _ _ us hl => match us, hl with | [_, _], _ => rfl
    have F16 := fun_mk (st := splTaken) l16 c16 k16
    have b16 := F16.binds (ps := ["self", "box"]) fun _ _ _ _ _ _ us hl => match us, hl with | [_, _], _ => rfl
    have F17 := fun_mk (st := sboxOf) l17 c17 k17
    have b17 := F17.binds (ps := ["rows", "name"]) fun _ _ _ _ _ _ us hl => match us, hl with | [_, _], _ => rfl
    have F18 := fun_mk (st := splaced) l18 c18 k18
    have b18 := F18.binds (ps := ["rows", "name", "box"]) fun _ _ _ _ _ _ us hl => match us, hl with | [_, _, _], _ => rfl
    have F19 := fun_mk (st := swithout) l19 c19 k19
    have b19 := F19.binds (ps := ["rows", "name"]) fun _ _ _ _ _ _ us hl => match us, hl with | [_, _], _ => rfl
    have F20 := fun_mk (st := splace) l20 c20 k20
    have b20 := F20.binds (ps := ["rows", "name"]) fun _ _ _ _ _ _ us hl => match us, hl with | [_, _], _ => rfl
    have F21 := fun_mk (st := sisAt) l21 c21 k21
    have b21 := F21.binds (ps := ["rows", "name", "at"]) fun _ _ _ _ _ _ us hl => match us, hl with | [_, _, _], _ => rfl
    have F22 := fun_mk (st := sboxesOn) l22 c22 k22
    have b22 := F22.binds (ps := ["pile", "top", "names"]) fun _ _ _ _ _ _ us hl => match us, hl with | [_, _, _], _ => rfl
    have F23 := fun_mk (st := scompare) l23 c23 k23
    have b23 := F23.binds (ps := ["pile", "path", "before", "after", "found"]) fun _ _ _ _ _ _ us hl => match us, hl with | [_, _, _, _, _], _ => rfl
    have F24 := fun_mk (st := ssideBy) l24 c24 k24
    have b24 := F24.binds (ps := ["before", "after"]) fun _ _ _ _ _ _ us hl => match us, hl with | [_, _], _ => rfl
    have F25 := fun_mk (st := sstInit) l25 c25 k25
    have b25 := F25.binds (ps := ["self"]) fun _ _ _ _ _ _ us hl => match us, hl with | [_], _ => rfl
    have F26 := fun_mk (st := sstPut) l26 c26 k26
    have b26 := F26.binds (ps := ["self", "path", "number"]) fun _ _ _ _ _ _ us hl => match us, hl with | [_, _, _], _ => rfl
    have F27 := fun_mk (st := sstCut) l27 c27 k27
    have b27 := F27.binds (ps := ["self", "path"]) fun _ _ _ _ _ _ us hl => match us, hl with | [_, _], _ => rfl
    have F28 := fun_mk (st := sstDrop) l28 c28 k28
    have b28 := F28.binds (ps := ["self", "shot"]) fun _ _ _ _ _ _ us hl => match us, hl with | [_, _], _ => rfl
    have F29 := fun_mk (st := sstBack) l29 c29 k29
    have b29 := F29.binds (ps := ["self", "shot"]) fun _ _ _ _ _ _ us hl => match us, hl with | [_, _], _ => rfl
    have F30 := fun_mk (st := sstSnap) l30 c30 k30
    have b30 := F30.binds (ps := ["self"]) fun _ _ _ _ _ _ us hl => match us, hl with | [_], _ => rfl
    have F31 := fun_mk (st := sstShots) l31 c31 k31
    have b31 := F31.binds (ps := ["self"]) fun _ _ _ _ _ _ us hl => match us, hl with | [_], _ => rfl
    have F32 := fun_mk (st := sstTop) l32 c32 k32
    have b32 := F32.binds (ps := ["self", "view"]) fun _ _ _ _ _ _ us hl => match us, hl with | [_, _], _ => rfl
    have F33 := fun_mk (st := sstChanges) l33 c33 k33
    have b33 := F33.binds (ps := ["self", "one", "other"]) fun _ _ _ _ _ _ us hl => match us, hl with | [_, _, _], _ => rfl
    have F34 := fun_mk (st := sstShotTop) l34 c34 k34
    have b34 := F34.binds (ps := ["self", "shot"]) fun _ _ _ _ _ _ us hl => match us, hl with | [_, _], _ => rfl
    have F35 := fun_mk (st := sstLeadTo) l35 c35 k35
    have b35 := F35.binds (ps := ["self", "branches", "names", "box"]) fun _ _ _ _ _ _ us hl => match us, hl with | [_, _, _, _], _ => rfl
    have F36 := fun_mk (st := sstTurnTo) l36 c36 k36
    have b36 := F36.binds (ps := ["self", "top"]) fun _ _ _ _ _ _ us hl => match us, hl with | [_, _], _ => rfl
    have F37 := fun_mk (st := snamesBelow) l37 c37 k37
    have b37 := F37.binds (ps := ["path"]) fun _ _ _ _ _ _ us hl => match us, hl with | [_], _ => rfl
    have F38 := fun_mk (st := swhole) l38 c38 k38
    have b38 := F38.binds (ps := ["_law_seen"]) fun _ _ _ _ _ _ us hl => match us, hl with | [_], _ => rfl
    have F39 := fun_mk (st := scell) l39 c39 k39
    have b39 := F39.binds (ps := ["_law_script", "_law_k"]) fun _ _ _ _ _ _ us hl => match us, hl with | [_, _], _ => rfl
    have F40 := fun_mk (st := snameBy) l40 c40 k40
    have b40 := F40.binds (ps := ["_law_cell"]) fun _ _ _ _ _ _ us hl => match us, hl with | [_], _ => rfl
    have F41 := fun_mk (st := spathBy) l41 c41 k41
    have b41 := F41.binds (ps := ["_law_cell"]) fun _ _ _ _ _ _ us hl => match us, hl with | [_], _ => rfl
    have F42 := fun_mk (st := snumberBy) l42 c42 k42
    have b42 := F42.binds (ps := ["_law_cell"]) fun _ _ _ _ _ _ us hl => match us, hl with | [_], _ => rfl
    have F43 := fun_mk (st := scount) l43 c43 k43
    have b43 := F43.binds (ps := ["_law_seen", "_law_due"]) fun _ _ _ _ _ _ us hl => match us, hl with | [_, _], _ => rfl
    have F44 := fun_mk (st := saskedL) l44 c44 k44
    have b44 := F44.binds (ps := ["_law_store", "_law_cell", "_law_more"]) fun _ _ _ _ _ _ us hl => match us, hl with | [_, _, _], _ => rfl
    have F45 := fun_mk (st := sdoneL) l45 c45 k45
    have b45 := F45.binds (ps := ["_law_store", "_law_cell", "_law_more"]) fun _ _ _ _ _ _ us hl => match us, hl with | [_, _, _], _ => rfl
    have F46 := fun_mk (st := srowsL) l46 c46 k46
    have b46 := F46.binds (ps := ["_law_pile", "_law_box"]) fun _ _ _ _ _ _ us hl => match us, hl with | [_, _], _ => rfl
    have F47 := fun_mk (st := sleavesL) l47 c47 k47
    have b47 := F47.binds (ps := ["_law_pile", "_law_top"]) fun _ _ _ _ _ _ us hl => match us, hl with | [_, _], _ => rfl
    have F48 := fun_mk (st := slookedL) l48 c48 k48
    have b48 := F48.binds (ps := ["_law_pile", "_law_one", "_law_other"]) fun _ _ _ _ _ _ us hl => match us, hl with | [_, _, _], _ => rfl
    have F49 := fun_mk (st := stoldL) l49 c49 k49
    have b49 := F49.binds (ps := ["_law_seen", "_law_due", "_law_looked_here"]) fun _ _ _ _ _ _ us hl => match us, hl with | [_, _, _], _ => rfl
    have F50 := fun_mk (st := slaw) l50 c50 k50
    have c_plInit : Mi l.prog w K mg base 1 C_Pile "Pile" ["self"] (spInit K C_Pile) := ⟨⟨_, _, ok_plInit F4 T, ⟨mk_Pile, a4, i4, kc_Pile⟩, PySem.W.mg_of X G aC_Pile, b4⟩⟩
    have c_isWhole : Df l.prog w K mg base 1 "is_whole" ["thing"] (spIsWhole K) := ⟨⟨_, _, ok_isWhole F2 T, PySem.W.mg_of X G a2, k2, b2⟩⟩
    have c_plRefuse : Mf l.prog w K mg base 2 C_Pile "_refuse_unless_there" ["self", "box"] (spRefuse K C_Pile E_NoBox) := ⟨⟨_, _, ok_plRefuse F14 T ⟨c_isWhole⟩, ⟨a14, i14, k14⟩, b14⟩⟩
    have c_plNext : Mf l.prog w K mg base 1 C_Pile "_next_box" ["self"] (spNext C_Pile) := ⟨⟨_, _, ok_plNext F13 T, ⟨a13, i13, k13⟩, b13⟩⟩
    have c_plBranch : Mf l.prog w K mg base 3 C_Pile "branch" ["self", "rows"] (spBranch K C_Pile E_NoBox Pt_branch) := ⟨⟨_, _, ok_plBranch l6 c6 tbb_branch T ⟨c_plRefuse, c_plNext⟩, ⟨a6, i6, k6⟩, b6⟩⟩
    have c_plHold : Mf l.prog w K mg base 3 C_Pile "hold" ["self", "box"] (spHold K C_Pile E_NoBox) := ⟨⟨_, _, ok_plHold F8 T ⟨c_plRefuse⟩, ⟨a8, i8, k8⟩, b8⟩⟩
    have c_stInit : Mi l.prog w K mg base 4 C_Store "Store" ["self"] (spInitS K C_Store C_Pile Pt_branch) := ⟨⟨_, _, ok_stInit F25 T ⟨c_plInit, c_plBranch, c_plHold⟩, ⟨mk_Store, a25, i25, kc_Store⟩, PySem.W.mg_of X G aC_Store, b25⟩⟩
    have c_cell : Df l.prog w K mg base 1 "_law_cell_at" ["_law_script", "_law_k"] (spCell K) := ⟨⟨_, _, ok_cell F39 T, PySem.W.mg_of X G a39, k39, b39⟩⟩
    have c_isName : Df l.prog w K mg base 1 "is_name" ["thing"] (spIsName K Pt_is_name) := ⟨⟨_, _, ok_isName l0 c0 tbb_is_name T, PySem.W.mg_of X G a0, k0, b0⟩⟩
    have c_checked : Df l.prog w K mg base 2 "checked" ["path"] (spChecked K Pt_is_name E_BadPath) := ⟨⟨_, _, ok_checked F1 T ⟨c_isName⟩, PySem.W.mg_of X G a1, k1, b1⟩⟩
    have c_namesBelow : Df l.prog w K mg base 3 "_names_below_top" ["path"] (spNamesBelow K Pt_is_name E_BadPath) := ⟨⟨_, _, ok_namesBelow F37 T ⟨c_checked⟩, PySem.W.mg_of X G a37, k37, b37⟩⟩
    have c_isLeafNumber : Df l.prog w K mg base 2 "is_leaf_number" ["thing"] (spIsLeafNumber K) := ⟨⟨_, _, ok_isLeafNumber F3 T ⟨c_isWhole⟩, PySem.W.mg_of X G a3, k3, b3⟩⟩
    have c_place : Df l.prog w K mg base 1 "_place" ["rows", "name"] (spPlace K) := ⟨⟨_, _, ok_place F20 T, PySem.W.mg_of X G a20, k20, b20⟩⟩
    have c_isAt : Df l.prog w K mg base 1 "_is_at" ["rows", "name", "at"] (spIsAt K) := ⟨⟨_, _, ok_isAt F21 T, PySem.W.mg_of X G a21, k21, b21⟩⟩
    have c_boxOf : Df l.prog w K mg base 2 "box_of" ["rows", "name"] (spBoxOf K) := ⟨⟨_, _, ok_boxOf F17 T ⟨c_place, c_isAt⟩, PySem.W.mg_of X G a17, k17, b17⟩⟩
    have c_plRowsOf : Mf l.prog w K mg base 1 C_Pile "rows_of" ["self", "box"] (spRowsOf K C_Pile) := ⟨⟨_, _, ok_plRowsOf F12 T, ⟨a12, i12, k12⟩, b12⟩⟩
    have c_boxesOn : Df l.prog w K mg base 3 "boxes_on" ["pile", "top", "names"] (spBoxesOn K C_Pile) := ⟨⟨_, _, ok_boxesOn F22 T ⟨c_boxOf, c_plRowsOf⟩, PySem.W.mg_of X G a22, k22, b22⟩⟩
    have c_plKindOf : Mf l.prog w K mg base 1 C_Pile "kind_of" ["self", "box"] (spKindOf K C_Pile) := ⟨⟨_, _, ok_plKindOf F10 T, ⟨a10, i10, k10⟩, b10⟩⟩
    have c_plNumberOf : Mf l.prog w K mg base 1 C_Pile "number_of" ["self", "box"] (spNumberOf K C_Pile) := ⟨⟨_, _, ok_plNumberOf F11 T, ⟨a11, i11, k11⟩, b11⟩⟩
    have c_placed : Df l.prog w K mg base 2 "placed" ["rows", "name", "box"] (spPlaced K) := ⟨⟨_, _, ok_placed F18 T ⟨c_place, c_isAt⟩, PySem.W.mg_of X G a18, k18, b18⟩⟩
    have c_plLowered : Mf l.prog w K mg base 1 C_Pile "_lowered" ["self", "box"] (spLowered K C_Pile) := ⟨⟨_, _, ok_plLowered F15 T, ⟨a15, i15, k15⟩, b15⟩⟩
    have c_plTaken : Mf l.prog w K mg base 1 C_Pile "_taken_away" ["self", "box"] (spTaken K C_Pile) := ⟨⟨_, _, ok_plTaken F16 T, ⟨a16, i16, k16⟩, b16⟩⟩
    have c_plLetGo : Mf l.prog w K mg base 3 C_Pile "let_go" ["self", "box"] (spLetGo K C_Pile E_NoBox) := ⟨⟨_, _, ok_plLetGo F9 T ⟨c_plRefuse, c_plLowered, c_plTaken⟩, ⟨a9, i9, k9⟩, b9⟩⟩
    have c_stTurnTo : Mf l.prog w K mg base 4 C_Store "_turn_to" ["self", "top"] (spTurnTo K C_Store C_Pile) := ⟨⟨_, _, ok_stTurnTo F36 T ⟨c_plHold, c_plLetGo⟩, ⟨a36, i36, k36⟩, b36⟩⟩
    have c_stLeadTo : Mf l.prog w K mg base 5 C_Store "_lead_to" ["self", "branches", "names", "box"] (spLeadTo K C_Store C_Pile Pt_branch) := ⟨⟨_, _, ok_stLeadTo F35 T ⟨c_plBranch, c_placed, c_plRowsOf, c_stTurnTo⟩, ⟨a35, i35, k35⟩, b35⟩⟩
    have c_plLeaf : Mf l.prog w K mg base 2 C_Pile "leaf" ["self", "number"] (spLeaf K C_Pile) := ⟨⟨_, _, ok_plLeaf F5 T ⟨c_plNext⟩, ⟨a5, i5, k5⟩, b5⟩⟩
    have c_stPut : Mf l.prog w K mg base 6 C_Store "put" ["self", "path", "number"] (spPut K C_Store C_Pile (exA E_BadPath E_BadNumber E_Nothing E_LeafThere E_BranchThere E_NoShot) Pt_branch Pt_is_name) := ⟨⟨_, _, ok_stPut F26 T ⟨c_namesBelow, c_isLeafNumber, c_boxesOn, c_plKindOf, c_plNumberOf, c_stLeadTo, c_plLeaf⟩, ⟨a26, i26, k26⟩, b26⟩⟩
    have c_stSnap : Mf l.prog w K mg base 4 C_Store "snap" ["self"] (spSnap K C_Store C_Pile) := ⟨⟨_, _, ok_stSnap F30 T ⟨c_plHold⟩, ⟨a30, i30, k30⟩, b30⟩⟩
    have c_stShots : Mf l.prog w K mg base 1 C_Store "shot_numbers" ["self"] (spShots K C_Store C_Pile) := ⟨⟨_, _, ok_stShots F31 T, ⟨a31, i31, k31⟩, b31⟩⟩
    have c_stShotTop : Mf l.prog w K mg base 2 C_Store "_shot_top" ["self", "shot"] (spShotTop K C_Store C_Pile (exA E_BadPath E_BadNumber E_Nothing E_LeafThere E_BranchThere E_NoShot)) := ⟨⟨_, _, ok_stShotTop F34 T ⟨c_isWhole⟩, ⟨a34, i34, k34⟩, b34⟩⟩
    have c_stTop : Mf l.prog w K mg base 3 C_Store "top" ["self", "view"] (spTop K C_Store C_Pile (exA E_BadPath E_BadNumber E_Nothing E_LeafThere E_BranchThere E_NoShot)) := ⟨⟨_, _, ok_stTop F32 T ⟨c_stShotTop⟩, ⟨a32, i32, k32⟩, b32⟩⟩
    have c_sideBy : Df l.prog w K mg base 1 "_side_by_side" ["before", "after"] (spSideBy K) := ⟨⟨_, _, ok_sideBy F24 T, PySem.W.mg_of X G a24, k24, b24⟩⟩
    have c_compare : Df l.prog w K mg base 12 "compare" ["pile", "path", "before", "after", "found"] (spCompare K C_Pile 9) := ⟨⟨_, _, ok_compare F23 T ⟨c_plNumberOf, c_plRowsOf, c_sideBy⟩ ⟨PySem.W.mg_of X G a23, k23, b23⟩, PySem.W.mg_of X G a23, k23, b23⟩⟩
    have c_stChanges : Mf l.prog w K mg base 13 C_Store "changes" ["self", "one", "other"] (spChanges K C_Store C_Pile (exA E_BadPath E_BadNumber E_Nothing E_LeafThere E_BranchThere E_NoShot)) := ⟨⟨_, _, ok_stChanges F33 T ⟨c_stTop, c_compare⟩, ⟨a33, i33, k33⟩, b33⟩⟩
    have c_nameBy : Df l.prog w K mg base 1 "_law_name_by" ["_law_cell"] (spNameBy) := ⟨⟨_, _, ok_nameBy F40 T, PySem.W.mg_of X G a40, k40, b40⟩⟩
    have c_pathBy : Df l.prog w K mg base 2 "_law_path_by" ["_law_cell"] (spPathBy sizeA) := ⟨⟨_, _, ok_pathBy F41 T ⟨c_nameBy⟩, PySem.W.mg_of X G a41, k41, b41⟩⟩
    have c_numberBy : Df l.prog w K mg base 1 "_law_number_by" ["_law_cell"] (spNumberBy) := ⟨⟨_, _, ok_numberBy F42 T, PySem.W.mg_of X G a42, k42, b42⟩⟩
    have c_without : Df l.prog w K mg base 2 "without" ["rows", "name"] (spWithout K) := ⟨⟨_, _, ok_without F19 T ⟨c_place, c_isAt⟩, PySem.W.mg_of X G a19, k19, b19⟩⟩
    have c_stCut : Mf l.prog w K mg base 6 C_Store "cut" ["self", "path"] (spCut K C_Store C_Pile (exA E_BadPath E_BadNumber E_Nothing E_LeafThere E_BranchThere E_NoShot) Pt_branch Pt_is_name) := ⟨⟨_, _, ok_stCut F27 T ⟨c_namesBelow, c_boxesOn, c_plBranch, c_without, c_plRowsOf, c_stLeadTo⟩, ⟨a27, i27, k27⟩, b27⟩⟩
    have c_stDrop : Mf l.prog w K mg base 4 C_Store "drop" ["self", "shot"] (spDrop K C_Store C_Pile (exA E_BadPath E_BadNumber E_Nothing E_LeafThere E_BranchThere E_NoShot)) := ⟨⟨_, _, ok_stDrop F28 T ⟨c_stShotTop, c_plLetGo⟩, ⟨a28, i28, k28⟩, b28⟩⟩
    have c_stBack : Mf l.prog w K mg base 5 C_Store "back" ["self", "shot"] (spBack K C_Store C_Pile (exA E_BadPath E_BadNumber E_Nothing E_LeafThere E_BranchThere E_NoShot)) := ⟨⟨_, _, ok_stBack F29 T ⟨c_stTurnTo, c_stShotTop⟩, ⟨a29, i29, k29⟩, b29⟩⟩
    have c_askedL : Df l.prog w K mg base 7 "_law_asked" ["_law_store", "_law_cell", "_law_more"] (spAskF K C_Store C_Pile (exA E_BadPath E_BadNumber E_Nothing E_LeafThere E_BranchThere E_NoShot) Pt_branch Pt_is_name) := ⟨⟨_, _, ok_askedL F44 T ⟨c_pathBy, c_stShots, c_stPut, c_numberBy, c_stCut, c_stSnap, c_stDrop, c_stBack⟩, PySem.W.mg_of X G a44, k44, b44⟩⟩
    have c_doneL : Df l.prog w K mg base 8 "_law_done" ["_law_store", "_law_cell", "_law_more"] (spDone12 K C_Store C_Pile Pt_branch Pt_is_name) := ⟨⟨_, _, ok_doneL F45 T ⟨c_askedL⟩, PySem.W.mg_of X G a45, k45, b45⟩⟩
    have c_plContent : Mf l.prog w K mg base 3 C_Pile "content" ["self", "box"] (spContent K C_Pile E_NoBox) := ⟨⟨_, _, ok_plContent F7 T ⟨c_plRefuse⟩, ⟨a7, i7, k7⟩, b7⟩⟩
    have c_leavesL : Df l.prog w K mg base 4 "_law_leaves" ["_law_pile", "_law_top"] (spLeaves12 K C_Pile) := ⟨⟨_, _, ok_leavesL F47 T ⟨c_plContent⟩, PySem.W.mg_of X G a47, k47, b47⟩⟩
    have c_rowsL : Df l.prog w K mg base 4 "_law_rows" ["_law_pile", "_law_box"] (spRows12 K C_Pile) := ⟨⟨_, _, ok_rowsL F46 T ⟨c_plContent⟩, PySem.W.mg_of X G a46, k46, b46⟩⟩
    have c_lookedL : Df l.prog w K mg base 5 "_law_looked" ["_law_pile", "_law_one", "_law_other"] (spLooked12 K C_Pile) := ⟨⟨_, _, ok_lookedL F48 T ⟨c_rowsL⟩, PySem.W.mg_of X G a48, k48, b48⟩⟩
    have c_whole : Df l.prog w K mg base 1 "_law_whole" ["_law_seen"] (spWhole) := ⟨⟨_, _, ok_whole F38 T, PySem.W.mg_of X G a38, k38, b38⟩⟩
    have c_count : Df l.prog w K mg base 2 "_law_count" ["_law_seen", "_law_due"] (spCount) := ⟨⟨_, _, ok_count F43 T ⟨c_whole⟩, PySem.W.mg_of X G a43, k43, b43⟩⟩
    have c_toldL : Df l.prog w K mg base 3 "_law_told" ["_law_seen", "_law_due", "_law_looked_here"] (spTold12 K) := ⟨⟨_, _, ok_toldL F49 T ⟨c_count⟩, PySem.W.mg_of X G a49, k49, b49⟩⟩
    exact ok_law F50 T ⟨c_stInit, c_cell, c_stPut, c_stSnap, c_stShots, c_stChanges, c_doneL, c_stTop, c_leavesL, c_lookedL, c_toldL⟩
end My
local macro_rules | `(tactic| o_head (kHook $k $a $e)) => `(tactic| o_head (PySem.W.kmHook $k $a $e [120, 169]))
open PySem PySem.W PyProof.Rows in
set_option maxRecDepth 100000 in
set_option maxHeartbeats 0 in
theorem PySem.Challenge.cw_snaptree_k12_whole_changes_told_holds : PySem.Challenge.rw_snaptree_k12_whole_changes_told.Holds := by
  w_on; o_law; k_head; (case hw => w_witness2)
  k_fill
  refine My.walk_tabs (n := 63) (k := 14) (x := "_law_script") (CX := fun w => L2N.CX PySem.Challenge.rw_snaptree_k12_whole_changes_told.prog w) rfl (by decide) rfl ⟨rfl, by decide, by decide⟩ (fun w h Y => ⟨PySem.W.km_in_of Y, PySem.W.km_tabs_of Y⟩) ?F ?CX
  case CX =>
    intro w H s e s' h
    obtain ⟨_, _, _, _, _, _, _, _, _, _, _, _, z⟩ := h
    exact z.elim
  case F =>
    intro w mg fa h KX G hmg Tb
    refine' My.all_mk KX G hmg ?aC_Pile ?aC_Store ?a0 ?l0 ?c0 ?k0 ?a1 ?l1 ?c1 ?k1 ?a2 ?l2 ?c2 ?k2 ?a3 ?l3 ?c3 ?k3 ?a4 ?i4 ?l4 ?c4 ?k4 ?a5 ?i5 ?l5 ?c5 ?k5 ?a6 ?i6 ?l6 ?c6 ?k6 ?a7 ?i7 ?l7 ?c7 ?k7 ?a8 ?i8 ?l8 ?c8 ?k8 ?a9 ?i9 ?l9 ?c9 ?k9 ?a10 ?i10 ?l10 ?c10 ?k10 ?a11 ?i11 ?l11 ?c11 ?k11 ?a12 ?i12 ?l12 ?c12 ?k12 ?a13 ?i13 ?l13 ?c13 ?k13 ?a14 ?i14 ?l14 ?c14 ?k14 ?a15 ?i15 ?l15 ?c15 ?k15 ?a16 ?i16 ?l16 ?c16 ?k16 ?a17 ?l17 ?c17 ?k17 ?a18 ?l18 ?c18 ?k18 ?a19 ?l19 ?c19 ?k19 ?a20 ?l20 ?c20 ?k20 ?a21 ?l21 ?c21 ?k21 ?a22 ?l22 ?c22 ?k22 ?a23 ?l23 ?c23 ?k23 ?a24 ?l24 ?c24 ?k24 ?a25 ?i25 ?l25 ?c25 ?k25 ?a26 ?i26 ?l26 ?c26 ?k26 ?a27 ?i27 ?l27 ?c27 ?k27 ?a28 ?i28 ?l28 ?c28 ?k28 ?a29 ?i29 ?l29 ?c29 ?k29 ?a30 ?i30 ?l30 ?c30 ?k30 ?a31 ?i31 ?l31 ?c31 ?k31 ?a32 ?i32 ?l32 ?c32 ?k32 ?a33 ?i33 ?l33 ?c33 ?k33 ?a34 ?i34 ?l34 ?c34 ?k34 ?a35 ?i35 ?l35 ?c35 ?k35 ?a36 ?i36 ?l36 ?c36 ?k36 ?a37 ?l37 ?c37 ?k37 ?a38 ?l38 ?c38 ?k38 ?a39 ?l39 ?c39 ?k39 ?a40 ?l40 ?c40 ?k40 ?a41 ?l41 ?c41 ?k41 ?a42 ?l42 ?c42 ?k42 ?a43 ?l43 ?c43 ?k43 ?a44 ?l44 ?c44 ?k44 ?a45 ?l45 ?c45 ?k45 ?a46 ?l46 ?c46 ?k46 ?a47 ?l47 ?c47 ?k47 ?a48 ?l48 ?c48 ?k48 ?a49 ?l49 ?c49 ?k49 ?a50 ?l50 ?c50 ?k50 ?pg_Pile ?hd_Pile ?po_Pile ?sa_Pile ?mk_Pile ?kc_Pile ?n_Pile_made ?n_Pile__counts ?n_Pile__numbers ?n_Pile__rows ?pg_Store ?hd_Store ?po_Store ?sa_Store ?mk_Store ?kc_Store ?n_Store_pile ?n_Store__top ?n_Store__shot_tops ?n_Store__shots_taken ?z_len ?z_isinstance ?z_range ?z_sorted ?z_all ?z_max ?z_int ?z_bool ?z_str ?z_list ?z_tuple ?z_ValueError ?z_reversed ?z_zip ?z_min ?z_set ?z_dict ?c_LONGEST_NAME ?c_LONGEST_PATH ?c_LIMIT ?aE_NoBox ?x_NoBox ?k_NoBox ?b_NoBox ?t_NoBox ?s_NoBox ?g1_NoBox ?g2_NoBox ?g3_NoBox ?g4_NoBox ?g7_NoBox ?aE_SnapError ?x_SnapError ?k_SnapError ?b_SnapError ?t_SnapError ?s_SnapError ?g1_SnapError ?g2_SnapError ?g3_SnapError ?g4_SnapError ?g7_SnapError ?aE_BadPath ?x_BadPath ?k_BadPath ?b_BadPath ?t_BadPath ?s_BadPath ?g1_BadPath ?g2_BadPath ?g3_BadPath ?g4_BadPath ?g7_BadPath ?aE_BadNumber ?x_BadNumber ?k_BadNumber ?b_BadNumber ?t_BadNumber ?s_BadNumber ?g1_BadNumber ?g2_BadNumber ?g3_BadNumber ?g4_BadNumber ?g7_BadNumber ?aE_LeafThere ?x_LeafThere ?k_LeafThere ?b_LeafThere ?t_LeafThere ?s_LeafThere ?g1_LeafThere ?g2_LeafThere ?g3_LeafThere ?g4_LeafThere ?g7_LeafThere ?aE_BranchThere ?x_BranchThere ?k_BranchThere ?b_BranchThere ?t_BranchThere ?s_BranchThere ?g1_BranchThere ?g2_BranchThere ?g3_BranchThere ?g4_BranchThere ?g7_BranchThere ?aE_Nothing ?x_Nothing ?k_Nothing ?b_Nothing ?t_Nothing ?s_Nothing ?g1_Nothing ?g2_Nothing ?g3_Nothing ?g4_Nothing ?g7_Nothing ?aE_NoShot ?x_NoShot ?k_NoShot ?b_NoShot ?t_NoShot ?s_NoShot ?g1_NoShot ?g2_NoShot ?g3_NoShot ?g4_NoShot ?g7_NoShot ?g5 ?g6 ?up_BadPath ?up_BadNumber ?up_Nothing ?up_LeafThere ?up_BranchThere ?up_NoShot ?lC_is_name ?vC_is_name ?nP_is_name ?cH_is_name ?hT_is_name ?lC_branch ?vC_branch ?nP_branch ?cH_branch ?hT_branch
    (case aC_Pile => k_is)
    (case aC_Store => k_is)
    (case a0 => k_is)
    (case l0 => k_is)
    (case c0 => k_is)
    (case k0 => k_is)
    (case a1 => k_is)
    (case l1 => k_is)
    (case c1 => k_is)
    (case k1 => k_is)
    (case a2 => k_is)
    (case l2 => k_is)
    (case c2 => k_is)
    (case k2 => k_is)
    (case a3 => k_is)
    (case l3 => k_is)
    (case c3 => k_is)
    (case k3 => k_is)
    (case a4 => k_is)
    (case i4 => k_is)
    (case l4 => k_is)
    (case c4 => k_is)
    (case k4 => k_is)
    (case a5 => k_is)
    (case i5 => k_is)
    (case l5 => k_is)
    (case c5 => k_is)
    (case k5 => k_is)
    (case a6 => k_is)
    (case i6 => k_is)
    (case l6 => k_is)
    (case c6 => k_is)
    (case k6 => k_is)
    (case a7 => k_is)
    (case i7 => k_is)
    (case l7 => k_is)
    (case c7 => k_is)
    (case k7 => k_is)
    (case a8 => k_is)
    (case i8 => k_is)
    (case l8 => k_is)
    (case c8 => k_is)
    (case k8 => k_is)
    (case a9 => k_is)
    (case i9 => k_is)
    (case l9 => k_is)
    (case c9 => k_is)
    (case k9 => k_is)
    (case a10 => k_is)
    (case i10 => k_is)
    (case l10 => k_is)
    (case c10 => k_is)
    (case k10 => k_is)
    (case a11 => k_is)
    (case i11 => k_is)
    (case l11 => k_is)
    (case c11 => k_is)
    (case k11 => k_is)
    (case a12 => k_is)
    (case i12 => k_is)
    (case l12 => k_is)
    (case c12 => k_is)
    (case k12 => k_is)
    (case a13 => k_is)
    (case i13 => k_is)
    (case l13 => k_is)
    (case c13 => k_is)
    (case k13 => k_is)
    (case a14 => k_is)
    (case i14 => k_is)
    (case l14 => k_is)
    (case c14 => k_is)
    (case k14 => k_is)
    (case a15 => k_is)
    (case i15 => k_is)
    (case l15 => k_is)
    (case c15 => k_is)
    (case k15 => k_is)
    (case a16 => k_is)
    (case i16 => k_is)
    (case l16 => k_is)
    (case c16 => k_is)
    (case k16 => k_is)
    (case a17 => k_is)
    (case l17 => k_is)
    (case c17 => k_is)
    (case k17 => k_is)
    (case a18 => k_is)
    (case l18 => k_is)
    (case c18 => k_is)
    (case k18 => k_is)
    (case a19 => k_is)
    (case l19 => k_is)
    (case c19 => k_is)
    (case k19 => k_is)
    (case a20 => k_is)
    (case l20 => k_is)
    (case c20 => k_is)
    (case k20 => k_is)
    (case a21 => k_is)
    (case l21 => k_is)
    (case c21 => k_is)
    (case k21 => k_is)
    (case a22 => k_is)
    (case l22 => k_is)
    (case c22 => k_is)
    (case k22 => k_is)
    (case a23 => k_is)
    (case l23 => k_is)
    (case c23 => k_is)
    (case k23 => k_is)
    (case a24 => k_is)
    (case l24 => k_is)
    (case c24 => k_is)
    (case k24 => k_is)
    (case a25 => k_is)
    (case i25 => k_is)
    (case l25 => k_is)
    (case c25 => k_is)
    (case k25 => k_is)
    (case a26 => k_is)
    (case i26 => k_is)
    (case l26 => k_is)
    (case c26 => k_is)
    (case k26 => k_is)
    (case a27 => k_is)
    (case i27 => k_is)
    (case l27 => k_is)
    (case c27 => k_is)
    (case k27 => k_is)
    (case a28 => k_is)
    (case i28 => k_is)
    (case l28 => k_is)
    (case c28 => k_is)
    (case k28 => k_is)
    (case a29 => k_is)
    (case i29 => k_is)
    (case l29 => k_is)
    (case c29 => k_is)
    (case k29 => k_is)
    (case a30 => k_is)
    (case i30 => k_is)
    (case l30 => k_is)
    (case c30 => k_is)
    (case k30 => k_is)
    (case a31 => k_is)
    (case i31 => k_is)
    (case l31 => k_is)
    (case c31 => k_is)
    (case k31 => k_is)
    (case a32 => k_is)
    (case i32 => k_is)
    (case l32 => k_is)
    (case c32 => k_is)
    (case k32 => k_is)
    (case a33 => k_is)
    (case i33 => k_is)
    (case l33 => k_is)
    (case c33 => k_is)
    (case k33 => k_is)
    (case a34 => k_is)
    (case i34 => k_is)
    (case l34 => k_is)
    (case c34 => k_is)
    (case k34 => k_is)
    (case a35 => k_is)
    (case i35 => k_is)
    (case l35 => k_is)
    (case c35 => k_is)
    (case k35 => k_is)
    (case a36 => k_is)
    (case i36 => k_is)
    (case l36 => k_is)
    (case c36 => k_is)
    (case k36 => k_is)
    (case a37 => k_is)
    (case l37 => k_is)
    (case c37 => k_is)
    (case k37 => k_is)
    (case a38 => k_is)
    (case l38 => k_is)
    (case c38 => k_is)
    (case k38 => k_is)
    (case a39 => k_is)
    (case l39 => k_is)
    (case c39 => k_is)
    (case k39 => k_is)
    (case a40 => k_is)
    (case l40 => k_is)
    (case c40 => k_is)
    (case k40 => k_is)
    (case a41 => k_is)
    (case l41 => k_is)
    (case c41 => k_is)
    (case k41 => k_is)
    (case a42 => k_is)
    (case l42 => k_is)
    (case c42 => k_is)
    (case k42 => k_is)
    (case a43 => k_is)
    (case l43 => k_is)
    (case c43 => k_is)
    (case k43 => k_is)
    (case a44 => k_is)
    (case l44 => k_is)
    (case c44 => k_is)
    (case k44 => k_is)
    (case a45 => k_is)
    (case l45 => k_is)
    (case c45 => k_is)
    (case k45 => k_is)
    (case a46 => k_is)
    (case l46 => k_is)
    (case c46 => k_is)
    (case k46 => k_is)
    (case a47 => k_is)
    (case l47 => k_is)
    (case c47 => k_is)
    (case k47 => k_is)
    (case a48 => k_is)
    (case l48 => k_is)
    (case c48 => k_is)
    (case k48 => k_is)
    (case a49 => k_is)
    (case l49 => k_is)
    (case c49 => k_is)
    (case k49 => k_is)
    (case a50 => k_is)
    (case l50 => k_is)
    (case c50 => k_is)
    (case k50 => k_is)
    (case pg_Pile => k_is)
    (case hd_Pile => k_is)
    (case po_Pile => k_is)
    (case sa_Pile => k_is)
    (case mk_Pile => k_is)
    (case kc_Pile => k_is)
    (case n_Pile_made => k_is)
    (case n_Pile__counts => k_is)
    (case n_Pile__numbers => k_is)
    (case n_Pile__rows => k_is)
    (case pg_Store => k_is)
    (case hd_Store => k_is)
    (case po_Store => k_is)
    (case sa_Store => k_is)
    (case mk_Store => k_is)
    (case kc_Store => k_is)
    (case n_Store_pile => k_is)
    (case n_Store__top => k_is)
    (case n_Store__shot_tops => k_is)
    (case n_Store__shots_taken => k_is)
    (case z_len => k_is)
    (case z_isinstance => k_is)
    (case z_range => k_is)
    (case z_sorted => k_is)
    (case z_all => k_is)
    (case z_max => k_is)
    (case z_int => k_is)
    (case z_bool => k_is)
    (case z_str => k_is)
    (case z_list => k_is)
    (case z_tuple => k_is)
    (case z_ValueError => k_is)
    (case z_reversed => k_is)
    (case z_zip => k_is)
    (case z_min => k_is)
    (case z_set => k_is)
    (case z_dict => k_is)
    (case c_LONGEST_NAME => k_is)
    (case c_LONGEST_PATH => k_is)
    (case c_LIMIT => k_is)
    (case aE_NoBox => k_is)
    (case x_NoBox => k_exc)
    (case k_NoBox => k_is)
    (case b_NoBox => k_is)
    (case t_NoBox => k_is)
    (case s_NoBox => first | rfl | k_is)
    (case g1_NoBox => k_is)
    (case g2_NoBox => k_is)
    (case g3_NoBox => k_is)
    (case g4_NoBox => k_is)
    (case g7_NoBox => k_is)
    (case aE_SnapError => k_is)
    (case x_SnapError => k_exc)
    (case k_SnapError => k_is)
    (case b_SnapError => k_is)
    (case t_SnapError => k_is)
    (case s_SnapError => first | rfl | k_is)
    (case g1_SnapError => k_is)
    (case g2_SnapError => k_is)
    (case g3_SnapError => k_is)
    (case g4_SnapError => k_is)
    (case g7_SnapError => k_is)
    (case aE_BadPath => k_is)
    (case x_BadPath => k_exc)
    (case k_BadPath => k_is)
    (case b_BadPath => k_is)
    (case t_BadPath => k_is)
    (case s_BadPath => first | rfl | k_is)
    (case g1_BadPath => k_is)
    (case g2_BadPath => k_is)
    (case g3_BadPath => k_is)
    (case g4_BadPath => k_is)
    (case g7_BadPath => k_is)
    (case aE_BadNumber => k_is)
    (case x_BadNumber => k_exc)
    (case k_BadNumber => k_is)
    (case b_BadNumber => k_is)
    (case t_BadNumber => k_is)
    (case s_BadNumber => first | rfl | k_is)
    (case g1_BadNumber => k_is)
    (case g2_BadNumber => k_is)
    (case g3_BadNumber => k_is)
    (case g4_BadNumber => k_is)
    (case g7_BadNumber => k_is)
    (case aE_LeafThere => k_is)
    (case x_LeafThere => k_exc)
    (case k_LeafThere => k_is)
    (case b_LeafThere => k_is)
    (case t_LeafThere => k_is)
    (case s_LeafThere => first | rfl | k_is)
    (case g1_LeafThere => k_is)
    (case g2_LeafThere => k_is)
    (case g3_LeafThere => k_is)
    (case g4_LeafThere => k_is)
    (case g7_LeafThere => k_is)
    (case aE_BranchThere => k_is)
    (case x_BranchThere => k_exc)
    (case k_BranchThere => k_is)
    (case b_BranchThere => k_is)
    (case t_BranchThere => k_is)
    (case s_BranchThere => first | rfl | k_is)
    (case g1_BranchThere => k_is)
    (case g2_BranchThere => k_is)
    (case g3_BranchThere => k_is)
    (case g4_BranchThere => k_is)
    (case g7_BranchThere => k_is)
    (case aE_Nothing => k_is)
    (case x_Nothing => k_exc)
    (case k_Nothing => k_is)
    (case b_Nothing => k_is)
    (case t_Nothing => k_is)
    (case s_Nothing => first | rfl | k_is)
    (case g1_Nothing => k_is)
    (case g2_Nothing => k_is)
    (case g3_Nothing => k_is)
    (case g4_Nothing => k_is)
    (case g7_Nothing => k_is)
    (case aE_NoShot => k_is)
    (case x_NoShot => k_exc)
    (case k_NoShot => k_is)
    (case b_NoShot => k_is)
    (case t_NoShot => k_is)
    (case s_NoShot => first | rfl | k_is)
    (case g1_NoShot => k_is)
    (case g2_NoShot => k_is)
    (case g3_NoShot => k_is)
    (case g4_NoShot => k_is)
    (case g7_NoShot => k_is)
    (case g5 => k_is)
    (case g6 => k_is)
    (case up_BadPath => k_is)
    (case up_BadNumber => k_is)
    (case up_Nothing => k_is)
    (case up_LeafThere => k_is)
    (case up_BranchThere => k_is)
    (case up_NoShot => k_is)
    (case lC_is_name => k_is)
    (case vC_is_name => rfl)
    (case nP_is_name => first | rfl | kernel_rfl | decide +kernel)
    (case cH_is_name => kernel_rfl)
    (case hT_is_name => exact Tb _ (by decide))
    (case lC_branch => k_is)
    (case vC_branch => rfl)
    (case nP_branch => first | rfl | kernel_rfl | decide +kernel)
    (case cH_branch => kernel_rfl)
    (case hT_branch => exact Tb _ (by decide))
#print axioms PySem.Challenge.cw_snaptree_k12_whole_changes_told_holds
