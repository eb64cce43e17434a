import PyProof.Rows.All
import Wide.All
import OpenK.AllK
import Wide.FinOn
import HandS.ForMost
import HandS.EndBits
import HandS.Wide
import HandS.IsInst
import PySem.Challenge.RW_samphire_k09_picks_of_tapes_and_mixers
set_option Elab.async false
set_option linter.all false
set_option maxRecDepth 100000
/-! ### Z: single steps of readings, for walking by with_reducible refine -/
namespace Z
open PySem L2
/-- all but what stands at M is as it was -/
def Kp (M : List Addr) (H H' : Hp) : Prop := ∀ b o, b ∉ M → H b = some o → H' b = some o
theorem Kp.refl {M : List Addr} (H : Hp) : Kp M H H := fun _ _ _ h => h
theorem Kp.trans {M : List Addr} {H H1 H2 : Hp} (a : Kp M H H1) (b : Kp M H1 H2) : Kp M H H2 := fun c o n h => b c o n (a c o n h)
theorem Kp.new {M : List Addr} {H : Hp} {p : Addr} {o : HO} (h : H p = none) : Kp M H (upd H p o) := fun b u _ e => by
  rw [upd_ne (ne_of_none e h)]
  exact e
theorem Kp.put {M : List Addr} {H : Hp} {p : Addr} {o : HO} (h : p ∈ M) : Kp M H (upd H p o) := fun b u n e => by
  rw [upd_ne (fun q => n (by rw [q]; exact h))]
  exact e
theorem Kp.sub {M M' : List Addr} {H H' : Hp} (a : Kp M H H') (h : ∀ x, x ∈ M → x ∈ M') : Kp M' H H' := fun b o n e => a b o (fun z => n (h b z)) e
theorem Kp.same {H H' : Hp} (a : Kp [] H H') : Same H H' := fun b o e => a b o (by simp) e
theorem Kp.of_same {M : List Addr} {H H' : Hp} (a : Same H H') : Kp M H H' := fun b o _ e => a b o e
theorem Kp.none {M : List Addr} {H H' : Hp} (a : Kp M H H') {p : Addr} (n : p ∉ M) (h : H' p = Option.none) : H p = Option.none := by
  cases q : H p with
  | none => rfl
  | some o =>
    rw [a p o n q] at h
    cases h
/-- what was not there may be forgotten from M -/
theorem Kp.drop {M : List Addr} {H H' : Hp} {p : Addr} (a : Kp (p :: M) H H') (h : H p = Option.none) : Kp M H H' := fun b o n e => a b o (by
  intro z
  rcases List.mem_cons.mp z with z | z
  · rw [z, h] at e
    cases e
  · exact n z) e
theorem Kp.get {M : List Addr} {H H' : Hp} (a : Kp M H H') {b : Addr} {o : HO} (n : b ∉ M) (e : H b = some o) : H' b = some o := a b o n e
theorem Kp.seq {M : List Addr} {K : PySem.W.Frag} {H H' : Hp} (e : Kp M H H') {a : Addr} {xs : List V} (n : a ∉ M) (h : SqL K H a xs) : SqL K H' a xs := by
  rcases h with (h | ⟨o, h⟩) | h
  · exact .inl (.inl (e _ _ n h))
  · exact .inl (.inr ⟨o, e _ _ n h⟩)
  · exact .inr h
theorem Kp.tup {M : List Addr} {K : PySem.W.Frag} {H H' : Hp} (e : Kp M H H') {a : Addr} {xs : List V} (n : a ∉ M) (h : SqT K H a xs) : SqT K H' a xs := by
  rcases h with (h | ⟨o, h⟩) | h
  · exact .inl (.inl (e _ _ n h))
  · exact .inl (.inr ⟨o, e _ _ n h⟩)
  · exact .inr h
/-- what H0 does not know may change -/
theorem Kp.mut {M : List Addr} {H0 H H' : Hp} {l : Addr} {o : HO} (a : Kp M H0 H) (h : H0 l = Option.none) (e : H' = upd H l o) : Kp M H0 H' := fun b u n z => by
  rw [e, upd_ne (ne_of_none z h)]
  exact a b u n z
theorem Kp.then1 {M : List Addr} {H0 H H' : Hp} {l : Addr} (a : Kp M H0 H) (b : Kp [l] H H') (h : H0 l = Option.none) : Kp M H0 H' := fun c o n e => b c o (by
  intro z
  rw [List.mem_singleton.mp z, h] at e
  cases e) (a c o n e)
/-- a new instance and its dict -/
theorem Kp.made {M : List Addr} {H : Hp} {x dx : Addr} {o u : HO} (nx : H x = Option.none) (nd : H dx = Option.none) : Kp M H (upd (upd H dx u) x o) := fun c o n e => by
  rw [upd_ne (ne_of_none e nx), upd_ne (ne_of_none e nd)]
  exact e
theorem none2 {H : Hp} {x dx l : Addr} {o u : HO} (h : upd (upd H dx u) x o l = Option.none) : H l = Option.none := by
  unfold upd at h
  split at h
  · cases h
  · split at h
    · cases h
    · exact h
theorem nin1 {a b : Addr} (h : b ≠ a) : b ∉ [a] := by simpa using h
theorem nin0 {b : Addr} : b ∉ ([] : List Addr) := by simp
theorem lstL {K : PySem.W.Frag} {H : Hp} {a : Addr} {xs : List V} (h : H a = some (.lst xs)) : SqL K H a xs := .inl (.inl h)
theorem tupT {K : PySem.W.Frag} {H : Hp} {a : Addr} {xs : List V} (h : H a = some (.tup xs)) : SqT K H a xs := .inl (.inl h)

theorem cxK {CX : CXT} {P : Program} {w : World} {K : PySem.W.Frag} {mg : Str → Option Value} {base : Heap} {N : List Str} {qual : Str} {scope : Scope} {f : Addr} {cd : Value} {A : Around} {outer : List Env} {s : Shared} {H : Hp} {E : XK} : (cxOf CX P w K mg base N qual scope f cd A outer s H E).K = K := rfl
/-! named readings of rules -/
def rLenN (K : PySem.W.Frag) : List V → Hp → VK → Prop := fun xs H Q => ∃ p ys, xs = [.ref p] ∧ (SqL K H p ys ∨ SqT K H p ys) ∧ Q (.int ys.length) H
theorem c_len {X : Cx} : CallR X (.builtin "len") (rLenN X.K) := call_len_seq
def rListN (K : PySem.W.Frag) : List V → Hp → VK → Prop := fun xs H Q => ∃ p ys, xs = [.ref p] ∧ (SqL K H p ys ∨ SqT K H p ys) ∧ ∀ l, H l = none → Q (.ref l) (upd H l (.lst ys))
theorem c_list {X : Cx} : CallR X (.type "list") (rListN X.K) := call_list_of
def rTupN (K : PySem.W.Frag) : List V → Hp → VK → Prop := fun xs H Q => ∃ p ys, xs = [.ref p] ∧ ((SqL K H p ys ∧ ∀ l, H l = none → Q (.ref l) (upd H l (.tup ys))) ∨ (SqT K H p ys ∧ Q (.ref p) H))
theorem c_tuple {X : Cx} : CallR X (.type "tuple") (rTupN X.K) := call_tuple_of
def rInt1 : List V → Hp → VK → Prop := fun xs H Q => (∃ i, xs = [.int i] ∧ Q (.int i) H) ∨ ∃ k, xs = [.bl k] ∧ Q (.int (if k then 1 else 0)) H
theorem c_int {X : Cx} : CallR X (.type "int") rInt1 := call_int1
def rAbs : List V → Hp → VK → Prop := fun xs H Q => ∃ i, xs = [.int i] ∧ Q (.int (if i < 0 then -i else i)) H
theorem c_abs {X : Cx} : CallR X (.builtin "abs") rAbs := call_abs
def rIsN : R2 := fun x y H Q => y = .non ∧ Q (.bl (decide (x = .non))) H
theorem o_isN {X : Cx} : OpR X (compareOp .Is) rIsN := op_isN
def rNotN : R2 := fun x y H Q => y = .non ∧ Q (.bl (!decide (x = .non))) H
theorem o_notN {X : Cx} : OpR X (compareOp .IsNot) rNotN := op_notN
def rAddS : R2 := fun x y H Q => ∃ i j, x = .str i ∧ y = .str j ∧ i.length + j.length ≤ sizeLine ∧ Q (.str (i ++ j)) H
theorem o_addS {X : Cx} : OpR X (binaryOp .Add) rAddS := op_add_str
def rInSg : R2 := fun x y H Q => ∃ (c : Nat) (z : Str), x = .str ⟨#[c]⟩ ∧ y = .str z ∧ Q (.bl (decide (c ∈ z.cps.toList))) H
theorem o_inSg {X : Cx} : OpR X (compareOp .In) rInSg := op_in_sign
def rNinSg : R2 := fun x y H Q => ∃ (c : Nat) (z : Str), x = .str ⟨#[c]⟩ ∧ y = .str z ∧ Q (.bl (!decide (c ∈ z.cps.toList))) H
theorem o_ninSg {X : Cx} : OpR X (compareOp .NotIn) rNinSg := op_notIn_sign
section
variable {σ : St} {H : Hp} {Q : VK} {v x y : V} {ta tb tc te : TE} {tA : TT} {D : Ends} {t u ts : TS} {r : R2} {K : PySem.W.Frag} {i : Nat} {A B : Prop}
/-! values -/
theorem var (h : σ[i]? = some (some v)) (q : Q v H) : tVar i σ H Q := ⟨v, h, q⟩
theorem cst (q : Q v H) : tC v σ H Q := q
theorem op (h : ta σ H fun x H1 => tb σ H1 fun y H2 => r x y H2 Q) : tOp r ta tb σ H Q := h
theorem un {r : V → Hp → VK → Prop} (h : ta σ H fun x H1 => r x H1 Q) : tUn r ta σ H Q := h
theorem i0 {g : Int → Int → V} {a b : Int} (q : Q (g a b) H) : rI0 g (.int a) (.int b) H Q := ⟨a, b, rfl, rfl, q⟩
theorem iC {C : Int → Int → Prop} {g : Int → Int → V} {a b : Int} (c : C a b) (q : Q (g a b) H) : rI C g (.int a) (.int b) H Q := ⟨a, b, rfl, rfl, c, q⟩
theorem iU {g : Int → V} {a : Int} (q : Q (g a) H) : rU g (.int a) H Q := ⟨a, rfl, q⟩
theorem eqII {a b : Int} (q : Q (.bl (decide (a = b))) H) : rEq (.int a) (.int b) H Q := ⟨rfl, by
  have e : decide (V.int a = V.int b) = decide (a = b) := by simp
  rw [e]; exact q⟩
theorem neII {a b : Int} (q : Q (.bl (!decide (a = b))) H) : rNe (.int a) (.int b) H Q := ⟨rfl, by
  have e : decide (V.int a = V.int b) = decide (a = b) := by simp
  rw [e]; exact q⟩
theorem eqSS {a b : Str} (q : Q (.bl (decide (a = b))) H) : rEq (.str a) (.str b) H Q := ⟨rfl, by
  have e : decide (V.str a = V.str b) = decide (a = b) := by simp
  rw [e]; exact q⟩
theorem neSS {a b : Str} (q : Q (.bl (!decide (a = b))) H) : rNe (.str a) (.str b) H Q := ⟨rfl, by
  have e : decide (V.str a = V.str b) = decide (a = b) := by simp
  rw [e]; exact q⟩
theorem eqBB {a b : Bool} (q : Q (.bl (decide (a = b))) H) : rEq (.bl a) (.bl b) H Q := ⟨rfl, by
  have e : decide (V.bl a = V.bl b) = decide (a = b) := by simp
  rw [e]; exact q⟩
theorem neBB {a b : Bool} (q : Q (.bl (!decide (a = b))) H) : rNe (.bl a) (.bl b) H Q := ⟨rfl, by
  have e : decide (V.bl a = V.bl b) = decide (a = b) := by simp
  rw [e]; exact q⟩
theorem bl {b : Bool} {q : Bool → Hp → Prop} (h : q b H) : ∃ k, V.bl b = .bl k ∧ q k H := ⟨b, rfl, h⟩
theorem bl' {b : Bool} {q : Bool → Prop} (h : q b) : ∃ k, V.bl b = .bl k ∧ q k := ⟨b, rfl, h⟩
theorem test {Q : Bool → Hp → Prop} (h : te σ H fun x H' => ∃ k, x = .bl k ∧ Q k H') : tTest te σ H Q := h
theorem tbb {Q : Bool → Hp → Prop} (h : te σ H fun x H' => ∃ k, x = .bl k ∧ Q k H') : tB te σ H Q := h
theorem tand {a b : TT} {Q : Bool → Hp → Prop} (h : a σ H fun c H1 => if c = true then b σ H1 Q else Q false H1) : tAnd a b σ H Q := h
theorem tor {a b : TT} {Q : Bool → Hp → Prop} (h : a σ H fun c H1 => if c = true then Q true H1 else b σ H1 Q) : tOr a b σ H Q := h
theorem tnot {a : TT} {Q : Bool → Hp → Prop} (h : a σ H fun c H1 => Q (!c) H1) : tNot a σ H Q := h
theorem tyes {Q : Bool → Hp → Prop} (h : Q true H) : tYes σ H Q := h
theorem andV (h : ta σ H fun x H1 => ∃ c, x = .bl c ∧ if c = true then tb σ H1 Q else Q (.bl false) H1) : tAndV ta tb σ H Q := h
theorem orV (h : ta σ H fun x H1 => ∃ c, x = .bl c ∧ if c = true then Q (.bl true) H1 else tb σ H1 Q) : tOrV ta tb σ H Q := h
theorem notV (h : ta σ H fun x H1 => ∃ c, x = .bl c ∧ Q (.bl (!c)) H1) : tNotV ta σ H Q := h
theorem ifE (h : tA σ H fun c H1 => if c = true then ta σ H1 Q else tb σ H1 Q) : L2.tIf tA ta tb σ H Q := h
theorem chain {r r' : R2} (h : ta σ H fun x H1 => tb σ H1 fun y H2 => r x y H2 fun z H3 => ∃ k, z = .bl k ∧ (if k = true then tc σ H3 fun w' H4 => r' y w' H4 Q else Q (.bl false) H3)) : tChain r r' ta tb tc σ H Q := h
/-! branches -/
theorem ite {p : Prop} [Decidable p] (h1 : p → A) (h2 : ¬p → B) : if decide p = true then A else B := by
  by_cases h : p
  · rw [decide_eq_true h, if_pos rfl]; exact h1 h
  · rw [decide_eq_false h, if_neg Bool.false_ne_true]; exact h2 h
theorem iteN {p : Prop} [Decidable p] (h1 : ¬p → A) (h2 : p → B) : if (!decide p) = true then A else B := by
  by_cases h : p
  · rw [decide_eq_true h]; exact h2 h
  · rw [decide_eq_false h]; exact h1 h
theorem iteB {b : Bool} (h1 : b = true → A) (h2 : b = false → B) : if b = true then A else B := by
  cases b with
  | true => exact h1 rfl
  | false => exact h2 rfl
theorem yes {p : Prop} [Decidable p] (h : p) (q : A) : if decide p = true then A else B := by rw [decide_eq_true h, if_pos rfl]; exact q
theorem no {p : Prop} [Decidable p] (h : ¬p) (q : B) : if decide p = true then A else B := by rw [decide_eq_false h, if_neg Bool.false_ne_true]; exact q
theorem yesN {p : Prop} [Decidable p] (h : ¬p) (q : A) : if (!decide p) = true then A else B := by rw [decide_eq_false h]; exact q
theorem noN {p : Prop} [Decidable p] (h : p) (q : B) : if (!decide p) = true then A else B := by rw [decide_eq_true h]; exact q
theorem yesB (q : A) : if true = true then A else B := q
theorem noB (q : B) : if false = true then A else B := q
/-! calls -/
theorem nil {Q : List V → Hp → Prop} (q : Q [] H) : tNil σ H Q := q
theorem cons {Q : List V → Hp → Prop} {tr : TA} (h : ta σ H fun x H1 => tr σ H1 fun xs H2 => Q (x :: xs) H2) : tCons ta tr σ H Q := h
theorem cb {r : List V → Hp → VK → Prop} {a : TA} (h : a σ H fun vs H1 => r vs H1 Q) : tCB r a σ H Q := h
theorem call {sp : Sp} {dvs : List V} {E : XK} {a : TA} (h : a σ H fun vs H1 => sp (vs ++ dvs) H1 Q E) : tCall sp dvs E a σ H Q := h
theorem meth {C : Addr} {m : Str} {sp : Sp} {dvs : List V} {E : XK} {a : TA} (h : ta σ H fun x H1 => ∃ p dx fs, x = .ref p ∧ H1 p = some (.ins C dx fs) ∧ fs.lookup m = none ∧ a σ H1 fun vs H2 => sp (x :: (vs ++ dvs)) H2 Q E) : tMeth C m sp dvs E ta a σ H Q := h
theorem fld {f : Str} (h : ta σ H fun x H1 => ∃ a C dx fs v, x = .ref a ∧ H1 a = some (.ins C dx fs) ∧ Cls K C ∧ NoAttr K C f ∧ fs.lookup f = some v ∧ Q v H1) : tFld K ta f σ H Q := h
theorem int1 {a : Int} (q : Q (.int a) H) : rInt1 [.int a] H Q := .inl ⟨a, rfl, q⟩
theorem intb {b : Bool} (q : Q (.int (if b then 1 else 0)) H) : rInt1 [.bl b] H Q := .inr ⟨b, rfl, q⟩
theorem abs1 {a : Int} (q : Q (.int (if a < 0 then -a else a)) H) : rAbs [.int a] H Q := ⟨a, rfl, q⟩
theorem isN (q : Q (.bl (decide (x = .non))) H) : rIsN x .non H Q := ⟨rfl, q⟩
theorem notN (q : Q (.bl (!decide (x = .non))) H) : rNotN x .non H Q := ⟨rfl, q⟩
theorem addS {a b : Str} (h : a.length + b.length ≤ sizeLine) (q : Q (.str (a ++ b)) H) : rAddS (.str a) (.str b) H Q := ⟨a, b, rfl, rfl, h, q⟩
theorem inSg {c : Nat} {z : Str} (q : Q (.bl (decide (c ∈ z.cps.toList))) H) : rInSg (.str ⟨#[c]⟩) (.str z) H Q := ⟨c, z, rfl, rfl, q⟩
theorem ninSg {c : Nat} {z : Str} (q : Q (.bl (!decide (c ∈ z.cps.toList))) H) : rNinSg (.str ⟨#[c]⟩) (.str z) H Q := ⟨c, z, rfl, rfl, q⟩
/-- a new object -/
theorem new {o : HO} (h : ∀ p, H p = none → Q (.ref p) (upd H p o)) : ∀ p, H p = none → Q (.ref p) (upd H p o) := h
theorem tup {a : TA} (h : a σ H fun xs H1 => xs.length ≤ sizeLine ∧ ∀ p, H1 p = none → Q (.ref p) (upd H1 p (.tup xs))) : tTup a σ H Q := h
theorem lst {a : TA} (h : a σ H fun xs H1 => xs.length ≤ sizeLine ∧ ∀ p, H1 p = none → Q (.ref p) (upd H1 p (.lst xs))) : tLst a σ H Q := h
/-- a new object, the heap behind it a letter -/
theorem mk {o : HO} {H0 : Hp} {R : Addr → Hp → Prop} (h : ∀ p H1, H0 p = none → Kp [] H0 H1 → H1 p = some o → R p H1) : ∀ p, H0 p = none → R p (upd H0 p o) := fun p n => h p _ n (Kp.new n) upd_same
theorem sz {n m : Nat} (h : n ≤ m) (hm : m ≤ 10000000 := by decide) : n ≤ sizeLine := Nat.le_trans h (Nat.le_trans hm (by decide))
theorem szl {n m : Nat} (h : n ≤ m) (hm : m ≤ 10000000 := by decide) : n < sizeLine := Nat.lt_of_le_of_lt (Nat.le_trans h hm) (by decide)
/-! subscripts -/
theorem ixL {p : Addr} {xs : List V} {j : Int} (h : SqL K H p xs) (e : atI xs j = some v) (q : Q v H) : rIxL K (.ref p) (.int j) H Q := ⟨p, xs, j, v, rfl, rfl, h, e, q⟩
theorem ixT {p : Addr} {xs : List V} {j : Int} (h : SqT K H p xs) (e : atI xs j = some v) (q : Q v H) : rIxT K (.ref p) (.int j) H Q := ⟨p, xs, j, v, rfl, rfl, h, e, q⟩
theorem setL {p : Addr} {xs : List V} {k : Int} {j : Nat} {v : V} {q : Hp → Prop} (h : H p = some (.lst xs)) (e : ixN xs.length k = some j) (hq : q (upd H p (.lst (xs.set j v)))) : rSetL (.ref p) (.int k) v H q := ⟨p, xs, k, j, rfl, rfl, h, e, hq⟩
theorem gsub {to ti : TE} {t : TSet} {Q : St → Hp → Prop} (h : to σ H fun o H1 => ti σ H1 fun i H2 => t o i v H2 fun H3 => Q σ H3) : gSub to ti t v σ H Q := h
/-! statements -/
/-- a statement whose ways join ahead of the rest -/
def tSeqJ (t u : TS) : TS := tSeq t u
theorem pss_consJ {X : Cx} {st : Stmt} {rest : List Stmt} {t u : TS} (h1 : PS X st t) (h2 : PSs X rest u) : PSs X (st :: rest) (tSeqJ t u) := pss_cons h1 h2
theorem seqJ (J : St → Hp → Prop) (h2 : ∀ σ H, J σ H → u D σ H) (h1 : ∀ N : St → Hp → Prop, (∀ σ H, J σ H → N σ H) → t { D with nx := N } σ H) : tSeqJ t u D σ H := h1 (u D) h2
theorem seqJ' (h : tSeq t u D σ H) : tSeqJ t u D σ H := h
theorem seq (h : t { D with nx := u D } σ H) : tSeq t u D σ H := h
theorem asg {g : TG} (h : te σ H fun x H1 => g x σ H1 D.nx) : tAsg te g D σ H := h
theorem gname {Q : St → Hp → Prop} {σ' : St} (e : σ.set i (some v) = σ') (h : Q σ' H) : gName i v σ H Q := by
  subst e; exact h
theorem par {i j : Nat} {a : TA} (h : a σ H fun vs H1 => ∃ v w, vs = [v, w] ∧ D.nx ((σ.set i (some v)).set j (some w)) H1) : tPar i j a D σ H := h
theorem par2 {i j : Nat} {v w : V} {q : St → Hp → Prop} {σ' : St} (e : (σ.set i (some v)).set j (some w) = σ') (h : q σ' H) : ∃ v' w', [v, w] = [v', w'] ∧ q ((σ.set i (some v')).set j (some w')) H := ⟨v, w, rfl, by rw [e]; exact h⟩
theorem aug {ti : TIp} {x : V} (e : σ[i]? = some (some x)) (h : te σ H fun y H1 => ti x y H1 fun z H2 => D.nx (σ.set i (some z)) H2) : tAug i te ti D σ H := ⟨x, e, h⟩
theorem ipI' {f : Int → Int → Int} {a b : Int} (q : Q (.int (f a b)) H) : ipI f (.int a) (.int b) H Q := ⟨a, b, rfl, rfl, q⟩
theorem ifs {c : TT} (h : c σ H fun b H1 => if b = true then t D σ H1 else u D σ H1) : tIfS c t u D σ H := h
theorem ret (h : te σ H D.rt) : tRet te D σ H := h
theorem retN (h : D.rt .non H) : tRetN D σ H := h
theorem next (h : D.nx σ H) : tNext D σ H := h
theorem brk (h : D.bk σ H) : tBreak D σ H := h
theorem drop (h : te σ H fun _ H1 => D.nx σ H1) : tDrop te D σ H := h
theorem bm {T : String} {r : V → List V → Hp → VK → Prop} {to : TE} {a : TA} (h : to σ H fun x H1 => tyV K T x H1 ∧ a σ H1 fun xs H2 => r x xs H2 Q) : tBM K T r to a σ H Q := h
theorem bm0 {T : String} {r : V → List V → Hp → VK → Prop} {to : TE} (h : to σ H fun x H1 => tyV K T x H1 ∧ r x [] H1 Q) : tBM0 K T r to σ H Q := h
theorem app {l : Addr} {xs : List V} {y : V} (h : H l = some (.lst xs)) (z : xs.length < sizeLine) (q : Q .non (upd H l (.lst (xs ++ [y])))) : rAppend (.ref l) [y] H Q := ⟨l, xs, y, rfl, rfl, h, z, q⟩
theorem tyL {p : Addr} {xs : List V} (h : H p = some (.lst xs)) : tyV K "list" (.ref p) H := .inl ⟨rfl, _, SqL.of h⟩
theorem sfld {tv : TE} {f : Str} (h : tv σ H fun y H1 => ta σ H1 fun x H2 => ∃ a C dx fs, x = .ref a ∧ H2 a = some (.ins C dx fs) ∧ Cls K C ∧ NoAttr K C f ∧ fs.length < 1000 ∧ D.nx σ (upd H2 a (.ins C dx (putF f y fs)))) : sFld K ta tv f D σ H := h
theorem sfldaug {tv : TE} {rd : V → V → Hp → VK → Prop} {f : Str} (h : ta σ H fun x H1 => ∃ a C dx fs v, x = .ref a ∧ H1 a = some (.ins C dx fs) ∧ Cls K C ∧ NoAttr K C f ∧ fs.lookup f = some v ∧ tv σ H1 fun y H2 => rd v y H2 fun z H3 => ∃ dx' fs', H3 a = some (.ins C dx' fs') ∧ fs'.length < 1000 ∧ D.nx σ (upd H3 a (.ins C dx' (putF f z fs')))) : sFldAug K ta tv rd f D σ H := h
theorem radd {a b : Int} (q : Q (.int (a + b)) H) : rAdd (.int a) (.int b) H Q := ⟨a, b, rfl, rfl, q⟩
theorem make {C : Addr} {sp : Sp} {dvs : List V} {E : XK} {a : TA} (h : a σ H fun vs H1 => ∀ x dx, H1 x = none → H1 dx = none → dx ≠ x → sp (.ref x :: (vs ++ dvs)) (upd (upd H1 dx (.own x)) x (.ins C dx [])) (fun v H2 => v = .non ∧ Q (.ref x) H2) E) : tMake C sp dvs E a σ H Q := h
/-- while -/
def WhB (W : Nat → St → Hp → Prop) (m : Nat) (tb : TS) (D : Ends) (σ : St) (H1 : Hp) : Prop := ∃ N : St → Hp → Prop, (∀ σ' H', N σ' H' → ∃ m', m' < m ∧ W m' σ' H') ∧ tb { D with nx := N, ct := N, bk := D.nx } σ H1
theorem whb {W : Nat → St → Hp → Prop} {m : Nat} {tb : TS} (h : tb { D with nx := fun σ' H' => ∃ m', m' < m ∧ W m' σ' H', ct := fun σ' H' => ∃ m', m' < m ∧ W m' σ' H', bk := D.nx } σ H) : WhB W m tb D σ H := ⟨_, fun _ _ z => z, h⟩
theorem wh {c : TT} {tb : TS} (W : Nat → St → Hp → Prop) (m : Nat) (h0 : W m σ H) (hs : ∀ m σ H, W m σ H → c σ H fun b H1 => if b = true then WhB W m tb D σ H1 else D.nx σ H1) : tWhile c tb D σ H := ⟨W, ⟨m, h0⟩, hs⟩
/-- calls by values -/
theorem sumL {a : Addr} {ns : List Int} (h : SqL K H a (ns.map V.int)) (q : Q (.int ns.sum) H) : rSum K [.ref a] H Q := ⟨a, ns, rfl, h, q⟩
theorem lenL {a : Addr} {xs : List V} (h : SqL K H a xs) (q : Q (.int xs.length) H) : rLenN K [.ref a] H Q := ⟨a, xs, rfl, .inl h, q⟩
theorem lenT {a : Addr} {xs : List V} (h : SqT K H a xs) (q : Q (.int xs.length) H) : rLenN K [.ref a] H Q := ⟨a, xs, rfl, .inr h, q⟩
theorem listL {a : Addr} {xs : List V} (h : SqL K H a xs) (q : ∀ p H1, H p = none → Kp [] H H1 → H1 p = some (.lst xs) → Q (.ref p) H1) : rListN K [.ref a] H Q := ⟨a, xs, rfl, .inl h, mk q⟩
theorem isi {A B : String} {x : V} {b : Bool} (ht : TyX K H x (.type A)) (hk : kitB A B = some b) (q : Q (.bl b) H) : rIsi K [x, .ty B] H Q := ⟨x, _, _, _, b, rfl, .ty _, ht, kit_ty hk, q⟩
theorem isiI {B : String} {a : Int} {b : Bool} (hk : kitB "int" B = some b) (q : Q (.bl b) H) : rIsi K [.int a, .ty B] H Q := isi (.base (.int _)) hk q
theorem atM {ns : List Int} {j : Nat} {x : Int} (h : ns[j]? = some x) : atI (ns.map V.int) (j : Int) = some (.int x) := atI_nat (by rw [List.getElem?_map, h]; rfl)
theorem ixN_nat {n j : Nat} (hj : j < n) : ixN n (j : Int) = some j := by
  unfold ixN
  rw [if_pos (by omega), if_pos (by omega)]
  simp
/-- a comprehension, a loop over range(n), over a list -/
def ForK (g : TG) (tb : TS) (D : Ends) (σ : St) (J : It) (H1 : Hp) : Prop := ∃ W : Nat → Nat → St → Hp → Prop, (∃ m, W 0 m σ H1) ∧ ∀ i m σ H, W i m σ H →
  (J.stop i H ∧ D.nx σ H) ∨ (J.go i H ∧ ∃ N : St → Hp → Prop, (∀ σ' H', N σ' H' → ∃ m', m' < m ∧ W (i + 1) m' σ' H') ∧ ∀ x H', J.yld i H x H' → g x σ H' fun σ2 H2 => tb { D with nx := N, ct := N, bk := D.nx } σ2 H2)
def LcK (g : TG) (tt : TT) (te : TE) (vs : List Nat) (σ : St) (Q : VK) (J : It) (H1 : Hp) : Prop := ∀ D, H1 D = none → ∃ W : Nat → Nat → Hp → Prop, (∃ m, W 0 m (upd H1 D (.lst []))) ∧ ∀ i m H, W i m H →
      (J.stop i H ∧ Q (.ref D) H) ∨ (J.go i H ∧ ∃ Nx : Hp → Prop, (∀ H', Nx H' → ∃ m', m' < m ∧ W (i + 1) m' H') ∧ ∀ x H', J.yld i H x H' → g x (wipe σ vs) H' fun σ2 H2 => wipe σ2 vs = wipe σ vs ∧ tt σ2 H2 fun b H3 => if b = true then te σ2 H3 fun y H4 => ∃ acc, H4 D = some (.lst acc) ∧ acc.length < sizeLine ∧ Nx (upd H4 D (.lst (acc ++ [y]))) else Nx H3)
def Rng1K (R : It → Hp → Prop) (vs : List V) (H1 : Hp) : Prop := ∃ j : Int, vs = [.int j] ∧ -(2 ^ 62) ≤ j ∧ j < 2 ^ 62 ∧ R (Itr 0 j.toNat) H1
def ListK (K : PySem.W.Frag) (R : It → Hp → Prop) (x : V) (H1 : Hp) : Prop := ∃ a, x = .ref a ∧ (∃ xs, SqL K H1 a xs) ∧ R (Itl K a) H1
theorem lc {wi : TI} {g : TG} {tt : TT} {vs : List Nat} (h : wi σ H (LcK g tt te vs σ Q)) : tLc wi g tt te vs σ H Q := h
theorem rng1 {a : TA} {R : It → Hp → Prop} (h : a σ H (Rng1K R)) : iRng1 a σ H R := h
theorem ilist {R : It → Hp → Prop} (h : ta σ H (ListK K R)) : iList K ta σ H R := h
theorem for_ {wi : TI} {g : TG} {tb : TS} (h : wi σ H (ForK g tb D σ)) : tFor wi g tb D σ H := h
/-- what one turn of a comprehension asks -/
def LcT (g : TG) (tt : TT) (te : TE) (vs : List Nat) (σ : St) (D : Addr) (P : Hp → Prop) (x : V) (H1 : Hp) : Prop := g x (wipe σ vs) H1 fun σ2 H2 => wipe σ2 vs = wipe σ vs ∧ tt σ2 H2 fun b H3 => if b = true then te σ2 H3 fun y H4 => ∃ acc, H4 D = some (.lst acc) ∧ acc.length < sizeLine ∧ P (upd H4 D (.lst (acc ++ [y]))) else P H3
theorem lcr {g : TG} {tt : TT} {vs : List Nat} {e : Int} (n : Nat) (he : e = (n : Int)) (hb : n < 4611686018427387904) (Pv : Addr → Nat → Hp → Prop) (h0 : ∀ D H1, H D = none → Kp [] H H1 → H1 D = some (.lst []) → Pv D 0 H1)
    (hs : ∀ D i H1, H D = none → i < n → Pv D i H1 → g (.int (i : Int)) (wipe σ vs) H1 fun σ2 H2 => wipe σ2 vs = wipe σ vs ∧ tt σ2 H2 fun b H3 => if b = true then te σ2 H3 fun y H4 => ∃ acc, H4 D = some (.lst acc) ∧ acc.length < sizeLine ∧ Pv D (i + 1) (upd H4 D (.lst (acc ++ [y]))) else Pv D (i + 1) H3)
    (hd : ∀ D H1, H D = none → Pv D n H1 → Q (.ref D) H1) : Rng1K (LcK g tt te vs σ Q) [.int e] H := by
  subst he
  refine ⟨(n : Int), rfl, by omega, by omega, fun D hD => ?_⟩
  rw [show ((n : Int)).toNat = n by simp]
  refine lc_range (lo := 0) (n := n) (Pv D) (h0 D _ hD (Kp.new hD) upd_same) (fun i H1 hi p => ?_) fun H1 p => hd D H1 hD p
  rw [show (0 : Int) + (i : Int) = (i : Int) by omega]
  exact hs D i H1 hD hi p
theorem lcl {g : TG} {tt : TT} {vs : List Nat} {a : Addr} (xs : List V) (hS : SqL K H a xs) (Pv : Addr → Nat → Hp → Prop) (h0 : ∀ D H1, H D = none → Kp [] H H1 → H1 D = some (.lst []) → Pv D 0 H1)
    (hl : ∀ D i H1, H D = none → i ≤ xs.length → Pv D i H1 → SqL K H1 a xs)
    (hs : ∀ D i x H1, H D = none → xs[i]? = some x → Pv D i H1 → g x (wipe σ vs) H1 fun σ2 H2 => wipe σ2 vs = wipe σ vs ∧ tt σ2 H2 fun b H3 => if b = true then te σ2 H3 fun y H4 => ∃ acc, H4 D = some (.lst acc) ∧ acc.length < sizeLine ∧ Pv D (i + 1) (upd H4 D (.lst (acc ++ [y]))) else Pv D (i + 1) H3)
    (hd : ∀ D H1, H D = none → Pv D xs.length H1 → Q (.ref D) H1) : ListK K (LcK g tt te vs σ Q) (.ref a) H :=
  ⟨a, rfl, ⟨xs, hS⟩, fun D hD => lc_list (K := K) (a := a) (xs := xs) (Pv D) (h0 D _ hD (Kp.new hD) upd_same) (fun i H1 hi p => hl D i H1 hD hi p) (fun i x H1 hx p => hs D i x H1 hD hx p) fun H1 p => hd D H1 hD p⟩
theorem forr {g : TG} {tb : TS} {e : Int} (n : Nat) (he : e = (n : Int)) (hb : n < 4611686018427387904) (Pv : Nat → St → Hp → Prop) (h0 : Pv 0 σ H)
    (hs : ∀ i σ H, i < n → Pv i σ H → g (.int (i : Int)) σ H fun σ2 H2 => tb { D with nx := Pv (i + 1), ct := Pv (i + 1), bk := D.nx } σ2 H2) (hd : ∀ σ H, Pv n σ H → D.nx σ H) : Rng1K (ForK g tb D σ) [.int e] H := by
  subst he
  refine ⟨(n : Int), rfl, by omega, by omega, ?_⟩
  rw [show ((n : Int)).toNat = n by simp]
  refine for_range (lo := 0) (n := n) Pv h0 (fun i σ H1 hi p => ?_) hd
  rw [show (0 : Int) + (i : Int) = (i : Int) by omega]
  exact hs i σ H1 hi p
theorem forl {g : TG} {tb : TS} {a : Addr} (xs : List V) (hS : SqL K H a xs) (Pv : Nat → St → Hp → Prop) (h0 : Pv 0 σ H) (hl : ∀ i σ H, i ≤ xs.length → Pv i σ H → SqL K H a xs)
    (hs : ∀ i x σ H, xs[i]? = some x → Pv i σ H → g x σ H fun σ2 H2 => tb { D with nx := Pv (i + 1), ct := Pv (i + 1), bk := D.nx } σ2 H2) (hd : ∀ σ H, Pv xs.length σ H → D.nx σ H) : ListK K (ForK g tb D σ) (.ref a) H :=
  ⟨a, rfl, ⟨xs, hS⟩, for_list (K := K) (a := a) (xs := xs) Pv h0 hl hs hd⟩
end
end Z

namespace K09
open PySem L2 Z
def topS (i : Nat) : Stmt := PySem.Challenge.pw_samphire_k09_picks_of_tapes_and_mixers.main.body.getD i (.Pass ⟨0, 0, 0, 0⟩)
abbrev s_number_at : Stmt := topS 4
abbrev N_number_at : List Str := ["weights", "place", "number", "left"]
theorem sc_number_at : FnScope N_number_at ["weights", "place"] (defScope s_number_at) := ⟨rfl, rfl, rfl, by decide +kernel, rfl, by decide +kernel, by decide +kernel⟩
abbrev s_Tape_init : Stmt := inClass (topS 5) 0
abbrev N_Tape_init : List Str := ["self", "numbers"]
theorem sc_Tape_init : FnScope N_Tape_init ["self", "numbers"] (defScope s_Tape_init) := ⟨rfl, rfl, rfl, by decide +kernel, rfl, by decide +kernel, by decide +kernel⟩
abbrev s_Tape_pick : Stmt := inClass (topS 5) 1
abbrev N_Tape_pick : List Str := ["self", "weights", "place", "picked"]
theorem sc_Tape_pick : FnScope N_Tape_pick ["self", "weights"] (defScope s_Tape_pick) := ⟨rfl, rfl, rfl, by decide +kernel, rfl, by decide +kernel, by decide +kernel⟩
abbrev s_Tape_used : Stmt := inClass (topS 5) 2
abbrev N_Tape_used : List Str := ["self"]
theorem sc_Tape_used : FnScope N_Tape_used ["self"] (defScope s_Tape_used) := ⟨rfl, rfl, rfl, by decide +kernel, rfl, by decide +kernel, by decide +kernel⟩
abbrev s_Mixer_init : Stmt := inClass (topS 6) 0
abbrev N_Mixer_init : List Str := ["self", "seed"]
theorem sc_Mixer_init : FnScope N_Mixer_init ["self", "seed"] (defScope s_Mixer_init) := ⟨rfl, rfl, rfl, by decide +kernel, rfl, by decide +kernel, by decide +kernel⟩
abbrev s_Mixer_pick : Stmt := inClass (topS 6) 1
abbrev N_Mixer_pick : List Str := ["self", "weights", "first", "second"]
theorem sc_Mixer_pick : FnScope N_Mixer_pick ["self", "weights"] (defScope s_Mixer_pick) := ⟨rfl, rfl, rfl, by decide +kernel, rfl, by decide +kernel, by decide +kernel⟩
abbrev s__law_deck : Stmt := topS 8
abbrev N__law_deck : List Str := ["script"]
theorem sc__law_deck : FnScope N__law_deck ["script"] (defScope s__law_deck) := ⟨rfl, rfl, rfl, by decide +kernel, rfl, by decide +kernel, by decide +kernel⟩
abbrev s__law_draw : Stmt := topS 9
abbrev N__law_draw : List Str := ["deck", "most", "value", "cell"]
theorem sc__law_draw : FnScope N__law_draw ["deck", "most"] (defScope s__law_draw) := ⟨rfl, rfl, rfl, by decide +kernel, rfl, by decide +kernel, by decide +kernel⟩
abbrev s__law_weights : Stmt := topS 10
abbrev N__law_weights : List Str := ["deck", "most", "weights", "k"]
theorem sc__law_weights : FnScope N__law_weights ["deck", "most"] (defScope s__law_weights) := ⟨rfl, rfl, rfl, by decide +kernel, rfl, by decide +kernel, by decide +kernel⟩
abbrev s__law_at : Stmt := topS 11
abbrev N__law_at : List Str := ["weights", "place", "total", "k"]
theorem sc__law_at : FnScope N__law_at ["weights", "place"] (defScope s__law_at) := ⟨rfl, rfl, rfl, by decide +kernel, rfl, by decide +kernel, by decide +kernel⟩
abbrev s__law_large : Stmt := topS 12
abbrev N__law_large : List Str := ["deck", "kind", "number"]
theorem sc__law_large : FnScope N__law_large ["deck"] (defScope s__law_large) := ⟨rfl, rfl, rfl, by decide +kernel, rfl, by decide +kernel, by decide +kernel⟩
abbrev s__law_tape : Stmt := topS 13
abbrev N__law_tape : List Str := ["deck", "numbers", "given", "tape", "k", "weights", "kept", "number"]
theorem sc__law_tape : FnScope N__law_tape ["deck"] (defScope s__law_tape) := ⟨rfl, rfl, rfl, by decide +kernel, rfl, by decide +kernel, by decide +kernel⟩
abbrev s__law_mixer : Stmt := topS 14
abbrev N__law_mixer : List Str := ["deck", "seeds", "first", "mixer", "state", "other", "k", "weights", "high", "row"]
theorem sc__law_mixer : FnScope N__law_mixer ["deck"] (defScope s__law_mixer) := ⟨rfl, rfl, rfl, by decide +kernel, rfl, by decide +kernel, by decide +kernel⟩
abbrev s_law : Stmt := topS 15
abbrev N_law : List Str := ["script", "deck", "weights", "place", "told"]
theorem sc_law : FnScope N_law ["script"] (defScope s_law) := ⟨rfl, rfl, rfl, by decide +kernel, rfl, by decide +kernel, by decide +kernel⟩
structure T (K : PySem.W.Frag) (mg : Str → Option Value) where
  a_number_at : Addr
  fd_number_at : FuncData
  F_number_at : Fun K "number_at" "number_at" s_number_at a_number_at fd_number_at
  b_number_at : Binds K fd_number_at ["weights", "place"] []
  g_number_at : mg "number_at" = some (.ref a_number_at)
  a_Tape_init : Addr
  fd_Tape_init : FuncData
  F_Tape_init : Fun K "__init__" "Tape.__init__" s_Tape_init a_Tape_init fd_Tape_init
  b_Tape_init : Binds K fd_Tape_init ["self", "numbers"] []
  a_Tape_pick : Addr
  fd_Tape_pick : FuncData
  F_Tape_pick : Fun K "pick" "Tape.pick" s_Tape_pick a_Tape_pick fd_Tape_pick
  b_Tape_pick : Binds K fd_Tape_pick ["self", "weights"] []
  a_Tape_used : Addr
  fd_Tape_used : FuncData
  F_Tape_used : Fun K "used" "Tape.used" s_Tape_used a_Tape_used fd_Tape_used
  b_Tape_used : Binds K fd_Tape_used ["self"] []
  a_Mixer_init : Addr
  fd_Mixer_init : FuncData
  F_Mixer_init : Fun K "__init__" "Mixer.__init__" s_Mixer_init a_Mixer_init fd_Mixer_init
  b_Mixer_init : Binds K fd_Mixer_init ["self", "seed"] []
  a_Mixer_pick : Addr
  fd_Mixer_pick : FuncData
  F_Mixer_pick : Fun K "pick" "Mixer.pick" s_Mixer_pick a_Mixer_pick fd_Mixer_pick
  b_Mixer_pick : Binds K fd_Mixer_pick ["self", "weights"] []
  a__law_deck : Addr
  fd__law_deck : FuncData
  F__law_deck : Fun K "_law_deck" "_law_deck" s__law_deck a__law_deck fd__law_deck
  b__law_deck : Binds K fd__law_deck ["script"] []
  g__law_deck : mg "_law_deck" = some (.ref a__law_deck)
  a__law_draw : Addr
  fd__law_draw : FuncData
  F__law_draw : Fun K "_law_draw" "_law_draw" s__law_draw a__law_draw fd__law_draw
  b__law_draw : Binds K fd__law_draw ["deck", "most"] []
  g__law_draw : mg "_law_draw" = some (.ref a__law_draw)
  a__law_weights : Addr
  fd__law_weights : FuncData
  F__law_weights : Fun K "_law_weights" "_law_weights" s__law_weights a__law_weights fd__law_weights
  b__law_weights : Binds K fd__law_weights ["deck", "most"] []
  g__law_weights : mg "_law_weights" = some (.ref a__law_weights)
  a__law_at : Addr
  fd__law_at : FuncData
  F__law_at : Fun K "_law_at" "_law_at" s__law_at a__law_at fd__law_at
  b__law_at : Binds K fd__law_at ["weights", "place"] []
  g__law_at : mg "_law_at" = some (.ref a__law_at)
  a__law_large : Addr
  fd__law_large : FuncData
  F__law_large : Fun K "_law_large" "_law_large" s__law_large a__law_large fd__law_large
  b__law_large : Binds K fd__law_large ["deck"] []
  g__law_large : mg "_law_large" = some (.ref a__law_large)
  a__law_tape : Addr
  fd__law_tape : FuncData
  F__law_tape : Fun K "_law_tape" "_law_tape" s__law_tape a__law_tape fd__law_tape
  b__law_tape : Binds K fd__law_tape ["deck"] []
  g__law_tape : mg "_law_tape" = some (.ref a__law_tape)
  a__law_mixer : Addr
  fd__law_mixer : FuncData
  F__law_mixer : Fun K "_law_mixer" "_law_mixer" s__law_mixer a__law_mixer fd__law_mixer
  b__law_mixer : Binds K fd__law_mixer ["deck"] []
  g__law_mixer : mg "_law_mixer" = some (.ref a__law_mixer)
  a_law : Addr
  fd_law : FuncData
  F_law : Fun K "law" "law" s_law a_law fd_law
  b_law : Binds K fd_law ["script"] []
  g_law : mg "law" = some (.ref a_law)
  C_Tape : Addr
  cl_Tape : Cls K C_Tape
  mg_Tape : mg "Tape" = some (.ref C_Tape)
  mk_Tape : Mk K C_Tape a_Tape_init
  na_Tape__numbers : NoAttr K C_Tape "_numbers"
  na_Tape__picks : NoAttr K C_Tape "_picks"
  me_Tape_pick : Meth K C_Tape "pick" a_Tape_pick
  me_Tape_used : Meth K C_Tape "used" a_Tape_used
  C_Mixer : Addr
  cl_Mixer : Cls K C_Mixer
  mg_Mixer : mg "Mixer" = some (.ref C_Mixer)
  mk_Mixer : Mk K C_Mixer a_Mixer_init
  na_Mixer__state : NoAttr K C_Mixer "_state"
  me_Mixer_pick : Meth K C_Mixer "pick" a_Mixer_pick
  z_bool : mg "bool" = none
  z_int : mg "int" = none
  z_isinstance : mg "isinstance" = none
  z_len : mg "len" = none
  z_list : mg "list" = none
  z_range : mg "range" = none
  z_sum : mg "sum" = none
  v_SEEDS : Value
  g_SEEDS : mg "SEEDS" = some v_SEEDS
  r_SEEDS : RelV (.int (2147483646)) v_SEEDS
  v_FACTOR : Value
  g_FACTOR : mg "FACTOR" = some v_FACTOR
  r_FACTOR : RelV (.int (48271)) v_FACTOR
  v_PRIME : Value
  g_PRIME : mg "PRIME" = some v_PRIME
  r_PRIME : RelV (.int (2147483647)) v_PRIME
/-! ### the walk by single steps -/
local macro_rules | `(tactic| walk_at "z1") => `(tactic| first
  | with_reducible refine Z.seq ?_
  | with_reducible refine Z.asg ?_
  | ((with_reducible refine' Z.gname ?zv ?_); (case zv => first | (dsimp only [List.set]; done) | (dsimp only [List.set]; exact rfl)))
  | ((with_reducible refine' Z.var ?zv ?_); (case zv => exact rfl))
  | with_reducible refine Z.cst ?_
  | with_reducible refine Z.op ?_
  | with_reducible refine Z.un ?_
  | with_reducible refine Z.i0 ?_
  | with_reducible refine Z.iU ?_
  | with_reducible refine Z.eqII ?_
  | with_reducible refine Z.neII ?_
  | with_reducible refine Z.eqSS ?_
  | with_reducible refine Z.neSS ?_
  | with_reducible refine Z.eqBB ?_
  | with_reducible refine Z.neBB ?_
  | with_reducible refine Z.bl' ?_
  | with_reducible refine Z.test ?_
  | with_reducible refine Z.tbb ?_
  | with_reducible refine Z.tand ?_
  | with_reducible refine Z.tor ?_
  | with_reducible refine Z.tnot ?_
  | with_reducible refine Z.tyes ?_
  | with_reducible refine Z.andV ?_
  | with_reducible refine Z.orV ?_
  | with_reducible refine Z.notV ?_
  | with_reducible refine Z.ifE ?_
  | with_reducible refine Z.chain ?_
  | with_reducible refine Z.yesB ?_
  | with_reducible refine Z.noB ?_
  | with_reducible refine Z.nil ?_
  | with_reducible refine Z.cons ?_
  | with_reducible refine Z.cb ?_
  | with_reducible refine Z.call ?_
  | with_reducible refine Z.meth ?_
  | with_reducible refine Z.fld ?_
  | with_reducible refine Z.int1 ?_
  | with_reducible refine Z.intb ?_
  | with_reducible refine Z.abs1 ?_
  | with_reducible refine Z.isN ?_
  | with_reducible refine Z.notN ?_
  | with_reducible refine Z.inSg ?_
  | with_reducible refine Z.ninSg ?_
  | with_reducible refine Z.tup ?_
  | with_reducible refine Z.lst ?_
  | with_reducible refine Z.gsub ?_
  | with_reducible refine Z.par ?_
  | ((with_reducible refine' Z.aug ?zv ?_); (case zv => exact rfl))
  | with_reducible refine Z.ipI' ?_
  | with_reducible refine Z.ifs ?_
  | with_reducible refine Z.ret ?_
  | with_reducible refine Z.retN ?_
  | with_reducible refine Z.next ?_
  | with_reducible refine Z.brk ?_
  | with_reducible refine Z.drop ?_
  | with_reducible refine Z.bm ?_
  | with_reducible refine Z.bm0 ?_
  | with_reducible refine Z.sfld ?_
  | with_reducible refine Z.sfldaug ?_
  | with_reducible refine Z.radd ?_
  | with_reducible refine Z.make ?_
  | with_reducible refine Z.lc ?_
  | with_reducible refine Z.rng1 ?_
  | with_reducible refine Z.ilist ?_
  | with_reducible refine Z.for_ ?_
  | dsimp only)
local macro_rules | `(tactic| walk_at "z0") => `(tactic| ((try simp only [Z.cxK]); (try dsimp only [L2.start, List.map, List.length, Nat.reduceAdd, Nat.reduceSub, List.replicate, List.cons_append, List.nil_append])))
local macro_rules | `(tactic| walk_at "z") => `(tactic| (repeat (walk_at "z1")))


/-! ### the deck of a law: _law_deck, _law_draw -/
def DeckOk (H : Hp) (a p : Addr) : Prop := ∃ (ns : List Int) (i : Nat) (r s : Int), H a = some (.lst [.ref p, .int (i : Int), .int r, .int s]) ∧ H p = some (.lst (ns.map V.int)) ∧ p ≠ a
theorem DeckOk.ne {H : Hp} {a p l : Addr} (d : DeckOk H a p) (h : H l = none) : a ≠ l ∧ p ≠ l := by
  obtain ⟨ns, i, r, s, ha, hp, _⟩ := d
  exact ⟨ne_of_none ha h, ne_of_none hp h⟩
theorem DeckOk.kp {M : List Addr} {H H' : Hp} {a p : Addr} (d : DeckOk H a p) (k : Kp M H H') (n1 : a ∉ M) (n2 : p ∉ M) : DeckOk H' a p := by
  obtain ⟨ns, i, r, s, ha, hp, hne⟩ := d
  exact ⟨ns, i, r, s, k _ _ n1 ha, k _ _ n2 hp, hne⟩
theorem DeckOk.kp0 {H H' : Hp} {a p : Addr} (d : DeckOk H a p) (k : Kp [] H H') : DeckOk H' a p := d.kp k nin0 nin0
theorem DeckOk.upd {H : Hp} {a p l : Addr} {o : HO} (d : DeckOk H a p) (n1 : a ≠ l) (n2 : p ≠ l) : DeckOk (upd H l o) a p := by
  obtain ⟨ns, i, r, s, ha, hp, hne⟩ := d
  exact ⟨ns, i, r, s, (upd_ne n1).trans ha, (upd_ne n2).trans hp, hne⟩
def spDeck (K : PySem.W.Frag) : Sp := fun vs H Q _ => ∃ (c : Addr) (ns : List Int), vs = [.ref c] ∧ SqL K H c (ns.map V.int) ∧ ∀ a p H', H a = none → H p = none → Kp [] H H' → DeckOk H' a p → Q (.ref a) H'
theorem ok__law_deck {P : Program} {w : World} {K : PySem.W.Frag} {mg : Str → Option Value} {base : Heap} (T : T K mg) : FnOk P w K mg base CX0 1 T.a__law_deck T.fd__law_deck ["script"] (spDeck K) := by
  refine T.F__law_deck.ok sc__law_deck (fun vs H Q E h => ?_) (fun cdv A outer s H vs Q E hr h => ?_)
  · obtain ⟨c, ns, rfl, _⟩ := h
    rfl
  · obtain ⟨c, ns, rfl, hS, q⟩ := h
    refine ⟨_, (pss_one (ps_ret (pe_lst (pa_cons (pe_callTy c_list (by rfl) T.z_list (by decide +kernel) (pa_cons (pv 0) pa_nil)) (pa_cons pe_int (pa_cons pe_int (pa_cons pe_int pa_nil))))))), ?_⟩
    walk_at "z0"
    walk_at "z"
    refine Z.listL hS fun p H1 np k1 e1 => ?_
    walk_at "z"
    refine ⟨Z.sz (m := 4) (by simp), Z.mk fun a H2 na k2 e2 => ?_⟩
    refine q a p H2 (k1.none nin0 na) np (k1.trans k2) ⟨ns, 0, 0, 7, e2, k2.get nin0 e1, ?_⟩
    exact ne_of_none e1 na
def spDraw (K : PySem.W.Frag) : Sp := fun vs H Q _ => ∃ (a p : Addr) (m : Int), vs = [.ref a, .int m] ∧ DeckOk H a p ∧ 1 ≤ m ∧ m < 18446744073709551616 ∧ ∀ H' v, 0 ≤ v → v < m → Kp [a] H H' → DeckOk H' a p → Q (.int v) H'
theorem at4 {p : Addr} {i r s : Int} (v : V) (j : Nat) (h : [V.ref p, .int i, .int r, .int s][j]? = some v) : atI [V.ref p, .int i, .int r, .int s] (j : Int) = some v := atI_nat h
theorem pow18 : (10 : Int) ^ (18 : Int).toNat = 1000000000000000000 := by decide
theorem ok__law_draw {P : Program} {w : World} {K : PySem.W.Frag} {mg : Str → Option Value} {base : Heap} (T : T K mg) : FnOk P w K mg base CX0 1 T.a__law_draw T.fd__law_draw ["deck", "most"] (spDraw K) := by
  refine T.F__law_draw.ok sc__law_draw (fun vs H Q E h => ?_) (fun cdv A outer s H vs Q E hr h => ?_)
  · obtain ⟨a, p, m, rfl, _⟩ := h
    rfl
  · obtain ⟨a, p, m, rfl, ⟨ns, i, r, s, ha, hp, hne⟩, hm1, hm2, q⟩ := h
    have hdiv : CDivW r m := wide_div (b := 64) (by omega) (by omega) (by decide) (by decide)
    refine ⟨_, (pss_cons (ps_if (pt_cmpR op_ge (pe_ix ix_list (pv 0) pe_int (fun _ _ => rfl)) (pv 1) (nomark _)) (pss_cons (ps_set (i := 2) sc__law_draw.nd rfl (by first | exact Or.inl rfl | exact Or.inr rfl) (pe_op op_mod (pe_callTy c_int (by rfl) T.z_int (by decide +kernel) (pa_cons (pe_ix ix_list (pv 0) pe_int (fun _ _ => rfl)) pa_nil)) (pv 1)))
      (pss_cons (ps_asg (pe_op op_fdivW (pe_ix ix_list (pv 0) pe_int (fun _ _ => rfl)) (pv 1)) (pg_sub (pv 0) pe_int set_list))
      (pss_one (ps_ret (pv 2))))) pss_nil)
      (pss_cons (ps_set (i := 3) sc__law_draw.nd rfl (by first | exact Or.inl rfl | exact Or.inr rfl) pe_int)
      (Z.pss_consJ (ps_if (pt_cmpR op_lt (pe_ix ix_list (pv 0) pe_int (fun _ _ => rfl)) (pe_callB c_len (by rfl) T.z_len (by decide +kernel) (pa_cons (pe_ix ix_list (pv 0) pe_int (fun _ _ => rfl)) pa_nil)) (nomark _)) (pss_one (ps_set (i := 3) sc__law_draw.nd rfl (by first | exact Or.inl rfl | exact Or.inr rfl) (pe_ix ix_list (pe_ix ix_list (pv 0) pe_int (fun _ _ => rfl)) (pe_ix ix_list (pv 0) pe_int (fun _ _ => rfl)) (fun _ _ => rfl)))) pss_nil)
      (pss_cons (ps_asg (pe_op op_add (pe_ix ix_list (pv 0) pe_int (fun _ _ => rfl)) pe_int) (pg_sub (pv 0) pe_int set_list))
      (pss_cons (ps_asg pe_int (pg_sub (pv 0) pe_int set_list))
      (pss_cons (ps_if (pt_cmpR op_ge (pv 3) (pe_op op_pow pe_int pe_int) (nomark _)) (pss_cons (ps_asg (pe_op op_fdivW (pv 3) (pv 1)) (pg_sub (pv 0) pe_int set_list))
      (pss_one (ps_ret (pe_op op_mod (pe_callTy c_int (by rfl) T.z_int (by decide +kernel) (pa_cons (pv 3) pa_nil)) (pv 1))))) pss_nil)
      (pss_cons (ps_asg (pe_op op_mod (pe_callTy c_int (by rfl) T.z_int (by decide +kernel) (pa_cons (pe_op op_add (pe_op op_add (pe_op op_mul (pe_ix ix_list (pv 0) pe_int (fun _ _ => rfl)) pe_int) (pe_op op_mul (pv 3) pe_int)) (pe_op op_mul (pe_ix ix_list (pv 0) pe_int (fun _ _ => rfl)) pe_int)) pa_nil)) pe_int) (pg_sub (pv 0) pe_int set_list))
      (pss_cons (ps_asg (pe_op op_mod (pe_callTy c_int (by rfl) T.z_int (by decide +kernel) (pa_cons (pe_op op_add (pe_op op_mul (pe_ix ix_list (pv 0) pe_int (fun _ _ => rfl)) pe_int) pe_int) pa_nil)) pe_int) (pg_sub (pv 0) pe_int set_list))
      (pss_one (ps_ret (pe_op op_mod (pe_callTy c_int (by rfl) T.z_int (by decide +kernel) (pa_cons (pe_op op_fdivW (pe_ix ix_list (pv 0) pe_int (fun _ _ => rfl)) pe_int) pa_nil)) (pv 1)))))))))))), ?_⟩
    walk_at "z0"
    walk_at "z"
    refine Z.ixL (lstL ha) (at4 _ 2 rfl) ?_
    walk_at "z"
    refine Z.ite (fun h1 => ?_) (fun h1 => ?_)
    · walk_at "z"
      refine Z.ixL (lstL ha) (at4 _ 2 rfl) ?_
      walk_at "z"
      refine Z.iC (by omega) ?_
      walk_at "z"
      refine Z.ixL (lstL ha) (at4 _ 2 rfl) ?_
      walk_at "z"
      refine Z.iC hdiv ?_
      walk_at "z"
      refine Z.setL ha (ixN_nat (j := 2) (by simp)) ?_
      walk_at "z"
      exact q _ _ (Int.emod_nonneg _ (by omega)) (Int.emod_lt_of_pos _ (by omega)) (Kp.put (by simp)) ⟨ns, i, r / m, s, upd_same, (upd_ne hne).trans hp, hne⟩
    · walk_at "z"
      refine Z.seqJ (fun σ' H' => ∃ c : Int, σ' = [some (.ref a), some (.int m), none, some (.int c)] ∧ H' = H) ?_ ?_
      · rintro σ' H' ⟨c, rfl, rfl⟩
        walk_at "z"
        refine Z.ixL (lstL ha) (at4 _ 1 rfl) ?_
        walk_at "z"
        refine Z.setL ha (ixN_nat (j := 1) (by simp)) ?_
        have ha1 : (upd H' a (.lst [.ref p, .int ((i + 1 : Nat) : Int), .int r, .int s])) a = some (.lst [.ref p, .int ((i + 1 : Nat) : Int), .int r, .int s]) := upd_same
        have hp1 : (upd H' a (.lst [.ref p, .int ((i + 1 : Nat) : Int), .int r, .int s])) p = some (.lst (ns.map V.int)) := (upd_ne hne).trans hp
        have k1 : Kp [a] H' (upd H' a (.lst [.ref p, .int ((i + 1 : Nat) : Int), .int r, .int s])) := Kp.put (by simp)
        dsimp only [List.set]
        rw [show ((i : Int) + 1) = ((i + 1 : Nat) : Int) by omega]
        revert ha1 hp1 k1
        generalize upd H' a (.lst [.ref p, .int ((i + 1 : Nat) : Int), .int r, .int s]) = H1
        intro ha1 hp1 k1
        walk_at "z"
        refine Z.setL ha1 (ixN_nat (j := 2) (by simp)) ?_
        dsimp only [List.set]
        have ha2 : (upd H1 a (.lst [.ref p, .int ((i + 1 : Nat) : Int), .int 0, .int s])) a = some (.lst [.ref p, .int ((i + 1 : Nat) : Int), .int 0, .int s]) := upd_same
        have hp2 : (upd H1 a (.lst [.ref p, .int ((i + 1 : Nat) : Int), .int 0, .int s])) p = some (.lst (ns.map V.int)) := (upd_ne hne).trans hp1
        have k2 : Kp [a] H' (upd H1 a (.lst [.ref p, .int ((i + 1 : Nat) : Int), .int 0, .int s])) := k1.trans (Kp.put (by simp))
        revert ha2 hp2 k2
        generalize upd H1 a (.lst [.ref p, .int ((i + 1 : Nat) : Int), .int 0, .int s]) = H2
        intro ha2 hp2 k2
        walk_at "z"
        refine Z.iC ⟨by decide, by decide, by decide⟩ ?_
        walk_at "z"
        refine Z.ite (fun h2 => ?_) (fun h2 => ?_)
        · walk_at "z"
          refine Z.iC hdiv ?_
          walk_at "z"
          refine Z.setL ha2 (ixN_nat (j := 2) (by simp)) ?_
          walk_at "z"
          refine Z.iC (by omega) ?_
          exact q _ _ (Int.emod_nonneg _ (by omega)) (Int.emod_lt_of_pos _ (by omega)) (k2.trans (Kp.put (by simp))) ⟨ns, i + 1, c / m, s, upd_same, (upd_ne hne).trans hp2, hne⟩
        · walk_at "z"
          refine Z.ixL (lstL ha2) (at4 _ 3 rfl) ?_
          walk_at "z"
          refine Z.iC (.inr (by decide)) ?_
          walk_at "z"
          refine Z.iC (.inr (by decide)) ?_
          walk_at "z"
          refine Z.ixL (lstL ha2) (at4 _ 1 rfl) ?_
          walk_at "z"
          refine Z.iC (.inr (by decide)) ?_
          walk_at "z"
          refine Z.iC (by decide) ?_
          walk_at "z"
          refine Z.setL ha2 (ixN_nat (j := 3) (by simp)) ?_
          dsimp only [List.set]
          generalize (s * 48271 + c * 69621 + ((i + 1 : Nat) : Int) * 911) % 2147483647 = s1
          have ha3 : (upd H2 a (.lst [.ref p, .int ((i + 1 : Nat) : Int), .int 0, .int s1])) a = some (.lst [.ref p, .int ((i + 1 : Nat) : Int), .int 0, .int s1]) := upd_same
          have hp3 : (upd H2 a (.lst [.ref p, .int ((i + 1 : Nat) : Int), .int 0, .int s1])) p = some (.lst (ns.map V.int)) := (upd_ne hne).trans hp2
          have k3 : Kp [a] H' (upd H2 a (.lst [.ref p, .int ((i + 1 : Nat) : Int), .int 0, .int s1])) := k2.trans (Kp.put (by simp))
          revert ha3 hp3 k3
          generalize upd H2 a (.lst [.ref p, .int ((i + 1 : Nat) : Int), .int 0, .int s1]) = H3
          intro ha3 hp3 k3
          walk_at "z"
          refine Z.ixL (lstL ha3) (at4 _ 3 rfl) ?_
          walk_at "z"
          refine Z.iC (.inr (by decide)) ?_
          walk_at "z"
          refine Z.iC (by decide) ?_
          walk_at "z"
          refine Z.setL ha3 (ixN_nat (j := 3) (by simp)) ?_
          dsimp only [List.set]
          generalize (s1 * 48271 + 12345) % 2147483647 = s2
          walk_at "z"
          refine Z.ixL (lstL upd_same) (at4 _ 3 rfl) ?_
          walk_at "z"
          refine Z.iC (wide_div (b := 64) (by decide) (by decide) (by decide) (by decide)) ?_
          walk_at "z"
          refine Z.iC (by omega) ?_
          exact q _ _ (Int.emod_nonneg _ (by omega)) (Int.emod_lt_of_pos _ (by omega)) (k3.trans (Kp.put (by simp))) ⟨ns, i + 1, 0, s2, upd_same, (upd_ne hne).trans hp3, hne⟩
      · intro N jn
        walk_at "z"
        refine Z.ixL (lstL ha) (at4 _ 1 rfl) ?_
        walk_at "z"
        refine Z.ixL (lstL ha) (at4 _ 0 rfl) ?_
        walk_at "z"
        refine Z.lenL (lstL hp) ?_
        walk_at "z"
        refine Z.ite (fun h2 => ?_) (fun h2 => ?_)
        · walk_at "z"
          refine Z.ixL (lstL ha) (at4 _ 0 rfl) ?_
          walk_at "z"
          refine Z.ixL (lstL ha) (at4 _ 1 rfl) ?_
          walk_at "z"
          have hi : i < ns.length := by
            rw [List.length_map] at h2
            omega
          refine Z.ixL (lstL hp) (atM (List.getElem?_eq_getElem hi)) ?_
          walk_at "z"
          exact jn _ _ ⟨_, rfl, rfl⟩
        · walk_at "z"
          exact jn _ _ ⟨_, rfl, rfl⟩

/-! ### sums of lists of ints -/
theorem sum_nonneg : ∀ {l : List Int}, (∀ n ∈ l, 0 ≤ n) → 0 ≤ l.sum
  | [], _ => by simp
  | a :: r, h => by
    have h1 := h a (by simp)
    have h2 := sum_nonneg (l := r) fun n hn => h n (by simp [hn])
    rw [List.sum_cons]
    omega
theorem sum_le {c : Int} : ∀ {l : List Int}, (∀ n ∈ l, n ≤ c) → l.sum ≤ c * l.length
  | [], _ => by simp
  | a :: r, h => by
    have h1 := h a (by simp)
    have h2 := sum_le (c := c) (l := r) fun n hn => h n (by simp [hn])
    rw [List.sum_cons, List.length_cons, show c * ((r.length + 1 : Nat) : Int) = c * r.length + c by rw [Int.natCast_add, Int.mul_add]; simp]
    omega
theorem sum_ge_mem : ∀ {l : List Int}, (∀ n ∈ l, 0 ≤ n) → ∀ x ∈ l, x ≤ l.sum
  | [], _, x, hx => by simp at hx
  | a :: r, h, x, hx => by
    have h1 := h a (by simp)
    have h3 := sum_nonneg (l := r) fun n hn => h n (by simp [hn])
    rw [List.sum_cons]
    rcases List.mem_cons.mp hx with e | e
    · omega
    · have h2 := sum_ge_mem (l := r) (fun n hn => h n (by simp [hn])) x e
      omega
theorem take_nonneg {l : List Int} (h : ∀ n ∈ l, 0 ≤ n) (i : Nat) : 0 ≤ (l.take i).sum := sum_nonneg fun n hn => h n (List.mem_of_mem_take hn)
/-! ### lists of ints as data -/
theorem layInts : ∀ ws : List Int, PyData.canLayAll0 (ws.map PyData.int) = true
  | [] => by simp [PyData.canLayAll0]
  | w :: r => by simp [PyData.canLayAll0, PyData.canLay0, layInts r]
theorem depthInts : ∀ ws : List Int, PyData.depthAll (ws.map PyData.int) = 0
  | [] => by simp [PyData.depthAll]
  | w :: r => by simp [PyData.depthAll, PyData.depth, depthInts r]
theorem shInts (ws : List Int) : SeqAt.shaped (.list (ws.map PyData.int)) = true := by
  simp [SeqAt.shaped, PyData.canLay0, PyData.depth, layInts, depthInts]
theorem dpInts {K : PySem.W.Frag} {H : Hp} : ∀ ws : List Int, DpAll K H (ws.map V.int) (ws.map PyData.int)
  | [] => .nil
  | w :: r => .cons (.int w) (dpInts r)
theorem dpI {K : PySem.W.Frag} {H : Hp} {a : Addr} {ws : List Int} (h : SqL K H a (ws.map V.int)) : Dp K H (.ref a) (.list (ws.map PyData.int)) := .lst h (dpInts ws)
theorem eqvI (ws : List Int) : PyData.eqv (.list (ws.map PyData.int)) (.list (ws.map PyData.int)) = true := SeqAt.eqv_refl _ (by simp [PyData.canLay0, layInts])
theorem neLL {K : PySem.W.Frag} {H : Hp} {Q : VK} {a b : Addr} {ws : List Int} (h1 : SqL K H a (ws.map V.int)) (h2 : SqL K H b (ws.map V.int)) (q : Q (.bl false) H) : rNeD K (.ref a) (.ref b) H Q :=
  ⟨_, _, dpI h1, dpI h2, shInts _, shInts _, by rw [eqvI]; exact q⟩
theorem eqLL {K : PySem.W.Frag} {H : Hp} {Q : VK} {a b : Addr} {ws : List Int} (h1 : SqL K H a (ws.map V.int)) (h2 : SqL K H b (ws.map V.int)) (q : Q (.bl true) H) : rEqD K (.ref a) (.ref b) H Q :=
  ⟨_, _, dpI h1, dpI h2, shInts _, shInts _, by rw [eqvI]; exact q⟩

/-! ### number_at -/
def nAt : List Int → Int → Nat
  | [], _ => 0
  | w :: r, p => if p < w then 0 else nAt r (p - w) + 1
theorem nAt_spec : ∀ {ns : List Int} {p : Int} {i : Nat}, (∀ n ∈ ns, 0 ≤ n) → (ns.take i).sum ≤ p → p < (ns.take (i + 1)).sum → nAt ns p = i
  | [], p, i, _, h1, h2 => by
    simp at h1 h2
    omega
  | w :: r, p, 0, _, h1, h2 => by
    simp at h1 h2
    unfold nAt
    rw [if_pos h2]
  | w :: r, p, i + 1, h, h1, h2 => by
    rw [List.take_succ_cons, List.sum_cons] at h1 h2
    have h3 := take_nonneg (l := r) (fun n hn => h n (by simp [hn])) i
    have ih := nAt_spec (ns := r) (p := p - w) (i := i) (fun n hn => h n (by simp [hn])) (by omega) (by omega)
    unfold nAt
    rw [if_neg (by omega), ih]
structure WOk (ws : List Int) : Prop where
  pos : ∀ n ∈ ws, 0 ≤ n
  sum : 0 < ws.sum
def spNumberAt (K : PySem.W.Frag) : Sp := fun vs H Q _ => ∃ (a : Addr) (ns : List Int) (p : Int), vs = [.ref a, .int p] ∧ SqL K H a (ns.map V.int) ∧ 0 ≤ p ∧ (∀ n ∈ ns, 0 ≤ n) ∧ p < ns.sum ∧ Q (.int (nAt ns p)) H
theorem lt_len {ns : List Int} {p : Int} {j : Nat} (h : (ns.take j).sum ≤ p) (hl : p < ns.sum) : j < ns.length := by
  rcases Nat.lt_or_ge j ns.length with h1 | h1
  · exact h1
  · rw [List.take_of_length_le h1] at h
    omega
theorem ok_number_at {P : Program} {w : World} {K : PySem.W.Frag} {mg : Str → Option Value} {base : Heap} (T : T K mg) : FnOk P w K mg base CX0 1 T.a_number_at T.fd_number_at ["weights", "place"] (spNumberAt K) := by
  refine T.F_number_at.ok sc_number_at (fun vs H Q E h => ?_) (fun cdv A outer s H vs Q E hr h => ?_)
  · obtain ⟨a, ns, p, rfl, _⟩ := h
    rfl
  · obtain ⟨a, ns, p, rfl, hS, hp, hn, hl, q⟩ := h
    refine ⟨_, (pss_cons (ps_set (i := 2) sc_number_at.nd rfl (by first | exact Or.inl rfl | exact Or.inr rfl) pe_int)
      (pss_cons (ps_set (i := 3) sc_number_at.nd rfl (by first | exact Or.inl rfl | exact Or.inr rfl) (pv 1))
      (pss_cons (ps_while PassesOwn.never (pt_cmpR op_ge (pv 3) (pe_ix ix_list (pv 0) (pv 2) (fun _ _ => rfl)) (nomark _)) (pss_cons (ps_aug (i := 3) sc_number_at.nd rfl (by first | exact Or.inl rfl | exact Or.inr rfl) (pe_ix ix_list (pv 0) (pv 2) (fun _ _ => rfl)) ip_sub)
      (pss_one (ps_aug (i := 2) sc_number_at.nd rfl (by first | exact Or.inl rfl | exact Or.inr rfl) pe_int ip_add))))
      (pss_one (ps_ret (pv 2)))))), ?_⟩
    walk_at "z0"
    walk_at "z"
    refine Z.wh (fun m σ' H' => ∃ (j : Nat) (left : Int), σ' = [some (.ref a), some (.int p), some (.int (j : Int)), some (.int left)] ∧ H' = H ∧ m + j = ns.length ∧ left = p - (ns.take j).sum ∧ 0 ≤ left) ns.length ⟨0, p, rfl, rfl, rfl, by simp, hp⟩ ?_
    rintro m σ' H' ⟨j, left, rfl, rfl, hm, hleft, h0⟩
    have hj : j < ns.length := lt_len (p := p) (by omega) hl
    have hx : ns[j]? = some ns[j] := List.getElem?_eq_getElem hj
    have hs := sum_take hx
    walk_at "z"
    refine Z.ixL hS (atM hx) ?_
    walk_at "z"
    refine Z.ite (fun h1 => ?_) (fun h1 => ?_)
    · refine Z.whb ?_
      walk_at "z"
      refine Z.ixL hS (atM hx) ?_
      walk_at "z"
      refine ⟨m - 1, by omega, j + 1, _, rfl, rfl, by omega, ?_, ?_⟩
      · omega
      · omega
    · walk_at "z"
      rw [nAt_spec hn (by omega) (by omega : p < (ns.take (j + 1)).sum)] at q
      exact q
def spAt (K : PySem.W.Frag) : Sp := fun vs H Q E => (∃ (a : Addr) (ns : List Int), SqL K H a (ns.map V.int) ∧ ns.length ≤ 1000 ∧ ∃ p, vs = [.ref a, .int p] ∧ 0 ≤ p ∧ (∀ n ∈ ns, 0 ≤ n) ∧ p < ns.sum ∧ Q (.int (nAt ns p)) H)
theorem ok__law_at {P : Program} {w : World} {K : PySem.W.Frag} {mg : Str → Option Value} {base : Heap} (T : T K mg) : FnOk P w K mg base CX0 1 T.a__law_at T.fd__law_at ["weights", "place"] (spAt K) := by
  refine T.F__law_at.ok sc__law_at (fun vs H Q E h => ?_) (fun cdv A outer s H vs Q E hr h => ?_)
  · obtain ⟨a, ns, _, _, p, rfl, _⟩ := h
    rfl
  · obtain ⟨a, ns, hS, hsz, p, rfl, hp, hn, hl, q⟩ := h
    refine ⟨_, (pss_cons (ps_set (i := 2) sc__law_at.nd rfl (by first | exact Or.inl rfl | exact Or.inr rfl) pe_int)
      (pss_cons (ps_for PassesOwn.never rfl (pi_range1 (by rfl) T.z_range (pa_cons (pe_callB c_len (by rfl) T.z_len (by decide +kernel) (pa_cons (pv 0) pa_nil)) pa_nil)) (pg_name (i := 3) sc__law_at.nd rfl (by first | exact Or.inl rfl | exact Or.inr rfl)) (pss_cons (ps_set (i := 2) sc__law_at.nd rfl (by first | exact Or.inl rfl | exact Or.inr rfl) (pe_op op_add (pv 2) (pe_ix ix_list (pv 0) (pv 3) (fun _ _ => rfl))))
      (pss_one (ps_if (pt_cmpR op_gt (pv 2) (pv 1) (nomark _)) (pss_one (ps_ret (pv 3))) pss_nil))))
      (pss_one (ps_ret (pe_callB c_len (by rfl) T.z_len (by decide +kernel) (pa_cons (pv 0) pa_nil)))))), ?_⟩
    walk_at "z0"
    walk_at "z"
    refine Z.lenL hS ?_
    walk_at "z"
    refine Z.forr ns.length ?_ (by omega) (fun i σ' H' => ∃ y, σ' = [some (.ref a), some (.int p), some (.int (ns.take i).sum), y] ∧ H' = H ∧ (ns.take i).sum ≤ p) ⟨none, rfl, rfl, by simpa using hp⟩ ?_ ?_
    · rw [List.length_map]
    · rintro i σ' H' hi ⟨y, rfl, rfl, h0⟩
      have hx : ns[i]? = some ns[i] := List.getElem?_eq_getElem hi
      have hs := sum_take hx
      walk_at "z"
      refine Z.ixL hS (atM hx) ?_
      walk_at "z"
      refine Z.ite (fun h1 => ?_) (fun h1 => ?_)
      · walk_at "z"
        rw [nAt_spec hn h0 (by omega : p < (ns.take (i + 1)).sum)] at q
        exact q
      · walk_at "z"
        exact ⟨_, by rw [hs], rfl, by omega⟩
    · rintro σ' H' ⟨y, rfl, rfl, h0⟩
      rw [List.take_length] at h0
      omega

/-! ### weights, large numbers -/
def W5 (ws : List Int) : Prop := (∀ n ∈ ws, 0 ≤ n) ∧ (∀ n ∈ ws, n ≤ 3) ∧ 0 < ws.sum ∧ 1 ≤ ws.length ∧ ws.length ≤ 5
def spWeights (K : PySem.W.Frag) : Sp := fun vs H Q _ => ∃ (a p : Addr), vs = [.ref a, .int 5] ∧ DeckOk H a p ∧ ∀ H' b ws, H b = none → Kp [a] H H' → DeckOk H' a p → H' b = some (.lst (ws.map V.int)) → W5 ws → Q (.ref b) H'
theorem mem_append_one {α : Type} {P : α → Prop} {l : List α} {x : α} (h : ∀ n ∈ l, P n) (hx : P x) : ∀ n ∈ l ++ [x], P n := fun n hn => by
  rcases List.mem_append.mp hn with h1 | h1
  · exact h n h1
  · rw [List.mem_singleton.mp h1]; exact hx
theorem mul_small {a b : Int} (h0 : 0 ≤ a) (h1 : a < 4) (h2 : 0 ≤ b) (h3 : b < 2) : 0 ≤ a * b ∧ a * b ≤ 3 := by
  have hb : b = 0 ∨ b = 1 := by omega
  rcases hb with rfl | rfl <;> omega
theorem mem_set_of {α : Type} {P : α → Prop} {l : List α} {j : Nat} {x : α} (h : ∀ n ∈ l, P n) (hx : P x) : ∀ n ∈ l.set j x, P n := fun n hn => by
  rcases List.mem_or_eq_of_mem_set hn with h1 | h1
  · exact h n h1
  · rw [h1]; exact hx
theorem ok__law_weights {P : Program} {w : World} {K : PySem.W.Frag} {mg : Str → Option Value} {base : Heap} (T : T K mg) : FnOk P w K mg base CX0 2 T.a__law_weights T.fd__law_weights ["deck", "most"] (spWeights K) := by
  refine T.F__law_weights.ok sc__law_weights (fun vs H Q E h => ?_) (fun cdv A outer s H vs Q E hr h => ?_)
  · obtain ⟨a, p, rfl, _⟩ := h
    rfl
  · obtain ⟨a, p, rfl, hd, q⟩ := h
    refine ⟨_, (pss_cons (ps_setLc (i := 2) (own := [("k", 3)]) (g := gName 3) rfl sc__law_weights.nd rfl rfl (sw_true rfl rfl rfl (by decide +kernel)) (pi_range1 (by rfl) T.z_range (pa_cons (pe_op op_add pe_int (pe_call (ok__law_draw T) (hr.mono (by decide)) (by rfl) T.g__law_draw T.F__law_draw.kp T.b__law_draw .nil pass0 (pa_cons (pv 0) (pa_cons (pv 1) pa_nil)))) pa_nil)) (blkOk_by (own := [("k", 3)]) (N := N__law_weights) (sc := defScope s__law_weights) (by decide +kernel)) (fun _ _ _ _ _ => (pg_name (i := 3) sc__law_weights.nd rfl (by first | exact Or.inl rfl | exact Or.inr rfl))) (fun _ _ _ _ _ => pts_nil) (fun _ _ _ _ _ => (pe_op op_mul (pe_call (ok__law_draw T) (hr.mono (by decide)) (by rfl) T.g__law_draw T.F__law_draw.kp T.b__law_draw .nil pass0 (pa_cons (pv 0) (pa_cons pe_int pa_nil))) (pe_call (ok__law_draw T) (hr.mono (by decide)) (by rfl) T.g__law_draw T.F__law_draw.kp T.b__law_draw .nil pass0 (pa_cons (pv 0) (pa_cons pe_int pa_nil))))))
      (Z.pss_consJ (ps_if (pt_cmpR op_eq (pe_callB (cr_sum rfl) (by rfl) T.z_sum (by decide +kernel) (pa_cons (pv 2) pa_nil)) pe_int (nomark _)) (pss_one (ps_asg (pe_op op_add pe_int (pe_call (ok__law_draw T) (hr.mono (by decide)) (by rfl) T.g__law_draw T.F__law_draw.kp T.b__law_draw .nil pass0 (pa_cons (pv 0) (pa_cons pe_int pa_nil)))) (pg_sub (pv 2) (pe_call (ok__law_draw T) (hr.mono (by decide)) (by rfl) T.g__law_draw T.F__law_draw.kp T.b__law_draw .nil pass0 (pa_cons (pv 0) (pa_cons (pe_callB c_len (by rfl) T.z_len (by decide +kernel) (pa_cons (pv 2) pa_nil)) pa_nil))) set_list))) pss_nil)
      (pss_one (ps_ret (pv 2))))), ?_⟩
    walk_at "z0"
    walk_at "z"
    refine ⟨a, p, 5, rfl, hd, by decide, by decide, fun H1 n0 hn0 hn1 k1 d1 => ?_⟩
    walk_at "z"
    refine Z.lcr (1 + n0.toNat) ?_ (by omega) (fun D i H' => ∃ ws : List Int, Kp [a] H H' ∧ DeckOk H' a p ∧ H' D = some (.lst (ws.map V.int)) ∧ ws.length = i ∧ (∀ n ∈ ws, 0 ≤ n) ∧ ∀ n ∈ ws, n ≤ 3) ?_ ?_ ?_
    · omega
    · intro D H2 nD k2 e2
      exact ⟨[], k1.trans (k2.sub (by simp)), d1.kp0 k2, e2, rfl, by simp, by simp⟩
    · rintro D i H2 nD hi ⟨ws, k2, d2, e2, hl, hw0, hw3⟩
      obtain ⟨naD, npD⟩ := d1.ne nD
      dsimp only [wipe, List.set]
      walk_at "z"
      refine ⟨rfl, ?_⟩
      walk_at "z"
      refine ⟨a, p, 4, rfl, d2, by decide, by decide, fun H3 v hv0 hv1 k3 d3 => ?_⟩
      walk_at "z"
      refine ⟨a, p, 2, rfl, d3, by decide, by decide, fun H4 u hu0 hu1 k4 d4 => ?_⟩
      walk_at "z"
      refine Z.iC (.inl (by omega)) ?_
      have hm := mul_small hv0 hv1 hu0 hu1
      have e4 : H4 D = some (.lst (ws.map V.int)) := k4.get (nin1 naD.symm) (k3.get (nin1 naD.symm) e2)
      refine ⟨_, e4, Z.szl (m := 10) (by rw [List.length_map]; omega), ws ++ [v * u], ?_, d4.upd naD npD, ?_, ?_, ?_, ?_⟩
      · exact ((k2.trans k3).trans k4).mut ((k1.none (nin1 naD.symm)) nD) rfl
      · rw [upd_same, List.map_append]; rfl
      · simp [hl]
      · exact mem_append_one hw0 hm.1
      · exact mem_append_one hw3 hm.2
    · rintro D H2 nD ⟨ws, k2, d2, e2, hl, hw0, hw3⟩
      obtain ⟨naD, npD⟩ := d1.ne nD
      have nD0 : H D = none := k1.none (nin1 naD.symm) nD
      walk_at "z"
      refine Z.seqJ (fun σ' H' => ∃ ws : List Int, σ' = [some (.ref a), some (.int 5), some (.ref D), none] ∧ Kp [a] H H' ∧ DeckOk H' a p ∧ H' D = some (.lst (ws.map V.int)) ∧ W5 ws) ?_ ?_
      · rintro σ' H' ⟨ws, rfl, k5, d5, e5, hW⟩
        walk_at "z"
        exact q _ _ _ nD0 k5 d5 e5 hW
      · intro N jn
        walk_at "z"
        refine Z.sumL (lstL e2) ?_
        walk_at "z"
        refine Z.ite (fun h1 => ?_) (fun h1 => ?_)
        · walk_at "z"
          refine ⟨a, p, 3, rfl, d2, by decide, by decide, fun H3 v hv0 hv1 k3 d3 => ?_⟩
          walk_at "z"
          have e3 : H3 D = some (.lst (ws.map V.int)) := k3.get (nin1 naD.symm) e2
          refine Z.lenL (lstL e3) ?_
          walk_at "z"
          rw [List.length_map]
          refine ⟨a, p, (ws.length : Int), rfl, d3, by omega, by omega, fun H4 u hu0 hu1 k4 d4 => ?_⟩
          have e4 : H4 D = some (.lst (ws.map V.int)) := k4.get (nin1 naD.symm) e3
          obtain ⟨j, rfl⟩ : ∃ j : Nat, u = (j : Int) := ⟨u.toNat, by omega⟩
          walk_at "z"
          refine Z.setL e4 (ixN_nat (by rw [List.length_map]; omega)) ?_
          walk_at "z"
          have hj : j < ws.length := by omega
          have hge : ∀ n ∈ ws.set j (1 + v), 0 ≤ n := mem_set_of hw0 (by omega)
          refine jn _ _ ⟨ws.set j (1 + v), rfl, ((k2.trans k3).trans k4).mut nD0 rfl, d4.upd naD npD, by rw [upd_same, List.map_set], hge, mem_set_of hw3 (by omega), ?_, by rw [List.length_set]; omega, by rw [List.length_set]; omega⟩
          have := sum_ge_mem hge (1 + v) (List.mem_set hj (1 + v))
          omega
        · walk_at "z"
          refine jn _ _ ⟨ws, rfl, k2, d2, e2, hw0, hw3, ?_, by omega, by omega⟩
          have := sum_nonneg hw0
          omega
def spLarge (K : PySem.W.Frag) : Sp := fun vs H Q _ => ∃ (a p : Addr), vs = [.ref a] ∧ DeckOk H a p ∧ ∀ H' v, 0 ≤ v → Kp [a] H H' → DeckOk H' a p → Q (.int v) H'
theorem ok__law_large {P : Program} {w : World} {K : PySem.W.Frag} {mg : Str → Option Value} {base : Heap} (T : T K mg) : FnOk P w K mg base CX0 2 T.a__law_large T.fd__law_large ["deck"] (spLarge K) := by
  refine T.F__law_large.ok sc__law_large (fun vs H Q E h => ?_) (fun cdv A outer s H vs Q E hr h => ?_)
  · obtain ⟨a, p, rfl, _⟩ := h
    rfl
  · obtain ⟨a, p, rfl, hd, q⟩ := h
    refine ⟨_, (pss_cons (ps_set (i := 1) sc__law_large.nd rfl (by first | exact Or.inl rfl | exact Or.inr rfl) (pe_call (ok__law_draw T) (hr.mono (by decide)) (by rfl) T.g__law_draw T.F__law_draw.kp T.b__law_draw .nil pass0 (pa_cons (pv 0) (pa_cons pe_int pa_nil))))
      (pss_cons (ps_if (pt_cmpR op_lt (pv 1) pe_int (nomark _)) (pss_one (ps_ret (pe_call (ok__law_draw T) (hr.mono (by decide)) (by rfl) T.g__law_draw T.F__law_draw.kp T.b__law_draw .nil pass0 (pa_cons (pv 0) (pa_cons pe_int pa_nil))))) pss_nil)
      (pss_cons (ps_set (i := 2) sc__law_large.nd rfl (by first | exact Or.inl rfl | exact Or.inr rfl) (pe_call (ok__law_draw T) (hr.mono (by decide)) (by rfl) T.g__law_draw T.F__law_draw.kp T.b__law_draw .nil pass0 (pa_cons (pv 0) (pa_cons (pe_op op_pow pe_int pe_int) pa_nil))))
      (Z.pss_consJ (ps_if (pt_cmpR op_eq (pv 1) pe_int (nomark _)) (pss_one (ps_set (i := 2) sc__law_large.nd rfl (by first | exact Or.inl rfl | exact Or.inr rfl) (pe_op op_add (pe_op op_mul (pv 2) (pe_op op_pow pe_int pe_int)) (pe_call (ok__law_draw T) (hr.mono (by decide)) (by rfl) T.g__law_draw T.F__law_draw.kp T.b__law_draw .nil pass0 (pa_cons (pv 0) (pa_cons (pe_op op_pow pe_int pe_int) pa_nil)))))) pss_nil)
      (pss_one (ps_ret (pv 2))))))), ?_⟩
    walk_at "z0"
    walk_at "z"
    refine ⟨a, p, 4, rfl, hd, by decide, by decide, fun H1 kd hk0 hk1 k1 d1 => ?_⟩
    walk_at "z"
    refine Z.ite (fun h1 => ?_) (fun h1 => ?_)
    · walk_at "z"
      refine ⟨a, p, 40, rfl, d1, by decide, by decide, fun H2 v hv0 hv1 k2 d2 => ?_⟩
      walk_at "z"
      exact q _ _ hv0 (k1.trans k2) d2
    · walk_at "z"
      refine Z.iC ⟨by decide, by decide, by decide⟩ ?_
      walk_at "z"
      refine ⟨a, p, _, rfl, d1, by decide, by decide, fun H2 v hv0 hv1 k2 d2 => ?_⟩
      have hv1' : v < 1000000000 := hv1
      walk_at "z"
      refine Z.seqJ (fun σ' H' => ∃ v, σ' = [some (.ref a), some (.int kd), some (.int v)] ∧ 0 ≤ v ∧ Kp [a] H H' ∧ DeckOk H' a p) ?_ ?_
      · rintro σ' H' ⟨v, rfl, hv, k3, d3⟩
        walk_at "z"
        exact q _ _ hv k3 d3
      · intro N jn
        walk_at "z"
        refine Z.ite (fun h2 => ?_) (fun h2 => ?_)
        · walk_at "z"
          refine Z.iC ⟨by decide, by decide, by decide⟩ ?_
          walk_at "z"
          refine Z.iC (.inl (by omega)) ?_
          walk_at "z"
          refine Z.iC ⟨by decide, by decide, by decide⟩ ?_
          walk_at "z"
          refine ⟨a, p, _, rfl, d2, by decide, by decide, fun H3 u hu0 hu1 k3 d3 => ?_⟩
          walk_at "z"
          refine jn _ _ ⟨_, rfl, ?_, (k1.trans k2).trans k3, d3⟩
          have h9 : (0 : Int) ≤ v * 10 ^ (30 : Int).toNat := Int.mul_nonneg hv0 (by decide)
          omega
        · walk_at "z"
          exact jn _ _ ⟨_, rfl, hv0, k1.trans k2, d2⟩

/-! ### the tape -/
theorem ne_np : ¬ (("_numbers" : Str) = "_picks") := by decide +kernel
def tf (l : Addr) (k : Nat) : List (Str × V) := [("_numbers", .ref l), ("_picks", .int (k : Int))]
theorem tf_n (l : Addr) (k : Nat) : (tf l k).lookup ("_numbers" : Str) = some (.ref l) := rfl
theorem tf_p (l : Addr) (k : Nat) : (tf l k).lookup ("_picks" : Str) = some (.int (k : Int)) := rfl
theorem tf_mk (l : Addr) : putF "_picks" (.int 0) (putF "_numbers" (.ref l) []) = tf l 0 := by
  show (if ("_numbers" : Str) = "_picks" then _ else (("_numbers" : Str), V.ref l) :: [(("_picks" : Str), V.int 0)]) = _
  rw [if_neg ne_np]; rfl
theorem tf_put (l : Addr) (k : Nat) : putF "_picks" (.int ((k : Int) + 1)) (tf l k) = tf l (k + 1) := by
  show (if ("_numbers" : Str) = "_picks" then _ else (("_numbers" : Str), V.ref l) :: (if ("_picks" : Str) = "_picks" then [(("_picks" : Str), V.int ((k : Int) + 1))] else _)) = _
  rw [if_neg ne_np, if_pos rfl]; rfl
theorem tf_pick (l : Addr) (k : Nat) : (tf l k).lookup ("pick" : Str) = none := rfl
theorem tf_used (l : Addr) (k : Nat) : (tf l k).lookup ("used" : Str) = none := rfl
def TapeAt (C : Addr) (H : Hp) (x l : Addr) (ns : List Int) (k : Nat) : Prop := (∃ dx, H x = some (.ins C dx (tf l k))) ∧ H l = some (.lst (ns.map V.int))
def spTInit (K : PySem.W.Frag) (C : Addr) : Sp := fun vs H Q _ => ∃ (x b dx : Addr) (ns : List Int), vs = [.ref x, .ref b] ∧ H x = some (.ins C dx []) ∧ SqL K H b (ns.map V.int) ∧ ∀ H' l, H l = none → Kp [x] H H' → TapeAt C H' x l ns 0 → Q .non H'
theorem ok_Tape_init {P : Program} {w : World} {K : PySem.W.Frag} {mg : Str → Option Value} {base : Heap} (T : T K mg) : FnOk P w K mg base CX0 1 T.a_Tape_init T.fd_Tape_init ["self", "numbers"] (spTInit K T.C_Tape) := by
  refine T.F_Tape_init.ok sc_Tape_init (fun vs H Q E h => ?_) (fun cdv A outer s H vs Q E hr h => ?_)
  · obtain ⟨x, b, dx, ns, rfl, _⟩ := h
    rfl
  · obtain ⟨x, b, dx, ns, rfl, hx, hS, q⟩ := h
    refine ⟨_, (pss_cons (ps_fld (pv 0) (pe_callTy c_list (by rfl) T.z_list (by decide +kernel) (pa_cons (pv 1) pa_nil)) rfl)
      (pss_one (ps_fld (pv 0) pe_int rfl))), ?_⟩
    walk_at "z0"
    walk_at "z"
    refine Z.listL hS fun l H1 nl k1 e1 => ?_
    have hx1 := k1.get nin0 hx
    have nxl : x ≠ l := ne_of_none hx nl
    walk_at "z"
    refine ⟨x, _, dx, [], rfl, hx1, T.cl_Tape, T.na_Tape__numbers, by decide, ?_⟩
    walk_at "z"
    refine ⟨x, _, dx, _, rfl, upd_same, T.cl_Tape, T.na_Tape__picks, by show 1 < 1000; decide, ?_⟩
    walk_at "z"
    rw [tf_mk, upd_upd]
    exact q _ l nl ((k1.sub (by simp)).trans (Kp.put (by simp))) ⟨⟨dx, upd_same⟩, (upd_ne nxl.symm).trans e1⟩
def spTPick (K : PySem.W.Frag) (C : Addr) : Sp := fun vs H Q _ => ∃ (x b l : Addr) (ns ws : List Int) (k : Nat), vs = [.ref x, .ref b] ∧ TapeAt C H x l ns k ∧ SqL K H b (ws.map V.int) ∧ WOk ws ∧ ∀ H', Kp [x] H H' → TapeAt C H' x l ns (k + 1) → Q (.int (nAt ws ((ns.getD k 0) % ws.sum))) H'
theorem ok_Tape_pick {P : Program} {w : World} {K : PySem.W.Frag} {mg : Str → Option Value} {base : Heap} (T : T K mg) : FnOk P w K mg base CX0 2 T.a_Tape_pick T.fd_Tape_pick ["self", "weights"] (spTPick K T.C_Tape) := by
  refine T.F_Tape_pick.ok sc_Tape_pick (fun vs H Q E h => ?_) (fun cdv A outer s H vs Q E hr h => ?_)
  · obtain ⟨x, b, l, ns, ws, k, rfl, _⟩ := h
    rfl
  · obtain ⟨x, b, l, ns, ws, k, rfl, ⟨⟨dx, hx⟩, hl⟩, hS, hW, q⟩ := h
    have nlx : l ≠ x := ne_of hl hx (by intro e; cases e)
    refine ⟨_, (pss_cons (ps_set (i := 2) sc_Tape_pick.nd rfl (by first | exact Or.inl rfl | exact Or.inr rfl) pe_int)
      (Z.pss_consJ (ps_if (pt_cmpR op_lt (pe_fld (pv 0) rfl) (pe_callB c_len (by rfl) T.z_len (by decide +kernel) (pa_cons (pe_fld (pv 0) rfl) pa_nil)) (nomark _)) (pss_one (ps_set (i := 2) sc_Tape_pick.nd rfl (by first | exact Or.inl rfl | exact Or.inr rfl) (pe_ix ix_list (pe_fld (pv 0) rfl) (pe_fld (pv 0) rfl) (fun _ _ => rfl)))) pss_nil)
      (pss_cons (ps_set (i := 3) sc_Tape_pick.nd rfl (by first | exact Or.inl rfl | exact Or.inr rfl) (pe_call (ok_number_at T) (hr.mono (by decide)) (by rfl) T.g_number_at T.F_number_at.kp T.b_number_at .nil pass0 (pa_cons (pv 1) (pa_cons (pe_op op_mod (pv 2) (pe_callB (cr_sum rfl) (by rfl) T.z_sum (by decide +kernel) (pa_cons (pv 1) pa_nil))) pa_nil))))
      (pss_cons (ps_fldaug (pv 0) pe_int in_add)
      (pss_one (ps_ret (pv 3))))))), ?_⟩
    walk_at "z0"
    walk_at "z"
    refine Z.seqJ (fun σ' H' => σ' = [some (.ref x), some (.ref b), some (.int (ns.getD k 0)), none] ∧ H' = H) ?_ ?_
    · rintro σ' H' ⟨rfl, rfl⟩
      walk_at "z"
      refine Z.sumL hS ?_
      walk_at "z"
      refine Z.iC hW.sum ?_
      have hs := hW.sum
      refine ⟨b, ws, _, rfl, hS, Int.emod_nonneg _ (by omega), hW.pos, Int.emod_lt_of_pos _ hs, ?_⟩
      walk_at "z"
      refine ⟨x, _, dx, _, _, rfl, hx, T.cl_Tape, T.na_Tape__picks, tf_p l k, ?_⟩
      walk_at "z"
      refine ⟨dx, _, hx, by show 2 < 1000; decide, ?_⟩
      walk_at "z"
      rw [tf_put]
      exact q _ (Kp.put (by simp)) ⟨⟨dx, upd_same⟩, (upd_ne nlx).trans hl⟩
    · intro N jn
      walk_at "z"
      refine ⟨x, _, dx, _, _, rfl, hx, T.cl_Tape, T.na_Tape__picks, tf_p l k, ?_⟩
      walk_at "z"
      refine ⟨x, _, dx, _, _, rfl, hx, T.cl_Tape, T.na_Tape__numbers, tf_n l k, ?_⟩
      walk_at "z"
      refine Z.lenL (lstL hl) ?_
      walk_at "z"
      rw [List.length_map]
      refine Z.ite (fun h1 => ?_) (fun h1 => ?_)
      · walk_at "z"
        refine ⟨x, _, dx, _, _, rfl, hx, T.cl_Tape, T.na_Tape__numbers, tf_n l k, ?_⟩
        walk_at "z"
        refine ⟨x, _, dx, _, _, rfl, hx, T.cl_Tape, T.na_Tape__picks, tf_p l k, ?_⟩
        have hk : k < ns.length := by omega
        refine Z.ixL (lstL hl) (atM (List.getElem?_eq_getElem hk)) ?_
        walk_at "z"
        refine jn _ _ ⟨?_, rfl⟩
        rw [List.getD_eq_getElem?_getD, List.getElem?_eq_getElem hk]; rfl
      · walk_at "z"
        refine jn _ _ ⟨?_, rfl⟩
        rw [List.getD_eq_getElem?_getD, List.getElem?_eq_none (by omega)]; rfl
def spTUsed (C : Addr) : Sp := fun vs H Q _ => ∃ (x l : Addr) (ns : List Int) (k : Nat), vs = [.ref x] ∧ TapeAt C H x l ns k ∧ Q (.int (k : Int)) H
theorem ok_Tape_used {P : Program} {w : World} {K : PySem.W.Frag} {mg : Str → Option Value} {base : Heap} (T : T K mg) : FnOk P w K mg base CX0 1 T.a_Tape_used T.fd_Tape_used ["self"] (spTUsed T.C_Tape) := by
  refine T.F_Tape_used.ok sc_Tape_used (fun vs H Q E h => ?_) (fun cdv A outer s H vs Q E hr h => ?_)
  · obtain ⟨x, l, ns, k, rfl, _⟩ := h
    rfl
  · obtain ⟨x, l, ns, k, rfl, ⟨⟨dx, hx⟩, hl⟩, q⟩ := h
    refine ⟨_, (pss_one (ps_ret (pe_fld (pv 0) rfl))), ?_⟩
    walk_at "z0"
    walk_at "z"
    refine ⟨x, _, dx, _, _, rfl, hx, T.cl_Tape, T.na_Tape__picks, tf_p l k, ?_⟩
    walk_at "z"
    exact q
/-! ### the mixer -/
def mf (z : Int) : List (Str × V) := [("_state", .int z)]
theorem mf_s (z : Int) : (mf z).lookup ("_state" : Str) = some (.int z) := rfl
theorem mf_pick (z : Int) : (mf z).lookup ("pick" : Str) = none := rfl
theorem mf_put (z y : Int) : putF "_state" (.int y) (mf z) = mf y := by
  show (if ("_state" : Str) = "_state" then _ else _) = _
  rw [if_pos rfl]; rfl
def MixAt (C : Addr) (H : Hp) (x : Addr) (z : Int) : Prop := (∃ dx, H x = some (.ins C dx (mf z))) ∧ 0 ≤ z ∧ z < 4294967296
def spMInit (C : Addr) : Sp := fun vs H Q _ => ∃ (x dx : Addr) (z : Int), vs = [.ref x, .int z] ∧ H x = some (.ins C dx []) ∧ ∀ H', Kp [x] H H' → MixAt C H' x (z % 2147483646 + 1) → Q .non H'
theorem ok_Mixer_init {P : Program} {w : World} {K : PySem.W.Frag} {mg : Str → Option Value} {base : Heap} (T : T K mg) : FnOk P w K mg base CX0 1 T.a_Mixer_init T.fd_Mixer_init ["self", "seed"] (spMInit T.C_Mixer) := by
  refine T.F_Mixer_init.ok sc_Mixer_init (fun vs H Q E h => ?_) (fun cdv A outer s H vs Q E hr h => ?_)
  · obtain ⟨x, dx, z, rfl, _⟩ := h
    rfl
  · obtain ⟨x, dx, z, rfl, hx, q⟩ := h
    refine ⟨_, (pss_one (ps_fld (pv 0) (pe_op op_add (pe_op op_mod (pv 1) (pe_glob (by rfl) T.g_SEEDS T.r_SEEDS)) pe_int) rfl)), ?_⟩
    walk_at "z0"
    walk_at "z"
    refine Z.iC (by decide) ?_
    walk_at "z"
    refine ⟨x, _, dx, [], rfl, hx, T.cl_Mixer, T.na_Mixer__state, by decide, ?_⟩
    walk_at "z"
    exact q _ (Kp.put (by simp)) ⟨⟨dx, upd_same⟩, by omega, by omega⟩
def hi (z : Int) : Int := z * 48271 % 2147483647
def spMPick (K : PySem.W.Frag) (C : Addr) : Sp := fun vs H Q _ => ∃ (x b : Addr) (ws : List Int) (z : Int), vs = [.ref x, .ref b] ∧ MixAt C H x z ∧ SqL K H b (ws.map V.int) ∧ WOk ws ∧ ∀ H', Kp [x] H H' → MixAt C H' x (hi (hi z)) → Q (.int (nAt ws ((hi z * 2147483647 + hi (hi z)) % ws.sum))) H'
theorem ok_Mixer_pick {P : Program} {w : World} {K : PySem.W.Frag} {mg : Str → Option Value} {base : Heap} (T : T K mg) : FnOk P w K mg base CX0 2 T.a_Mixer_pick T.fd_Mixer_pick ["self", "weights"] (spMPick K T.C_Mixer) := by
  refine T.F_Mixer_pick.ok sc_Mixer_pick (fun vs H Q E h => ?_) (fun cdv A outer s H vs Q E hr h => ?_)
  · obtain ⟨x, b, ws, z, rfl, _⟩ := h
    rfl
  · obtain ⟨x, b, ws, z, rfl, ⟨⟨dx, hx⟩, h0, h1⟩, hS, hW, q⟩ := h
    refine ⟨_, (pss_cons (ps_set (i := 2) sc_Mixer_pick.nd rfl (by first | exact Or.inl rfl | exact Or.inr rfl) (pe_op op_mod (pe_op op_mul (pe_fld (pv 0) rfl) (pe_glob (by rfl) T.g_FACTOR T.r_FACTOR)) (pe_glob (by rfl) T.g_PRIME T.r_PRIME)))
      (pss_cons (ps_set (i := 3) sc_Mixer_pick.nd rfl (by first | exact Or.inl rfl | exact Or.inr rfl) (pe_op op_mod (pe_op op_mul (pv 2) (pe_glob (by rfl) T.g_FACTOR T.r_FACTOR)) (pe_glob (by rfl) T.g_PRIME T.r_PRIME)))
      (pss_cons (ps_fld (pv 0) (pv 3) rfl)
      (pss_one (ps_ret (pe_call (ok_number_at T) (hr.mono (by decide)) (by rfl) T.g_number_at T.F_number_at.kp T.b_number_at .nil pass0 (pa_cons (pv 1) (pa_cons (pe_op op_mod (pe_op op_add (pe_op op_mul (pv 2) (pe_glob (by rfl) T.g_PRIME T.r_PRIME)) (pv 3)) (pe_callB (cr_sum rfl) (by rfl) T.z_sum (by decide +kernel) (pa_cons (pv 1) pa_nil))) pa_nil)))))))), ?_⟩
    walk_at "z0"
    walk_at "z"
    refine ⟨x, _, dx, _, _, rfl, hx, T.cl_Mixer, T.na_Mixer__state, mf_s z, ?_⟩
    walk_at "z"
    refine Z.iC (.inr (by decide)) ?_
    walk_at "z"
    refine Z.iC (by decide) ?_
    walk_at "z"
    refine Z.iC (.inr (by decide)) ?_
    walk_at "z"
    refine Z.iC (by decide) ?_
    walk_at "z"
    refine ⟨x, _, dx, _, rfl, hx, T.cl_Mixer, T.na_Mixer__state, by show 1 < 1000; decide, ?_⟩
    rw [mf_put]
    have k1 : Kp [x] H (upd H x (.ins T.C_Mixer dx (mf (z * 48271 % 2147483647 * 48271 % 2147483647)))) := Kp.put (by simp)
    have hb : SqL K (upd H x (.ins T.C_Mixer dx (mf (z * 48271 % 2147483647 * 48271 % 2147483647)))) b (ws.map V.int) := by
      rcases hS with (h | ⟨o, h⟩) | h
      · exact .inl (.inl ((upd_ne (ne_of h hx (by intro e; cases e))).trans h))
      · exact .inl (.inr ⟨o, (upd_ne (ne_of h hx (by intro e; cases e))).trans h⟩)
      · exact .inr h
    walk_at "z"
    refine Z.iC (.inr (by decide)) ?_
    walk_at "z"
    refine Z.sumL hb ?_
    walk_at "z"
    refine Z.iC hW.sum ?_
    have hs := hW.sum
    refine ⟨b, ws, _, rfl, hb, Int.emod_nonneg _ (by omega), hW.pos, Int.emod_lt_of_pos _ hs, ?_⟩
    exact q _ k1 ⟨⟨dx, upd_same⟩, by unfold hi; omega, by unfold hi; omega⟩

/-! ### the law's own parts -/
theorem TapeAt.kp {M : List Addr} {C : Addr} {H H' : Hp} {x l : Addr} {ns : List Int} {k : Nat} (t : TapeAt C H x l ns k) (e : Kp M H H') (n1 : x ∉ M) (n2 : l ∉ M) : TapeAt C H' x l ns k := by
  obtain ⟨⟨dx, hx⟩, hl⟩ := t
  exact ⟨⟨dx, e _ _ n1 hx⟩, e _ _ n2 hl⟩
theorem MixAt.kp {M : List Addr} {C : Addr} {H H' : Hp} {x : Addr} {z : Int} (t : MixAt C H x z) (e : Kp M H H') (n1 : x ∉ M) : MixAt C H' x z := by
  obtain ⟨⟨dx, hx⟩, h⟩ := t
  exact ⟨⟨dx, e _ _ n1 hx⟩, h⟩
theorem W5.ok {ws : List Int} (h : W5 ws) : WOk ws := ⟨h.1, h.2.2.1⟩
def spTape (K : PySem.W.Frag) : Sp := fun vs H Q _ => ∃ (a p : Addr), vs = [.ref a] ∧ DeckOk H a p ∧ ∀ H', Kp [a] H H' → DeckOk H' a p → Q (.bl true) H'
theorem ok__law_tape {P : Program} {w : World} {K : PySem.W.Frag} {mg : Str → Option Value} {base : Heap} (T : T K mg) : FnOk P w K mg base CX0 3 T.a__law_tape T.fd__law_tape ["deck"] (spTape K) := by
  refine T.F__law_tape.ok sc__law_tape (fun vs H Q E h => ?_) (fun cdv A outer s H vs Q E hr h => ?_)
  · obtain ⟨a, p, rfl, _⟩ := h
    rfl
  · obtain ⟨a, p, rfl, hd, q⟩ := h
    refine ⟨_, (pss_cons (ps_setLc (i := 1) (own := [("k", 4)]) (g := gName 4) rfl sc__law_tape.nd rfl rfl (sw_true rfl rfl rfl (by decide +kernel)) (pi_range1 (by rfl) T.z_range (pa_cons (pe_call (ok__law_draw T) (hr.mono (by decide)) (by rfl) T.g__law_draw T.F__law_draw.kp T.b__law_draw .nil pass0 (pa_cons (pv 0) (pa_cons pe_int pa_nil))) pa_nil)) (blkOk_by (own := [("k", 4)]) (N := N__law_tape) (sc := defScope s__law_tape) (by decide +kernel)) (fun _ _ _ _ _ => (pg_name (i := 4) sc__law_tape.nd rfl (by first | exact Or.inl rfl | exact Or.inr rfl))) (fun _ _ _ _ _ => pts_nil) (fun _ _ _ _ _ => (pe_call (ok__law_large T) (hr.mono (by decide)) (by rfl) T.g__law_large T.F__law_large.kp T.b__law_large .nil pass0 (pa_cons (pv 0) pa_nil))))
      (pss_cons (ps_set (i := 2) sc__law_tape.nd rfl (by first | exact Or.inl rfl | exact Or.inr rfl) (pe_callTy c_list (by rfl) T.z_list (by decide +kernel) (pa_cons (pv 1) pa_nil)))
      (pss_cons (ps_set (i := 3) sc__law_tape.nd rfl (by first | exact Or.inl rfl | exact Or.inr rfl) (pe_make T.mk_Tape (ok_Tape_init T) (hr.mono (by decide)) (by rfl) T.mg_Tape T.b_Tape_init .nil pass0 (pa_cons (pv 2) pa_nil)))
      (pss_cons (ps_expr (pe_bm PySem.F.plainAttrs_list PySem.F.slot_list_append PySem.F.type_list_append mt_append (pv 2) (pa_cons pe_int pa_nil)))
      (pss_cons (ps_for PassesOwn.never rfl (pi_range1 (by rfl) T.z_range (pa_cons (pe_op op_add (pe_callB c_len (by rfl) T.z_len (by decide +kernel) (pa_cons (pv 1) pa_nil)) pe_int) pa_nil)) (pg_name (i := 4) sc__law_tape.nd rfl (by first | exact Or.inl rfl | exact Or.inr rfl)) (pss_cons (ps_set (i := 5) sc__law_tape.nd rfl (by first | exact Or.inl rfl | exact Or.inr rfl) (pe_call (ok__law_weights T) (hr.mono (by decide)) (by rfl) T.g__law_weights T.F__law_weights.kp T.b__law_weights .nil pass0 (pa_cons (pv 0) (pa_cons pe_int pa_nil))))
      (pss_cons (ps_set (i := 6) sc__law_tape.nd rfl (by first | exact Or.inl rfl | exact Or.inr rfl) (pe_callTy c_list (by rfl) T.z_list (by decide +kernel) (pa_cons (pv 5) pa_nil)))
      (pss_cons (ps_set (i := 7) sc__law_tape.nd rfl (by first | exact Or.inl rfl | exact Or.inr rfl) pe_int)
      (Z.pss_consJ (ps_if (pt_cmpR op_lt (pv 4) (pe_callB c_len (by rfl) T.z_len (by decide +kernel) (pa_cons (pv 1) pa_nil)) (nomark _)) (pss_one (ps_set (i := 7) sc__law_tape.nd rfl (by first | exact Or.inl rfl | exact Or.inr rfl) (pe_ix ix_list (pv 1) (pv 4) (fun _ _ => rfl)))) pss_nil)
      (pss_one (ps_if (PW.pt (pw_or (pt_cmpR op_ne (pe_meth0 (pv 3) T.cl_Tape T.me_Tape_used (ok_Tape_used T) (hr.mono (by decide)) T.b_Tape_used .nil pass0) (pv 4) (nomark _)) (pw_or (pt_cmpR op_ne (pe_meth (pv 3) T.cl_Tape T.me_Tape_pick (ok_Tape_pick T) (hr.mono (by decide)) T.b_Tape_pick .nil pass0 (pa_cons (pv 5) pa_nil)) (pe_call (ok__law_at T) (hr.mono (by decide)) (by rfl) T.g__law_at T.F__law_at.kp T.b__law_at .nil pass0 (pa_cons (pv 6) (pa_cons (pe_op op_mod (pe_callTy c_int (by rfl) T.z_int (by decide +kernel) (pa_cons (pv 7) pa_nil)) (pe_callB (cr_sum rfl) (by rfl) T.z_sum (by decide +kernel) (pa_cons (pv 6) pa_nil))) pa_nil))) (nomark _)) (pw_or1 (pt_cmpR (op_neD hr.units) (pv 5) (pv 6) (nomark _)))))) (pss_one (ps_ret pe_bl)) pss_nil)))))))
      (pss_one (ps_ret (pe_cmpR op_eq (pe_meth0 (pv 3) T.cl_Tape T.me_Tape_used (ok_Tape_used T) (hr.mono (by decide)) T.b_Tape_used .nil pass0) (pe_op op_add (pe_callB c_len (by rfl) T.z_len (by decide +kernel) (pa_cons (pv 1) pa_nil)) pe_int) (nomark _))))))))), ?_⟩
    walk_at "z0"
    walk_at "z"
    refine ⟨a, p, 7, rfl, hd, by decide, by decide, fun H1 n hn0 hn1 k1 d1 => ?_⟩
    walk_at "z"
    refine Z.lcr n.toNat ?_ (by omega) (fun D i H' => ∃ ns : List Int, Kp [a] H H' ∧ DeckOk H' a p ∧ H' D = some (.lst (ns.map V.int)) ∧ ns.length = i) ?_ ?_ ?_
    · omega
    · intro D H2 nD k2 e2
      exact ⟨[], k1.trans (k2.sub (by simp)), d1.kp0 k2, e2, rfl⟩
    · rintro D i H2 nD hi ⟨ns, k2, d2, e2, hl⟩
      obtain ⟨naD, npD⟩ := d1.ne nD
      dsimp only [wipe, List.set]
      walk_at "z"
      refine ⟨rfl, ?_⟩
      walk_at "z"
      refine ⟨a, p, rfl, d2, fun H3 v hv0 k3 d3 => ?_⟩
      have e3 := k3.get (nin1 naD.symm) e2
      refine ⟨_, e3, Z.szl (m := 10) (by rw [List.length_map]; omega), ns ++ [v], ?_, d3.upd naD npD, ?_, ?_⟩
      · exact (k2.trans k3).mut ((k1.none (nin1 naD.symm)) nD) rfl
      · rw [upd_same, List.map_append]; rfl
      · simp [hl]
    · rintro nb H2 nD ⟨ns, k2, d2, e2, hl⟩
      obtain ⟨nab, npb⟩ := d1.ne nD
      walk_at "z"
      refine Z.listL (lstL e2) fun g H3 ng k3 e3 => ?_
      walk_at "z"
      intro x dx nx ndx nex
      refine ⟨x, g, dx, ns, rfl, upd_same, (Kp.made (M := []) nx ndx).seq nin0 (lstL e3), fun H4 l nl k4 t4 => ⟨rfl, ?_⟩⟩
      have nl3 : H3 l = none := none2 nl
      have k34 : Kp [] H3 H4 := (Kp.made nx ndx).then1 k4 nx
      have e4 : H4 g = some (.lst (ns.map V.int)) := k34.get nin0 e3
      walk_at "z"
      refine ⟨Z.tyL e4, ?_⟩
      walk_at "z"
      refine Z.app e4 (Z.szl (m := 10) (by rw [List.length_map]; omega)) ?_
      have ngx : g ≠ x := ne_of_none e3 nx
      have ngl : g ≠ l := ne_of_none e3 nl3
      have k2a : Kp [] H2 (upd H4 g (.lst (ns.map V.int ++ [.int 5]))) := (k3.trans k34).mut ng rfl
      have t5 : TapeAt T.C_Tape (upd H4 g (.lst (ns.map V.int ++ [.int 5]))) x l ns 0 := t4.kp (M := [g]) (Kp.put (by simp)) (nin1 ngx.symm) (nin1 ngl.symm)
      have nx2 : H2 x = none := k3.none nin0 nx
      have nl2 : H2 l = none := k3.none nin0 nl3
      revert k2a t5
      generalize upd H4 g (.lst (ns.map V.int ++ [.int 5])) = H5
      intro k5 t5
      obtain ⟨nax, npx⟩ := d2.ne nx2
      obtain ⟨nal, npl⟩ := d2.ne nl2
      have nbx : nb ≠ x := ne_of_none e2 nx2
      walk_at "z"
      refine Z.lenL (lstL (k5.get nin0 e2)) ?_
      walk_at "z"
      rw [List.length_map]
      refine Z.forr (ns.length + 2) ?_ (by omega) (fun i σ' H' => ∃ y4 y5 y6 y7, σ' = [some (.ref a), some (.ref nb), some (.ref g), some (.ref x), y4, y5, y6, y7] ∧ Kp [a] H2 H' ∧ DeckOk H' a p ∧ TapeAt T.C_Tape H' x l ns i) ?_ ?_ ?_
      · omega
      · exact ⟨_, _, _, _, rfl, k5.sub (by simp), d2.kp0 k5, t5⟩
      · rintro i σ' H6 hi ⟨y4, y5, y6, y7, rfl, k6, d6, t6⟩
        walk_at "z"
        refine ⟨a, p, rfl, d6, fun H7 b ws nb7 k7 d7 e7 hW => ?_⟩
        have t7 := t6.kp k7 (nin1 nax.symm) (nin1 nal.symm)
        walk_at "z"
        refine Z.listL (lstL e7) fun c H8 nc k8 e8 => ?_
        have d8 := d7.kp0 k8
        have t8 := t7.kp k8 nin0 nin0
        have e8b := k8.get nin0 e7
        have k28 : Kp [a] H2 H8 := (k6.trans k7).trans (k8.sub (by simp))
        have e8n := k28.get (nin1 nab.symm) e2
        walk_at "z"
        refine Z.seqJ (fun σ' H' => σ' = [some (.ref a), some (.ref nb), some (.ref g), some (.ref x), some (.int (i : Int)), some (.ref b), some (.ref c), some (.int (ns.getD i 0))] ∧ H' = H8) ?_ ?_
        · rintro σ' H' ⟨rfl, rfl⟩
          obtain ⟨dx8, hx8⟩ := t8.1
          walk_at "z"
          refine ⟨x, dx8, _, rfl, hx8, tf_used l i, ?_⟩
          walk_at "z"
          refine ⟨x, l, ns, i, rfl, t8, ?_⟩
          walk_at "z"
          refine Z.noN rfl ?_
          walk_at "z"
          refine ⟨x, dx8, _, rfl, hx8, tf_pick l i, ?_⟩
          walk_at "z"
          refine ⟨x, b, l, ns, ws, i, rfl, t8, lstL e8b, hW.ok, fun H9 k9 t9 => ?_⟩
          have nbx9 : b ≠ x := ne_of e8b hx8 (by intro e; cases e)
          have ncx9 : c ≠ x := ne_of e8 hx8 (by intro e; cases e)
          have e9b := k9.get (nin1 nbx9) e8b
          have e9c := k9.get (nin1 ncx9) e8
          walk_at "z"
          refine Z.sumL (lstL e9c) ?_
          walk_at "z"
          have hs := hW.ok.sum
          refine Z.iC hs ?_
          walk_at "z"
          refine ⟨c, ws, lstL e9c, by have := hW.2.2.2.2; omega, _, rfl, Int.emod_nonneg _ (by omega), hW.1, Int.emod_lt_of_pos _ hs, ?_⟩
          walk_at "z"
          refine Z.noN rfl ?_
          walk_at "z"
          refine neLL (lstL e9b) (lstL e9c) ?_
          walk_at "z"
          exact ⟨_, _, _, _, rfl, k28.then1 k9 nx2, d8.kp k9 (nin1 nax) (nin1 npx), t9⟩
        · intro N jn
          walk_at "z"
          refine Z.lenL (lstL e8n) ?_
          walk_at "z"
          rw [List.length_map]
          refine Z.ite (fun h1 => ?_) (fun h1 => ?_)
          · walk_at "z"
            have hk : i < ns.length := by omega
            refine Z.ixL (lstL e8n) (atM (List.getElem?_eq_getElem hk)) ?_
            walk_at "z"
            refine jn _ _ ⟨?_, rfl⟩
            rw [List.getD_eq_getElem?_getD, List.getElem?_eq_getElem hk]; rfl
          · walk_at "z"
            refine jn _ _ ⟨?_, rfl⟩
            rw [List.getD_eq_getElem?_getD, List.getElem?_eq_none (by omega)]; rfl
      · rintro σ' H6 ⟨y4, y5, y6, y7, rfl, k6, d6, t6⟩
        obtain ⟨dx6, hx6⟩ := t6.1
        walk_at "z"
        refine ⟨x, dx6, _, rfl, hx6, tf_used l _, ?_⟩
        walk_at "z"
        refine ⟨x, l, ns, _, rfl, t6, ?_⟩
        walk_at "z"
        refine Z.lenL (lstL (k6.get (nin1 nab.symm) e2)) ?_
        walk_at "z"
        rw [List.length_map, decide_eq_true (by omega)]
        exact q _ (k2.trans k6) d6

def big (r : Int) : Int := r * 10 ^ (20 : Int).toNat + (if decide (0 < r) = true then 1 else 0)
theorem big_ge {r : Int} (h : 0 ≤ r) : r ≤ big r ∧ 0 ≤ big r := by
  unfold big
  rw [show (10 : Int) ^ (20 : Int).toNat = 100000000000000000000 by decide]
  split <;> omega
theorem big_sum : ∀ {ws : List Int}, (∀ n ∈ ws, 0 ≤ n) → ws.sum ≤ (ws.map big).sum
  | [], _ => by simp
  | w :: r, h => by
    have h1 := big_ge (h w (by simp))
    have h2 := big_sum (ws := r) fun n hn => h n (by simp [hn])
    rw [List.map_cons, List.sum_cons, List.sum_cons]
    omega
theorem big_ok {ws : List Int} (h : WOk ws) : WOk (ws.map big) := by
  refine ⟨fun n hn => ?_, ?_⟩
  · obtain ⟨m, hm, rfl⟩ := List.mem_map.mp hn
    exact (big_ge (h.pos m hm)).2
  · have := big_sum h.pos
    have := h.sum
    omega
theorem map_take_succ {α β : Type} (f : α → β) {l : List α} {i : Nat} {x : α} (h : l[i]? = some x) : (l.take (i + 1)).map f = (l.take i).map f ++ [f x] := by
  rw [List.take_add_one, h, List.map_append]; rfl
theorem ok__law_mixer {P : Program} {w : World} {K : PySem.W.Frag} {mg : Str → Option Value} {base : Heap} (T : T K mg) : FnOk P w K mg base CX0 3 T.a__law_mixer T.fd__law_mixer ["deck"] (spTape K) := by
  refine T.F__law_mixer.ok sc__law_mixer (fun vs H Q E h => ?_) (fun cdv A outer s H vs Q E hr h => ?_)
  · obtain ⟨a, p, rfl, _⟩ := h
    rfl
  · obtain ⟨a, p, rfl, hd, q⟩ := h
    refine ⟨_, (pss_cons (ps_set (i := 1) sc__law_mixer.nd rfl (by first | exact Or.inl rfl | exact Or.inr rfl) (pe_lst (pa_cons (pe_call (ok__law_large T) (hr.mono (by decide)) (by rfl) T.g__law_large T.F__law_large.kp T.b__law_large .nil pass0 (pa_cons (pv 0) pa_nil)) (pa_cons (pe_call (ok__law_draw T) (hr.mono (by decide)) (by rfl) T.g__law_draw T.F__law_draw.kp T.b__law_draw .nil pass0 (pa_cons (pv 0) (pa_cons pe_int pa_nil))) (pa_cons pe_int (pa_cons pe_int pa_nil))))))
      (pss_cons (ps_set (i := 2) sc__law_mixer.nd rfl (by first | exact Or.inl rfl | exact Or.inr rfl) (pe_ix ix_list (pv 1) (pe_call (ok__law_draw T) (hr.mono (by decide)) (by rfl) T.g__law_draw T.F__law_draw.kp T.b__law_draw .nil pass0 (pa_cons (pv 0) (pa_cons pe_int pa_nil))) (fun _ _ => rfl)))
      (pss_cons (ps_set (i := 3) sc__law_mixer.nd rfl (by first | exact Or.inl rfl | exact Or.inr rfl) (pe_make T.mk_Mixer (ok_Mixer_init T) (hr.mono (by decide)) (by rfl) T.mg_Mixer T.b_Mixer_init .nil pass0 (pa_cons (pv 2) pa_nil)))
      (pss_cons (ps_set (i := 4) sc__law_mixer.nd rfl (by first | exact Or.inl rfl | exact Or.inr rfl) (pe_op op_add (pe_op op_mod (pe_callTy c_int (by rfl) T.z_int (by decide +kernel) (pa_cons (pv 2) pa_nil)) pe_int) pe_int))
      (pss_cons (ps_set (i := 5) sc__law_mixer.nd rfl (by first | exact Or.inl rfl | exact Or.inr rfl) (pe_make T.mk_Mixer (ok_Mixer_init T) (hr.mono (by decide)) (by rfl) T.mg_Mixer T.b_Mixer_init .nil pass0 (pa_cons (pe_op op_add (pv 2) pe_int) pa_nil)))
      (pss_cons (ps_for PassesOwn.never rfl (pi_range1 (by rfl) T.z_range (pa_cons pe_int pa_nil)) (pg_name (i := 6) sc__law_mixer.nd rfl (by first | exact Or.inl rfl | exact Or.inr rfl)) (pss_cons (ps_set (i := 7) sc__law_mixer.nd rfl (by first | exact Or.inl rfl | exact Or.inr rfl) (pe_call (ok__law_weights T) (hr.mono (by decide)) (by rfl) T.g__law_weights T.F__law_weights.kp T.b__law_weights .nil pass0 (pa_cons (pv 0) (pa_cons pe_int pa_nil))))
      (Z.pss_consJ (ps_if (pt_cmpR op_eq (pe_call (ok__law_draw T) (hr.mono (by decide)) (by rfl) T.g__law_draw T.F__law_draw.kp T.b__law_draw .nil pass0 (pa_cons (pv 0) (pa_cons pe_int pa_nil))) pe_int (nomark _)) (pss_one (ps_setLc (i := 7) (own := [("row", 9)]) (g := gName 9) rfl sc__law_mixer.nd rfl rfl (sw_true rfl rfl rfl (by decide +kernel)) (pi_list (pv 7)) (blkOk_by (own := [("row", 9)]) (N := N__law_mixer) (sc := defScope s__law_mixer) (by decide +kernel)) (fun _ _ _ _ _ => (pg_name (i := 9) sc__law_mixer.nd rfl (by first | exact Or.inl rfl | exact Or.inr rfl))) (fun _ _ _ _ _ => pts_nil) (fun _ _ _ _ _ => (pe_op op_add (pe_op op_mul (pv 9) (pe_op op_pow pe_int pe_int)) (pe_callTy c_int (by rfl) T.z_int (by decide +kernel) (pa_cons (pe_cmpR op_gt (pv 9) pe_int (nomark _)) pa_nil)))))) pss_nil)
      (pss_cons (ps_set (i := 8) sc__law_mixer.nd rfl (by first | exact Or.inl rfl | exact Or.inr rfl) (pe_op op_mod (pe_op op_mul (pv 4) pe_int) pe_int))
      (pss_cons (ps_set (i := 4) sc__law_mixer.nd rfl (by first | exact Or.inl rfl | exact Or.inr rfl) (pe_op op_mod (pe_op op_mul (pv 8) pe_int) pe_int))
      (pss_cons (ps_if (pt_cmpR op_ne (pe_meth (pv 3) T.cl_Mixer T.me_Mixer_pick (ok_Mixer_pick T) (hr.mono (by decide)) T.b_Mixer_pick .nil pass0 (pa_cons (pe_callTy c_list (by rfl) T.z_list (by decide +kernel) (pa_cons (pv 7) pa_nil)) pa_nil)) (pe_call (ok__law_at T) (hr.mono (by decide)) (by rfl) T.g__law_at T.F__law_at.kp T.b__law_at .nil pass0 (pa_cons (pv 7) (pa_cons (pe_op op_mod (pe_callTy c_int (by rfl) T.z_int (by decide +kernel) (pa_cons (pe_op op_add (pe_op op_mul (pv 8) pe_int) (pv 4)) pa_nil)) (pe_callB (cr_sum rfl) (by rfl) T.z_sum (by decide +kernel) (pa_cons (pv 7) pa_nil))) pa_nil))) (nomark _)) (pss_one (ps_ret pe_bl)) pss_nil)
      (pss_one (ps_expr (pe_meth (pv 5) T.cl_Mixer T.me_Mixer_pick (ok_Mixer_pick T) (hr.mono (by decide)) T.b_Mixer_pick .nil pass0 (pa_cons (pv 7) pa_nil))))))))))
      (pss_one (ps_ret pe_bl)))))))), ?_⟩
    walk_at "z0"
    walk_at "z"
    refine ⟨a, p, rfl, hd, fun H1 s1 hs1 k1 d1 => ?_⟩
    walk_at "z"
    refine ⟨a, p, 3, rfl, d1, by decide, by decide, fun H2 s2 hs2 _ k2 d2 => ?_⟩
    walk_at "z"
    refine ⟨Z.sz (m := 4) (by simp), Z.mk fun g H3 ng k3 e3 => ?_⟩
    have d3 := d2.kp0 k3
    obtain ⟨nag, npg⟩ := d2.ne ng
    walk_at "z"
    refine ⟨a, p, 4, rfl, d3, by decide, by decide, fun H4 j hj0 hj1 k4 d4 => ?_⟩
    have e4 := k4.get (nin1 nag.symm) e3
    obtain ⟨z, hz⟩ : ∃ z : Int, atI [V.int s1, V.int s2, V.int 2147483646, V.int 2147483645] j = some (.int z) := by
      have hj : j = 0 ∨ j = 1 ∨ j = 2 ∨ j = 3 := by omega
      rcases hj with rfl | rfl | rfl | rfl
      · exact ⟨_, rfl⟩
      · exact ⟨_, rfl⟩
      · exact ⟨_, rfl⟩
      · exact ⟨_, rfl⟩
    refine Z.ixL (lstL e4) hz ?_
    walk_at "z"
    intro x dx nx ndx nex
    refine ⟨x, dx, z, rfl, upd_same, fun H5 k5 m5 => ⟨rfl, ?_⟩⟩
    have k45 : Kp [] H4 H5 := (Kp.made nx ndx).then1 k5 nx
    walk_at "z"
    refine Z.iC (by decide) ?_
    walk_at "z"
    intro y dy ny ndy ney
    refine ⟨y, dy, _, rfl, upd_same, fun H6 k6 m6 => ⟨rfl, ?_⟩⟩
    have k56 : Kp [] H5 H6 := (Kp.made ny ndy).then1 k6 ny
    have d6 : DeckOk H6 a p := (d4.kp0 k45).kp0 k56
    obtain ⟨⟨dx5, hx5⟩, _⟩ := id m5
    have nxy : x ≠ y := ne_of_none hx5 ny
    have m56 := m5.kp k56 nin0
    have kk : Kp [a] H H6 := (k1.trans k2).trans ((k3.sub (by simp)).trans (k4.trans ((k45.trans k56).sub (by simp))))
    have nx0 : H x = none := ((k1.trans k2).trans ((k3.sub (by simp)).trans k4)).none (nin1 (d4.ne nx).1.symm) nx
    have ny0 : H y = none := ((k1.trans k2).trans ((k3.sub (by simp)).trans (k4.trans (k45.sub (by simp))))).none (nin1 ((d4.kp0 k45).ne ny).1.symm) ny
    obtain ⟨nax, npx⟩ := d4.ne nx
    obtain ⟨nay, npy⟩ := (d4.kp0 k45).ne ny
    walk_at "z"
    refine Z.forr 4 (by rfl) (by decide) (fun i σ' H' => ∃ w wo y7 y8 y9, ∃ yy, σ' = [some (.ref a), some (.ref g), some (.int z), some (.ref x), some (.int w), some (.ref y), yy, y7, y8, y9] ∧ Kp [a] H H' ∧ DeckOk H' a p ∧ MixAt T.C_Mixer H' x w ∧ MixAt T.C_Mixer H' y wo) ?_ ?_ ?_
    · exact ⟨_, _, _, _, _, _, rfl, kk, d6, m56, m6⟩
    · rintro i σ' H7 hi ⟨w, wo, y7, y8, y9, yy, rfl, k7, d7, m7, mo7⟩
      walk_at "z"
      refine ⟨a, p, rfl, d7, fun H8 b ws nb k8 d8 e8 hW => ?_⟩
      have m8 := m7.kp k8 (nin1 nax.symm)
      have mo8 := mo7.kp k8 (nin1 nay.symm)
      walk_at "z"
      refine Z.seqJ (fun σ' H' => ∃ (b : Addr) (ws : List Int), σ' = [some (.ref a), some (.ref g), some (.int z), some (.ref x), some (.int w), some (.ref y), some (.int (i : Int)), some (.ref b), y8, y9] ∧ Kp [a] H H' ∧ DeckOk H' a p ∧ MixAt T.C_Mixer H' x w ∧ MixAt T.C_Mixer H' y wo ∧ H' b = some (.lst (ws.map V.int)) ∧ WOk ws ∧ ws.length ≤ 5) ?_ ?_
      · rintro σ' H' ⟨b, ws, rfl, k9, d9, m9, mo9, e9, hW, hl⟩
        walk_at "z"
        refine Z.iC (.inr (by decide)) ?_
        walk_at "z"
        refine Z.iC (by decide) ?_
        walk_at "z"
        refine Z.iC (.inr (by decide)) ?_
        walk_at "z"
        refine Z.iC (by decide) ?_
        walk_at "z"
        obtain ⟨dx9, hx9⟩ := m9.1
        refine ⟨x, dx9, _, rfl, hx9, mf_pick w, ?_⟩
        walk_at "z"
        refine Z.listL (lstL e9) fun c H10 nc k10 e10 => ?_
        have m10 := m9.kp k10 nin0
        have mo10 := mo9.kp k10 nin0
        have e10b := k10.get nin0 e9
        obtain ⟨dx10, hx10⟩ := m10.1
        have nbx : b ≠ x := ne_of e10b hx10 (by intro e; cases e)
        walk_at "z"
        refine ⟨x, c, ws, w, rfl, m10, lstL e10, hW, fun H11 k11 m11 => ?_⟩
        have e11 := k11.get (nin1 nbx) e10b
        walk_at "z"
        refine Z.iC (.inr (by decide)) ?_
        walk_at "z"
        refine Z.sumL (lstL e11) ?_
        walk_at "z"
        have hs := hW.sum
        refine Z.iC hs ?_
        refine ⟨b, ws, lstL e11, by omega, _, rfl, Int.emod_nonneg _ (by omega), hW.pos, Int.emod_lt_of_pos _ hs, ?_⟩
        walk_at "z"
        refine Z.noN rfl ?_
        walk_at "z"
        have mo11 := mo10.kp k11 (nin1 nxy.symm)
        obtain ⟨dy11, hy11⟩ := mo11.1
        refine ⟨y, dy11, _, rfl, hy11, mf_pick wo, ?_⟩
        walk_at "z"
        refine ⟨y, b, ws, wo, rfl, mo11, lstL e11, hW, fun H12 k12 mo12 => ?_⟩
        have kx : Kp [a] H H11 := (k9.trans (k10.sub (by simp))).then1 k11 nx0
        walk_at "z"
        exact ⟨_, _, _, _, _, _, rfl, kx.then1 k12 ny0, ((d9.kp0 k10).kp k11 (nin1 nax) (nin1 npx)).kp k12 (nin1 nay) (nin1 npy), m11.kp k12 (nin1 nxy), mo12⟩
      · intro N jn
        walk_at "z"
        refine ⟨a, p, 3, rfl, d8, by decide, by decide, fun H9 v hv0 hv1 k9 d9 => ?_⟩
        have m9 := m8.kp k9 (nin1 nax.symm)
        have mo9 := mo8.kp k9 (nin1 nay.symm)
        obtain ⟨nab, npb⟩ : a ≠ b ∧ p ≠ b := by
          exact d7.ne nb
        have e9 := k9.get (nin1 nab.symm) e8
        walk_at "z"
        refine Z.ite (fun h1 => ?_) (fun h1 => ?_)
        · walk_at "z"
          refine Z.lcl (ws.map V.int) (lstL e9) (fun D i H' => ∃ acc : List Int, Kp [] H9 H' ∧ H' D = some (.lst (acc.map V.int)) ∧ acc = (ws.take i).map big) ?_ ?_ ?_ ?_
          · intro D H10 nD k10 e10
            exact ⟨[], k10, e10, rfl⟩
          · rintro D i H10 nD hi ⟨acc, k10, e10, _⟩
            exact k10.seq nin0 (lstL e9)
          · rintro D i v H10 nD hv ⟨acc, k10, e10, rfl⟩
            obtain ⟨r, hr, rfl⟩ : ∃ r, ws[i]? = some r ∧ v = .int r := by
              rw [List.getElem?_map] at hv
              cases hw : ws[i]? with
              | none => rw [hw] at hv; cases hv
              | some r => rw [hw] at hv; exact ⟨r, rfl, (Option.some.inj hv).symm⟩
            have hrm := List.mem_of_getElem? hr
            have hr0 := hW.1 r hrm
            have hr3 := hW.2.1 r hrm
            dsimp only [wipe, List.set]
            walk_at "z"
            refine ⟨rfl, ?_⟩
            walk_at "z"
            refine Z.iC ⟨by decide, by decide, by decide⟩ ?_
            walk_at "z"
            refine Z.iC (.inl (by omega)) ?_
            walk_at "z"
            refine ⟨_, e10, Z.szl (m := 10) (by rw [List.length_map, List.length_map, List.length_take]; have := hW.2.2.2.2; omega), (ws.take i).map big ++ [big r], ?_, ?_, ?_⟩
            · exact k10.mut nD rfl
            · rw [upd_same, List.map_append]; rfl
            · exact (map_take_succ big hr).symm
          · rintro D H10 nD ⟨acc, k10, e10, rfl⟩
            rw [List.length_map, List.take_length] at e10
            walk_at "z"
            exact jn _ _ ⟨D, ws.map big, rfl, ((k7.trans k8).trans k9).trans (k10.sub (by simp)), d9.kp0 k10, m9.kp k10 nin0, mo9.kp k10 nin0, e10, big_ok hW.ok, by rw [List.length_map]; exact hW.2.2.2.2⟩
        · walk_at "z"
          exact jn _ _ ⟨b, ws, rfl, (k7.trans k8).trans k9, d9, m9, mo9, e9, hW.ok, hW.2.2.2.2⟩
    · rintro σ' H7 ⟨w, wo, y7, y8, y9, yy, rfl, k7, d7, m7, mo7⟩
      walk_at "z"
      exact q _ k7 d7
def spLaw (K : PySem.W.Frag) : Sp := fun vs H Q _ => ∃ (a : Addr) (ns : List Int), vs = [.ref a] ∧ SqL K H a (ns.map V.int) ∧ ns.length ≤ 63 ∧ (∀ z ∈ ns, Builtin.Int.intBits z ≤ 1048576) ∧ ∀ H', Q (.bl true) H'
theorem ok_law {P : Program} {w : World} {K : PySem.W.Frag} {mg : Str → Option Value} {base : Heap} (T : T K mg) : FnOk P w K mg base CX0 4 T.a_law T.fd_law ["script"] (spLaw K) := by
  refine T.F_law.ok sc_law (fun vs H Q E h => ?_) (fun cdv A outer s H vs Q E hr h => ?_)
  · obtain ⟨a, ns, rfl, _⟩ := h
    rfl
  · obtain ⟨c, ns, rfl, hS, hlen, hb, q⟩ := h
    refine ⟨_, (pss_cons (ps_set (i := 1) sc_law.nd rfl (by first | exact Or.inl rfl | exact Or.inr rfl) (pe_call (ok__law_deck T) (hr.mono (by decide)) (by rfl) T.g__law_deck T.F__law_deck.kp T.b__law_deck .nil pass0 (pa_cons (pv 0) pa_nil)))
      (pss_cons (ps_set (i := 2) sc_law.nd rfl (by first | exact Or.inl rfl | exact Or.inr rfl) (pe_call (ok__law_weights T) (hr.mono (by decide)) (by rfl) T.g__law_weights T.F__law_weights.kp T.b__law_weights .nil pass0 (pa_cons (pv 1) (pa_cons pe_int pa_nil))))
      (pss_cons (ps_for PassesOwn.never rfl (pi_range1 (by rfl) T.z_range (pa_cons (pe_callB (cr_sum rfl) (by rfl) T.z_sum (by decide +kernel) (pa_cons (pv 2) pa_nil)) pa_nil)) (pg_name (i := 3) sc_law.nd rfl (by first | exact Or.inl rfl | exact Or.inr rfl)) (pss_cons (ps_set (i := 4) sc_law.nd rfl (by first | exact Or.inl rfl | exact Or.inr rfl) (pe_call (ok_number_at T) (hr.mono (by decide)) (by rfl) T.g_number_at T.F_number_at.kp T.b_number_at .nil pass0 (pa_cons (pv 2) (pa_cons (pv 3) pa_nil))))
      (pss_one (ps_if (PW.pt (pw_or (pt_cmpR op_ne (pv 4) (pe_call (ok__law_at T) (hr.mono (by decide)) (by rfl) T.g__law_at T.F__law_at.kp T.b__law_at .nil pass0 (pa_cons (pv 2) (pa_cons (pv 3) pa_nil))) (nomark _)) (pw_or1 (pt_val (pe_callB call_isi (by rfl) T.z_isinstance (by decide +kernel) (pa_cons (pv 4) (pa_cons (pe_bltn (v := .ty "bool") (by rfl) T.z_bool (by decide +kernel) rfl) pa_nil))))))) (pss_one (ps_ret pe_bl)) pss_nil))))
      (pss_one (ps_ret (pe_and (pe_call (ok__law_tape T) (hr.mono (by decide)) (by rfl) T.g__law_tape T.F__law_tape.kp T.b__law_tape .nil pass0 (pa_cons (pv 1) pa_nil)) (pe_one (pe_call (ok__law_mixer T) (hr.mono (by decide)) (by rfl) T.g__law_mixer T.F__law_mixer.kp T.b__law_mixer .nil pass0 (pa_cons (pv 1) pa_nil))))))))), ?_⟩
    walk_at "z0"
    walk_at "z"
    refine ⟨c, ns, rfl, hS, fun a p H1 na np k1 d1 => ?_⟩
    walk_at "z"
    refine ⟨a, p, rfl, d1, fun H2 b ws nb k2 d2 e2 hW => ?_⟩
    walk_at "z"
    refine Z.sumL (lstL e2) ?_
    have hs := hW.2.2.1
    have hs2 := sum_le hW.2.1
    have hl5 := hW.2.2.2.2
    refine Z.forr ws.sum.toNat ?_ (by omega) (fun i σ' H' => ∃ y3 y4, σ' = [some (.ref c), some (.ref a), some (.ref b), y3, y4] ∧ H' = H2) ?_ ?_ ?_
    · omega
    · exact ⟨_, _, rfl, rfl⟩
    · rintro i σ' H' hi ⟨y3, y4, rfl, rfl⟩
      walk_at "z"
      refine ⟨b, ws, i, rfl, lstL e2, by omega, hW.1, by omega, ?_⟩
      walk_at "z"
      refine ⟨b, ws, lstL e2, by omega, i, rfl, by omega, hW.1, by omega, ?_⟩
      walk_at "z"
      refine Z.noN rfl ?_
      walk_at "z"
      refine Z.isiI (b := false) (by decide +kernel) ?_
      walk_at "z"
      exact ⟨_, _, rfl, rfl⟩
    · rintro σ' H' ⟨y3, y4, rfl, rfl⟩
      walk_at "z"
      refine ⟨a, p, rfl, d2, fun H3 k3 d3 => ?_⟩
      walk_at "z"
      refine ⟨a, p, rfl, d3, fun H4 k4 d4 => ?_⟩
      walk_at "z"
      exact q _
theorem all_mk {l : PySem.W.OpenLaw} {w : World} {K : PySem.W.Frag} {h : Heap} {mg : Str → Option Value} {fa : Addr} (X : K.In h) (G : h.Ns mainGlobals mg) (hfa : mg "law" = some (.ref fa))
    {CTape : Addr}
    {CMixer : Addr}
    {od1 an1 : Option Addr} {sl1 : Array (Option Value)} {oc1 kV1 dc1 pm1 cd1 ct1 : Value} {f1 : Addr}
    {od2 an2 : Option Addr} {sl2 : Array (Option Value)} {oc2 kV2 dc2 pm2 cd2 ct2 : Value} {f2 : Addr}
    {od3 an3 : Option Addr} {sl3 : Array (Option Value)} {oc3 kV3 dc3 pm3 cd3 ct3 : Value} {f3 : Addr}
    {od4 an4 : Option Addr} {sl4 : Array (Option Value)} {oc4 kV4 dc4 pm4 cd4 ct4 : Value} {f4 : Addr}
    {od5 an5 : Option Addr} {sl5 : Array (Option Value)} {oc5 kV5 dc5 pm5 cd5 ct5 : Value} {f5 : Addr}
    {od6 an6 : Option Addr} {sl6 : Array (Option Value)} {oc6 kV6 dc6 pm6 cd6 ct6 : Value} {f6 : Addr}
    {od7 an7 : Option Addr} {sl7 : Array (Option Value)} {oc7 kV7 dc7 pm7 cd7 ct7 : Value} {f7 : Addr}
    {od8 an8 : Option Addr} {sl8 : Array (Option Value)} {oc8 kV8 dc8 pm8 cd8 ct8 : Value} {f8 : Addr}
    {od9 an9 : Option Addr} {sl9 : Array (Option Value)} {oc9 kV9 dc9 pm9 cd9 ct9 : Value} {f9 : Addr}
    {od10 an10 : Option Addr} {sl10 : Array (Option Value)} {oc10 kV10 dc10 pm10 cd10 ct10 : Value} {f10 : Addr}
    {od11 an11 : Option Addr} {sl11 : Array (Option Value)} {oc11 kV11 dc11 pm11 cd11 ct11 : Value} {f11 : Addr}
    {od12 an12 : Option Addr} {sl12 : Array (Option Value)} {oc12 kV12 dc12 pm12 cd12 ct12 : Value} {f12 : Addr}
    {od13 an13 : Option Addr} {sl13 : Array (Option Value)} {oc13 kV13 dc13 pm13 cd13 ct13 : Value} {f13 : Addr}
    {od14 an14 : Option Addr} {sl14 : Array (Option Value)} {oc14 kV14 dc14 pm14 cd14 ct14 : Value} {f14 : Addr}
    {t_SEEDS : Tok}
    {t_FACTOR : Tok}
    {t_PRIME : Tok}
    (a1 : PySem.W.nsIn K mainGlobals "number_at" = some (some (.ref f1)))
    (l1 : K.lookup f1 = some ⟨oc1, od1, .func (PySem.W.fnOf "number_at" "number_at" (defArgs s_number_at) (defBody s_number_at) (defScope s_number_at) .none kV1 dc1 pm1 an1 cd1 ct1), sl1⟩)
    (c1 : PySem.W.codeIn K cd1 "number_at" = true)
    (k1 : PySem.W.keepIn K (.ref f1) = true)
    (a2 : PySem.W.findIn K (.ref CTape) "__init__" = some (some (.ref f2)))
    (i2 : PySem.W.isFn K (.ref f2) = true)
    (l2 : K.lookup f2 = some ⟨oc2, od2, .func (PySem.W.fnOf "__init__" "Tape.__init__" (defArgs s_Tape_init) (defBody s_Tape_init) (defScope s_Tape_init) .none kV2 dc2 pm2 an2 cd2 ct2), sl2⟩)
    (c2 : PySem.W.codeIn K cd2 "Tape.__init__" = true)
    (k2 : PySem.W.keepIn K (.ref f2) = true)
    (a3 : PySem.W.findIn K (.ref CTape) "pick" = some (some (.ref f3)))
    (i3 : PySem.W.isFn K (.ref f3) = true)
    (l3 : K.lookup f3 = some ⟨oc3, od3, .func (PySem.W.fnOf "pick" "Tape.pick" (defArgs s_Tape_pick) (defBody s_Tape_pick) (defScope s_Tape_pick) .none kV3 dc3 pm3 an3 cd3 ct3), sl3⟩)
    (c3 : PySem.W.codeIn K cd3 "Tape.pick" = true)
    (k3 : PySem.W.keepIn K (.ref f3) = true)
    (a4 : PySem.W.findIn K (.ref CTape) "used" = some (some (.ref f4)))
    (i4 : PySem.W.isFn K (.ref f4) = true)
    (l4 : K.lookup f4 = some ⟨oc4, od4, .func (PySem.W.fnOf "used" "Tape.used" (defArgs s_Tape_used) (defBody s_Tape_used) (defScope s_Tape_used) .none kV4 dc4 pm4 an4 cd4 ct4), sl4⟩)
    (c4 : PySem.W.codeIn K cd4 "Tape.used" = true)
    (k4 : PySem.W.keepIn K (.ref f4) = true)
    (a5 : PySem.W.findIn K (.ref CMixer) "__init__" = some (some (.ref f5)))
    (i5 : PySem.W.isFn K (.ref f5) = true)
    (l5 : K.lookup f5 = some ⟨oc5, od5, .func (PySem.W.fnOf "__init__" "Mixer.__init__" (defArgs s_Mixer_init) (defBody s_Mixer_init) (defScope s_Mixer_init) .none kV5 dc5 pm5 an5 cd5 ct5), sl5⟩)
    (c5 : PySem.W.codeIn K cd5 "Mixer.__init__" = true)
    (k5 : PySem.W.keepIn K (.ref f5) = true)
    (a6 : PySem.W.findIn K (.ref CMixer) "pick" = some (some (.ref f6)))
    (i6 : PySem.W.isFn K (.ref f6) = true)
    (l6 : K.lookup f6 = some ⟨oc6, od6, .func (PySem.W.fnOf "pick" "Mixer.pick" (defArgs s_Mixer_pick) (defBody s_Mixer_pick) (defScope s_Mixer_pick) .none kV6 dc6 pm6 an6 cd6 ct6), sl6⟩)
    (c6 : PySem.W.codeIn K cd6 "Mixer.pick" = true)
    (k6 : PySem.W.keepIn K (.ref f6) = true)
    (a7 : PySem.W.nsIn K mainGlobals "_law_deck" = some (some (.ref f7)))
    (l7 : K.lookup f7 = some ⟨oc7, od7, .func (PySem.W.fnOf "_law_deck" "_law_deck" (defArgs s__law_deck) (defBody s__law_deck) (defScope s__law_deck) .none kV7 dc7 pm7 an7 cd7 ct7), sl7⟩)
    (c7 : PySem.W.codeIn K cd7 "_law_deck" = true)
    (k7 : PySem.W.keepIn K (.ref f7) = true)
    (a8 : PySem.W.nsIn K mainGlobals "_law_draw" = some (some (.ref f8)))
    (l8 : K.lookup f8 = some ⟨oc8, od8, .func (PySem.W.fnOf "_law_draw" "_law_draw" (defArgs s__law_draw) (defBody s__law_draw) (defScope s__law_draw) .none kV8 dc8 pm8 an8 cd8 ct8), sl8⟩)
    (c8 : PySem.W.codeIn K cd8 "_law_draw" = true)
    (k8 : PySem.W.keepIn K (.ref f8) = true)
    (a9 : PySem.W.nsIn K mainGlobals "_law_weights" = some (some (.ref f9)))
    (l9 : K.lookup f9 = some ⟨oc9, od9, .func (PySem.W.fnOf "_law_weights" "_law_weights" (defArgs s__law_weights) (defBody s__law_weights) (defScope s__law_weights) .none kV9 dc9 pm9 an9 cd9 ct9), sl9⟩)
    (c9 : PySem.W.codeIn K cd9 "_law_weights" = true)
    (k9 : PySem.W.keepIn K (.ref f9) = true)
    (a10 : PySem.W.nsIn K mainGlobals "_law_at" = some (some (.ref f10)))
    (l10 : K.lookup f10 = some ⟨oc10, od10, .func (PySem.W.fnOf "_law_at" "_law_at" (defArgs s__law_at) (defBody s__law_at) (defScope s__law_at) .none kV10 dc10 pm10 an10 cd10 ct10), sl10⟩)
    (c10 : PySem.W.codeIn K cd10 "_law_at" = true)
    (k10 : PySem.W.keepIn K (.ref f10) = true)
    (a11 : PySem.W.nsIn K mainGlobals "_law_large" = some (some (.ref f11)))
    (l11 : K.lookup f11 = some ⟨oc11, od11, .func (PySem.W.fnOf "_law_large" "_law_large" (defArgs s__law_large) (defBody s__law_large) (defScope s__law_large) .none kV11 dc11 pm11 an11 cd11 ct11), sl11⟩)
    (c11 : PySem.W.codeIn K cd11 "_law_large" = true)
    (k11 : PySem.W.keepIn K (.ref f11) = true)
    (a12 : PySem.W.nsIn K mainGlobals "_law_tape" = some (some (.ref f12)))
    (l12 : K.lookup f12 = some ⟨oc12, od12, .func (PySem.W.fnOf "_law_tape" "_law_tape" (defArgs s__law_tape) (defBody s__law_tape) (defScope s__law_tape) .none kV12 dc12 pm12 an12 cd12 ct12), sl12⟩)
    (c12 : PySem.W.codeIn K cd12 "_law_tape" = true)
    (k12 : PySem.W.keepIn K (.ref f12) = true)
    (a13 : PySem.W.nsIn K mainGlobals "_law_mixer" = some (some (.ref f13)))
    (l13 : K.lookup f13 = some ⟨oc13, od13, .func (PySem.W.fnOf "_law_mixer" "_law_mixer" (defArgs s__law_mixer) (defBody s__law_mixer) (defScope s__law_mixer) .none kV13 dc13 pm13 an13 cd13 ct13), sl13⟩)
    (c13 : PySem.W.codeIn K cd13 "_law_mixer" = true)
    (k13 : PySem.W.keepIn K (.ref f13) = true)
    (a14 : PySem.W.nsIn K mainGlobals "law" = some (some (.ref f14)))
    (l14 : K.lookup f14 = some ⟨oc14, od14, .func (PySem.W.fnOf "law" "law" (defArgs s_law) (defBody s_law) (defScope s_law) .none kV14 dc14 pm14 an14 cd14 ct14), sl14⟩)
    (c14 : PySem.W.codeIn K cd14 "law" = true)
    (k14 : PySem.W.keepIn K (.ref f14) = true)
    (aCTape : PySem.W.nsIn K mainGlobals "Tape" = some (some (.ref CTape)))
    (pgTape : PySem.W.plainGet K CTape Str.empty = true) (hdTape : PySem.W.hasDictIn K CTape = true) (poTape : PySem.W.plainOver K CTape = true) (saTape : PySem.W.findIn K (.ref CTape) "__setattr__" = some (some (.builtin "object.__setattr__"))) (mkTape : PySem.W.makesIn K CTape = true) (kcTape : PySem.W.keepIn K (.ref CTape) = true)
    (nTape__numbers : PySem.W.findIn K (.ref CTape) "_numbers" = some none)
    (nTape__picks : PySem.W.findIn K (.ref CTape) "_picks" = some none)
    (aCMixer : PySem.W.nsIn K mainGlobals "Mixer" = some (some (.ref CMixer)))
    (pgMixer : PySem.W.plainGet K CMixer Str.empty = true) (hdMixer : PySem.W.hasDictIn K CMixer = true) (poMixer : PySem.W.plainOver K CMixer = true) (saMixer : PySem.W.findIn K (.ref CMixer) "__setattr__" = some (some (.builtin "object.__setattr__"))) (mkMixer : PySem.W.makesIn K CMixer = true) (kcMixer : PySem.W.keepIn K (.ref CMixer) = true)
    (nMixer__state : PySem.W.findIn K (.ref CMixer) "_state" = some none)
    (z_bool : PySem.W.nsIn K mainGlobals "bool" = some none)
    (z_int : PySem.W.nsIn K mainGlobals "int" = some none)
    (z_isinstance : PySem.W.nsIn K mainGlobals "isinstance" = some none)
    (z_len : PySem.W.nsIn K mainGlobals "len" = some none)
    (z_list : PySem.W.nsIn K mainGlobals "list" = some none)
    (z_range : PySem.W.nsIn K mainGlobals "range" = some none)
    (z_sum : PySem.W.nsIn K mainGlobals "sum" = some none)
    (v_SEEDS : PySem.W.nsIn K mainGlobals "SEEDS" = some (some (.int (2147483646) t_SEEDS)))
    (v_FACTOR : PySem.W.nsIn K mainGlobals "FACTOR" = some (some (.int (48271) t_FACTOR)))
    (v_PRIME : PySem.W.nsIn K mainGlobals "PRIME" = some (some (.int (2147483647) t_PRIME))) :
    ∃ fd : FuncData, (∀ (s : Shared) (v : Value), BindsTo s fd ⟨[v], []⟩ [("script", v)]) ∧ ∀ base : Heap, K.In base → base.Ns mainGlobals mg → FnOk l.prog w K mg base CX0 4 fa fd ["script"] (spLaw K) := by
  have e : f14 = fa := by
    have e := hfa.symm.trans (PySem.W.mg_of X G a14)
    cases e
    rfl
  subst e
  let t : T K mg := {
    a_number_at := f1, fd_number_at := _, F_number_at := fun_mk (st := s_number_at) l1 c1 k1, b_number_at := (fun_mk (st := s_number_at) l1 c1 k1).binds (ps := ["weights", "place"]) (fun _ _ _ _ _ _ us hl => match us, hl with | [_, _], _ => rfl),
    g_number_at := PySem.W.mg_of X G a1,
    a_Tape_init := f2, fd_Tape_init := _, F_Tape_init := fun_mk (st := s_Tape_init) l2 c2 k2, b_Tape_init := (fun_mk (st := s_Tape_init) l2 c2 k2).binds (ps := ["self", "numbers"]) (fun _ _ _ _ _ _ us hl => match us, hl with | [_, _], _ => rfl),
    a_Tape_pick := f3, fd_Tape_pick := _, F_Tape_pick := fun_mk (st := s_Tape_pick) l3 c3 k3, b_Tape_pick := (fun_mk (st := s_Tape_pick) l3 c3 k3).binds (ps := ["self", "weights"]) (fun _ _ _ _ _ _ us hl => match us, hl with | [_, _], _ => rfl),
    a_Tape_used := f4, fd_Tape_used := _, F_Tape_used := fun_mk (st := s_Tape_used) l4 c4 k4, b_Tape_used := (fun_mk (st := s_Tape_used) l4 c4 k4).binds (ps := ["self"]) (fun _ _ _ _ _ _ us hl => match us, hl with | [_], _ => rfl),
    a_Mixer_init := f5, fd_Mixer_init := _, F_Mixer_init := fun_mk (st := s_Mixer_init) l5 c5 k5, b_Mixer_init := (fun_mk (st := s_Mixer_init) l5 c5 k5).binds (ps := ["self", "seed"]) (fun _ _ _ _ _ _ us hl => match us, hl with | [_, _], _ => rfl),
    a_Mixer_pick := f6, fd_Mixer_pick := _, F_Mixer_pick := fun_mk (st := s_Mixer_pick) l6 c6 k6, b_Mixer_pick := (fun_mk (st := s_Mixer_pick) l6 c6 k6).binds (ps := ["self", "weights"]) (fun _ _ _ _ _ _ us hl => match us, hl with | [_, _], _ => rfl),
    a__law_deck := f7, fd__law_deck := _, F__law_deck := fun_mk (st := s__law_deck) l7 c7 k7, b__law_deck := (fun_mk (st := s__law_deck) l7 c7 k7).binds (ps := ["script"]) (fun _ _ _ _ _ _ us hl => match us, hl with | [_], _ => rfl),
    g__law_deck := PySem.W.mg_of X G a7,
    a__law_draw := f8, fd__law_draw := _, F__law_draw := fun_mk (st := s__law_draw) l8 c8 k8, b__law_draw := (fun_mk (st := s__law_draw) l8 c8 k8).binds (ps := ["deck", "most"]) (fun _ _ _ _ _ _ us hl => match us, hl with | [_, _], _ => rfl),
    g__law_draw := PySem.W.mg_of X G a8,
    a__law_weights := f9, fd__law_weights := _, F__law_weights := fun_mk (st := s__law_weights) l9 c9 k9, b__law_weights := (fun_mk (st := s__law_weights) l9 c9 k9).binds (ps := ["deck", "most"]) (fun _ _ _ _ _ _ us hl => match us, hl with | [_, _], _ => rfl),
    g__law_weights := PySem.W.mg_of X G a9,
    a__law_at := f10, fd__law_at := _, F__law_at := fun_mk (st := s__law_at) l10 c10 k10, b__law_at := (fun_mk (st := s__law_at) l10 c10 k10).binds (ps := ["weights", "place"]) (fun _ _ _ _ _ _ us hl => match us, hl with | [_, _], _ => rfl),
    g__law_at := PySem.W.mg_of X G a10,
    a__law_large := f11, fd__law_large := _, F__law_large := fun_mk (st := s__law_large) l11 c11 k11, b__law_large := (fun_mk (st := s__law_large) l11 c11 k11).binds (ps := ["deck"]) (fun _ _ _ _ _ _ us hl => match us, hl with | [_], _ => rfl),
    g__law_large := PySem.W.mg_of X G a11,
    a__law_tape := f12, fd__law_tape := _, F__law_tape := fun_mk (st := s__law_tape) l12 c12 k12, b__law_tape := (fun_mk (st := s__law_tape) l12 c12 k12).binds (ps := ["deck"]) (fun _ _ _ _ _ _ us hl => match us, hl with | [_], _ => rfl),
    g__law_tape := PySem.W.mg_of X G a12,
    a__law_mixer := f13, fd__law_mixer := _, F__law_mixer := fun_mk (st := s__law_mixer) l13 c13 k13, b__law_mixer := (fun_mk (st := s__law_mixer) l13 c13 k13).binds (ps := ["deck"]) (fun _ _ _ _ _ _ us hl => match us, hl with | [_], _ => rfl),
    g__law_mixer := PySem.W.mg_of X G a13,
    a_law := f14, fd_law := _, F_law := fun_mk (st := s_law) l14 c14 k14, b_law := (fun_mk (st := s_law) l14 c14 k14).binds (ps := ["script"]) (fun _ _ _ _ _ _ us hl => match us, hl with | [_], _ => rfl),
    g_law := PySem.W.mg_of X G a14,
    C_Tape := CTape, cl_Tape := ⟨pgTape, hdTape, poTape, saTape⟩, mg_Tape := PySem.W.mg_of X G aCTape,
    mk_Tape := ⟨mkTape, a2, i2, kcTape⟩,
    na_Tape__numbers := nTape__numbers,
    na_Tape__picks := nTape__picks,
    me_Tape_pick := ⟨a3, i3, k3⟩,
    me_Tape_used := ⟨a4, i4, k4⟩,
    C_Mixer := CMixer, cl_Mixer := ⟨pgMixer, hdMixer, poMixer, saMixer⟩, mg_Mixer := PySem.W.mg_of X G aCMixer,
    mk_Mixer := ⟨mkMixer, a5, i5, kcMixer⟩,
    na_Mixer__state := nMixer__state,
    me_Mixer_pick := ⟨a6, i6, k6⟩,
    z_bool := PySem.W.mg_none_of X G z_bool,
    z_int := PySem.W.mg_none_of X G z_int,
    z_isinstance := PySem.W.mg_none_of X G z_isinstance,
    z_len := PySem.W.mg_none_of X G z_len,
    z_list := PySem.W.mg_none_of X G z_list,
    z_range := PySem.W.mg_none_of X G z_range,
    z_sum := PySem.W.mg_none_of X G z_sum,
    v_SEEDS := _, g_SEEDS := PySem.W.mg_of X G v_SEEDS, r_SEEDS := ⟨_, rfl⟩,
    v_FACTOR := _, g_FACTOR := PySem.W.mg_of X G v_FACTOR, r_FACTOR := ⟨_, rfl⟩,
    v_PRIME := _, g_PRIME := PySem.W.mg_of X G v_PRIME, r_PRIME := ⟨_, rfl⟩ }
  exact ⟨t.fd_law, fun s v => .of_eq rfl, fun base _ _ => ok_law t⟩


end K09
open PySem PySem.W PyProof.Rows in
set_option maxRecDepth 100000 in
set_option maxHeartbeats 0 in
theorem PySem.Challenge.cw_samphire_k09_picks_of_tapes_and_mixers_holds : PySem.Challenge.rw_samphire_k09_picks_of_tapes_and_mixers.Holds := by
  w_on; o_law; k_head; (case hw => w_witness2)
  k_fill
  refine L2.walk_ofB (l := PySem.Challenge.rw_samphire_k09_picks_of_tapes_and_mixers) (n := 63) (k := 4) (x := "script") (CX := fun w => L2.CX0) (sp := fun w => K09.spLaw _) rfl (by decide) rfl ⟨rfl, by decide, by decide⟩ (fun w h Y => PySem.W.kIn_of Y) ?F (fun _ H a ns hl hb _ hS => ⟨a, ns, rfl, hS, hl, hb, fun _ => rfl⟩) (fun _ _ _ _ _ h => h)
  case F =>
    intro w mg fa h KX G hmg
    refine' K09.all_mk KX G hmg ?a1 ?l1 ?c1 ?k1 ?a2 ?i2 ?l2 ?c2 ?k2 ?a3 ?i3 ?l3 ?c3 ?k3 ?a4 ?i4 ?l4 ?c4 ?k4 ?a5 ?i5 ?l5 ?c5 ?k5 ?a6 ?i6 ?l6 ?c6 ?k6 ?a7 ?l7 ?c7 ?k7 ?a8 ?l8 ?c8 ?k8 ?a9 ?l9 ?c9 ?k9 ?a10 ?l10 ?c10 ?k10 ?a11 ?l11 ?c11 ?k11 ?a12 ?l12 ?c12 ?k12 ?a13 ?l13 ?c13 ?k13 ?a14 ?l14 ?c14 ?k14 ?aCTape ?pgTape ?hdTape ?poTape ?saTape ?mkTape ?kcTape ?nTape__numbers ?nTape__picks ?aCMixer ?pgMixer ?hdMixer ?poMixer ?saMixer ?mkMixer ?kcMixer ?nMixer__state ?z_bool ?z_int ?z_isinstance ?z_len ?z_list ?z_range ?z_sum ?v_SEEDS ?v_FACTOR ?v_PRIME
    (case aCTape => k_is)
    (case aCMixer => k_is)
    (case a1 => k_is)
    (case l1 => k_is)
    (case c1 => k_is)
    (case k1 => k_is)
    (case a2 => k_is)
    (case i2 => k_is)
    (case l2 => k_is)
    (case c2 => k_is)
    (case k2 => k_is)
    (case a3 => k_is)
    (case i3 => k_is)
    (case l3 => k_is)
    (case c3 => k_is)
    (case k3 => k_is)
    (case a4 => k_is)
    (case i4 => k_is)
    (case l4 => k_is)
    (case c4 => k_is)
    (case k4 => k_is)
    (case a5 => k_is)
    (case i5 => k_is)
    (case l5 => k_is)
    (case c5 => k_is)
    (case k5 => k_is)
    (case a6 => k_is)
    (case i6 => k_is)
    (case l6 => k_is)
    (case c6 => k_is)
    (case k6 => k_is)
    (case a7 => k_is)
    (case l7 => k_is)
    (case c7 => k_is)
    (case k7 => k_is)
    (case a8 => k_is)
    (case l8 => k_is)
    (case c8 => k_is)
    (case k8 => k_is)
    (case a9 => k_is)
    (case l9 => k_is)
    (case c9 => k_is)
    (case k9 => k_is)
    (case a10 => k_is)
    (case l10 => k_is)
    (case c10 => k_is)
    (case k10 => k_is)
    (case a11 => k_is)
    (case l11 => k_is)
    (case c11 => k_is)
    (case k11 => k_is)
    (case a12 => k_is)
    (case l12 => k_is)
    (case c12 => k_is)
    (case k12 => k_is)
    (case a13 => k_is)
    (case l13 => k_is)
    (case c13 => k_is)
    (case k13 => k_is)
    (case a14 => k_is)
    (case l14 => k_is)
    (case c14 => k_is)
    (case k14 => k_is)
    (case pgTape => k_is)
    (case hdTape => k_is)
    (case poTape => k_is)
    (case saTape => k_is)
    (case mkTape => k_is)
    (case kcTape => k_is)
    (case nTape__numbers => k_is)
    (case nTape__picks => k_is)
    (case pgMixer => k_is)
    (case hdMixer => k_is)
    (case poMixer => k_is)
    (case saMixer => k_is)
    (case mkMixer => k_is)
    (case kcMixer => k_is)
    (case nMixer__state => k_is)
    (case z_bool => k_is)
    (case z_int => k_is)
    (case z_isinstance => k_is)
    (case z_len => k_is)
    (case z_list => k_is)
    (case z_range => k_is)
    (case z_sum => k_is)
    (case v_SEEDS => k_is)
    (case v_FACTOR => k_is)
    (case v_PRIME => k_is)
