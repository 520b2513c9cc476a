import PyProof.Rows.All
import Wide.All
import OpenK.AllK
import Wide.FinOn
import HandS.ForMost
import HandS.IsInst
import HandS.Wide
import HandS.Gcd
import HandS.Codes
import KE.GoesNew
import KE.GoesMore
import HandS.Conv
import HandS.SortInts
import HandS.TupMul
import HandS.TupAny
import Flt.Len
import PySem.Challenge.RW_bestodds_k03_faults_of_systems
set_option Elab.async false
set_option linter.all false
set_option maxRecDepth 100000
set_option maxHeartbeats 4000000
namespace Bo
open PySem L2

/-! ### readings, step by step -/
section
variable {σ : L2.St} {H : Hp} {Q : VK} {D : Ends} {ta tb te : TE} {t u : TS} {tt tu : TT} {K : PySem.W.Frag}
theorem r_seq (h : t { D with nx := u D } σ H) : tSeq t u D σ H := h
theorem r_asg {g : TG} (h : te σ H fun x H1 => g x σ H1 D.nx) : tAsg te g D σ H := h
theorem r_name {i : Nat} {v : V} {R : L2.St → Hp → Prop} (h : R (σ.set i (some v)) H) : gName i v σ H R := h
theorem r_var {i : Nat} (h : ∃ v, σ[i]? = some (some v) ∧ Q v H) : tVar i σ H Q := h
theorem r_c {v : V} (h : Q v H) : tC v σ H Q := h
theorem r_op {r : R2} (h : ta σ H fun x H1 => tb σ H1 fun y H2 => r x y H2 Q) : tOp r ta tb σ H Q := h
theorem r_un {r : V → Hp → VK → Prop} (h : ta σ H fun x H1 => r x H1 Q) : tUn r ta σ H Q := h
theorem r_i0 {g : Int → Int → V} {i j : Int} (h : Q (g i j) H) : rI0 g (.int i) (.int j) H Q := ⟨i, j, rfl, rfl, h⟩
theorem r_iC {C : Int → Int → Prop} {g : Int → Int → V} {i j : Int} (c : C i j) (h : Q (g i j) H) : rI C g (.int i) (.int j) H Q := ⟨i, j, rfl, rfl, c, h⟩
theorem r_u {g : Int → V} {i : Int} (h : Q (g i) H) : rU g (.int i) H Q := ⟨i, rfl, h⟩
theorem r_eqI {i j : Int} (h : Q (.bl (decide (i = j))) H) : rEq (.int i) (.int j) H Q := by
  refine ⟨rfl, ?_⟩
  have e : decide (V.int i = V.int j) = decide (i = j) := by
    by_cases q : i = j
    · subst q; simp
    · rw [decide_eq_false q, decide_eq_false fun z => q (V.int.inj z)]
  rw [e]
  exact h
theorem r_neI {i j : Int} (h : Q (.bl (!decide (i = j))) H) : rNe (.int i) (.int j) H Q := by
  refine ⟨rfl, ?_⟩
  have e : decide (V.int i = V.int j) = decide (i = j) := by
    by_cases q : i = j
    · subst q; simp
    · rw [decide_eq_false q, decide_eq_false fun z => q (V.int.inj z)]
  rw [e]
  exact h
theorem r_eqS {i j : Str} (h : Q (.bl (decide (i = j))) H) : rEq (.str i) (.str j) H Q := by
  refine ⟨rfl, ?_⟩
  have e : decide (V.str i = V.str j) = decide (i = j) := by
    by_cases q : i = j
    · subst q; simp
    · rw [decide_eq_false q, decide_eq_false fun z => q (V.str.inj z)]
  rw [e]
  exact h
theorem r_eqB {i j : Bool} (h : Q (.bl (decide (i = j))) H) : rEq (.bl i) (.bl j) H Q := by
  refine ⟨rfl, ?_⟩
  have e : decide (V.bl i = V.bl j) = decide (i = j) := by
    by_cases q : i = j
    · subst q; simp
    · rw [decide_eq_false q, decide_eq_false fun z => q (V.bl.inj z)]
  rw [e]
  exact h
theorem r_tst {R : Bool → Hp → Prop} (h : te σ H fun x H' => ∃ k, x = .bl k ∧ R k H') : tTest te σ H R := h
theorem r_tB {R : Bool → Hp → Prop} (h : te σ H fun x H' => ∃ k, x = .bl k ∧ R k H') : tB te σ H R := h
theorem r_bl {b : Bool} {R : Bool → Prop} (h : R b) : ∃ k, V.bl b = .bl k ∧ R k := ⟨b, rfl, h⟩
theorem r_not {R : Bool → Hp → Prop} (h : tt σ H fun c H1 => R (!c) H1) : tNot tt σ H R := h
theorem r_and {R : Bool → Hp → Prop} (h : tt σ H fun c H1 => if c = true then tu σ H1 R else R false H1) : tAnd tt tu σ H R := h
theorem r_or {R : Bool → Hp → Prop} (h : tt σ H fun c H1 => if c = true then R true H1 else tu σ H1 R) : tOr tt tu σ H R := h
theorem r_andV (h : ta σ H fun x H1 => ∃ c, x = .bl c ∧ if c = true then tb σ H1 Q else Q (.bl false) H1) : tAndV ta tb σ H Q := h
theorem r_orV (h : ta σ H fun x H1 => ∃ c, x = .bl c ∧ if c = true then Q (.bl true) H1 else tb σ H1 Q) : tOrV ta tb σ H Q := h
theorem r_notV (h : ta σ H fun x H1 => ∃ c, x = .bl c ∧ Q (.bl (!c)) H1) : tNotV ta σ H Q := h
theorem r_ifs (h : tt σ H fun b H1 => if b = true then t D σ H1 else u D σ H1) : tIfS tt t u D σ H := h
theorem r_ifE (h : tt σ H fun c H1 => if c = true then ta σ H1 Q else tb σ H1 Q) : tIf tt ta tb σ H Q := h
theorem r_ret (h : te σ H D.rt) : tRet te D σ H := h
theorem r_retN (h : D.rt .non H) : tRetN D σ H := h
theorem r_next (h : D.nx σ H) : tNext D σ H := h
theorem r_brk (h : D.bk σ H) : tBreak D σ H := h
theorem r_cont (h : D.ct σ H) : tCont D σ H := h
theorem r_drop (h : te σ H fun _ H1 => D.nx σ H1) : tDrop te D σ H := h
theorem r_nil {R : List V → Hp → Prop} (h : R [] H) : tNil σ H R := h
theorem r_cons {tr : TA} {R : List V → Hp → Prop} (h : ta σ H fun x H1 => tr σ H1 fun xs H2 => R (x :: xs) H2) : tCons ta tr σ H R := h
theorem r_tup {tA : TA} (h : tA σ H fun xs H1 => xs.length ≤ sizeLine ∧ ∀ p, H1 p = none → Q (.ref p) (upd H1 p (.tup xs))) : tTup tA σ H Q := h
theorem r_lst {tA : TA} (h : tA σ H fun xs H1 => xs.length ≤ sizeLine ∧ ∀ p, H1 p = none → Q (.ref p) (upd H1 p (.lst xs))) : tLst tA σ H Q := h
theorem r_cb {r : List V → Hp → VK → Prop} {tA : TA} (h : tA σ H fun vs H1 => r vs H1 Q) : tCB r tA σ H Q := h
theorem r_call {sp : Sp} {E : XK} {tA : TA} (h : tA σ H fun vs H1 => sp (vs ++ []) H1 Q E) : tCall sp [] E tA σ H Q := h
theorem r_ixT {p : Addr} {xs : List V} {i : Int} {v : V} (s : SqT K H p xs) (a : atI xs i = some v) (h : Q v H) : rIxT K (.ref p) (.int i) H Q := ⟨p, xs, i, v, rfl, rfl, s, a, h⟩
theorem r_ixL {p : Addr} {xs : List V} {i : Int} {v : V} (s : SqL K H p xs) (a : atI xs i = some v) (h : Q v H) : rIxL K (.ref p) (.int i) H Q := ⟨p, xs, i, v, rfl, rfl, s, a, h⟩
theorem r_gsub {to ti : TE} {ts : TSet} {v : V} {R : L2.St → Hp → Prop} (h : to σ H fun o H1 => ti σ H1 fun i H2 => ts o i v H2 fun H3 => R σ H3) : gSub to ti ts v σ H R := h
theorem r_setL {p : Addr} {xs : List V} {k : Int} {j : Nat} {v : V} {R : Hp → Prop} (h : H p = some (.lst xs)) (e : ixN xs.length k = some j) (q : R (upd H p (.lst (xs.set j v)))) : rSetL (.ref p) (.int k) v H R := ⟨p, xs, k, j, rfl, rfl, h, e, q⟩
theorem r_ixQT {p : Addr} {xs : List V} {i : Int} {v : V} (s : SqT K H p xs) (a : atI xs i = some v) (h : Q v H) : rIx K (.ref p) (.int i) H Q := .inr (.inl ⟨p, xs, i, v, rfl, rfl, s, a, h⟩)
theorem r_ixQL {p : Addr} {xs : List V} {i : Int} {v : V} (s : SqL K H p xs) (a : atI xs i = some v) (h : Q v H) : rIx K (.ref p) (.int i) H Q := .inl ⟨p, xs, i, v, rfl, rfl, s, a, h⟩
theorem r_gtup2 {p : Addr} {x y : V} {i j : Nat} {R : L2.St → Hp → Prop} (s : SqT K H p [x, y]) (h : R ((σ.set i (some x)).set j (some y)) H) : gTup K 2 (gCons (gName i) (gCons (gName j) gNil)) (.ref p) σ H R := ⟨p, _, rfl, s, rfl, x, [y], rfl, y, [], rfl, rfl, h⟩
theorem r_app {p : Addr} {xs : List V} {y : V} (h : H p = some (.lst xs)) (l : xs.length < 100000) (q : Q .non (upd H p (.lst (xs ++ [y])))) : rAppend (.ref p) [y] H Q := ⟨p, xs, y, rfl, rfl, h, Nat.lt_of_lt_of_le l (by decide), q⟩
theorem r_bm {T : String} {r : V → List V → Hp → VK → Prop} {tA : TA} (h : ta σ H fun x H1 => tyV K T x H1 ∧ tA σ H1 fun xs H2 => r x xs H2 Q) : tBM K T r ta tA σ H Q := h
theorem r_bm0 {T : String} {r : V → List V → Hp → VK → Prop} (h : ta σ H fun x H1 => tyV K T x H1 ∧ r x [] H1 Q) : tBM0 K T r ta σ H Q := h
theorem r_tyL {p : Addr} {xs : List V} {P : Prop} (h : SqL K H p xs) (k : P) : tyV K "list" (.ref p) H ∧ P := ⟨.inl ⟨rfl, _, h⟩, k⟩
theorem r_tyD {p : Addr} {kvs : List (Key × V)} {P : Prop} (h : H p = some (.dK kvs)) (k : P) : tyV K "dict" (.ref p) H ∧ P := ⟨.inr (.inr (.inl ⟨rfl, .inl ⟨_, h⟩⟩)), k⟩
theorem r_dput {td ty : TE} (h : te σ H fun v H1 => td σ H1 fun x H2 => ty σ H2 fun y H3 => ∃ a H4, x = .ref a ∧ DPut H3 a y v H4 ∧ D.nx σ H4) : sDPut td ty te D σ H := h
theorem r_dnew (h : ∀ p, H p = none → Q (.ref p) (upd H p (.dK []))) : tDNewK σ H Q := h
theorem r_lenS {p : Addr} {xs : List V} (s : SqL K H p xs ∨ SqT K H p xs) (h : Q (.int xs.length) H) : ∃ q ys, [V.ref p] = [.ref q] ∧ (SqL K H q ys ∨ SqT K H q ys) ∧ Q (.int ys.length) H := ⟨p, xs, rfl, s, h⟩
theorem r_tupL {p : Addr} {xs : List V} (s : SqL K H p xs) (h : ∀ q, H q = none → Q (.ref q) (upd H q (.tup xs))) : ∃ q ys, [V.ref p] = [.ref q] ∧ ((SqL K H q ys ∧ ∀ l, H l = none → Q (.ref l) (upd H l (.tup ys))) ∨ (SqT K H q ys ∧ Q (.ref q) H)) := ⟨p, xs, rfl, .inl ⟨s, h⟩⟩
theorem r_yes {R : Bool → Hp → Prop} (h : R true H) : tYes σ H R := h
theorem r_chain {r r' : R2} {tc : TE} (h : ta σ H fun x H1 => tb σ H1 fun y H2 => r x y H2 fun z H3 => ∃ k, z = .bl k ∧ if k = true then tc σ H3 fun v H4 => r' y v H4 Q else Q (.bl false) H3) : tChain r r' ta tb tc σ H Q := h
theorem r_for {wi : TI} {g : TG} {b : TS} (h : wi σ H fun J H1 => ∃ W : Nat → Nat → L2.St → Hp → Prop, (∃ m, W 0 m σ H1) ∧ ∀ i m σ H, W i m σ H →
    (J.stop i H ∧ D.nx σ H) ∨ (J.go i H ∧ ∃ N : L2.St → Hp → Prop, (∀ σ' H', N σ' H' → ∃ m', m' < m ∧ W (i + 1) m' σ' H') ∧ ∀ x H', J.yld i H x H' → g x σ H' fun σ2 H2 => b { D with nx := N, ct := N, bk := D.nx } σ2 H2)) : tFor wi g b D σ H := h
theorem r_iList {R : It → Hp → Prop} (h : te σ H fun x H1 => ∃ a, x = .ref a ∧ (∃ xs, SqL K H1 a xs) ∧ R (Itl K a) H1) : iList K te σ H R := h
theorem r_iTup {R : It → Hp → Prop} (h : te σ H fun x H1 => ∃ a, x = .ref a ∧ (∃ xs, SqT K H1 a xs) ∧ R (Itt K a) H1) : iTup K te σ H R := h
theorem r_it {a : Addr} {P : Prop} {R : Addr → Prop} (p : P) (h : R a) : P ∧ R a := ⟨p, h⟩
theorem r_rng1 {tA : TA} {R : It → Hp → Prop} (h : tA σ H fun vs H1 => ∃ j : Int, vs = [.int j] ∧ -(2 ^ 62) ≤ j ∧ j < 2 ^ 62 ∧ R (Itr 0 j.toNat) H1) : iRng1 tA σ H R := h
theorem r_rng2 {tA : TA} {R : It → Hp → Prop} (h : tA σ H fun vs H1 => ∃ i j : Int, vs = [.int i, .int j] ∧ (-(2 ^ 62) ≤ i ∧ i < 2 ^ 62 ∧ -(2 ^ 62) ≤ j ∧ j < 2 ^ 62) ∧ R (Itr i (j - i).toNat) H1) : iRng2 tA σ H R := h
theorem r_int1 {i : Int} (h : Q (.int i) H) : (∃ j, [V.int i] = [.int j] ∧ Q (.int j) H) ∨ ∃ k, [V.int i] = [.bl k] ∧ Q (.int (if k then 1 else 0)) H := .inl ⟨i, rfl, h⟩
theorem r_if {c : Prop} [Decidable c] {A B : Prop} (h1 : c → A) (h2 : ¬ c → B) : if decide c = true then A else B := by
  by_cases h : c
  · rw [decide_eq_true h, if_pos rfl]
    exact h1 h
  · rw [decide_eq_false h, if_neg Bool.false_ne_true]
    exact h2 h
theorem r_ifN {c : Prop} [Decidable c] {A B : Prop} (h1 : ¬ c → A) (h2 : c → B) : if (!decide c) = true then A else B := by
  by_cases h : c
  · rw [decide_eq_true h]
    exact h2 h
  · rw [decide_eq_false h]
    exact h1 h
theorem r_ifT {A B : Prop} (h : A) : if true = true then A else B := h
theorem r_ifF {A B : Prop} (h : B) : if false = true then A else B := h
theorem r_ifNT {A B : Prop} (h : B) : if (!true) = true then A else B := h
theorem r_ifNF {A B : Prop} (h : A) : if (!false) = true then A else B := h
end

section
variable {σ : L2.St} {H : Hp} {D : Ends} {t u : TS}
theorem r_cut (Mid : L2.St → Hp → Prop) (h1 : t { D with nx := Mid } σ H) (h2 : ∀ σ' H', Mid σ' H' → u D σ' H') : C8.tCut t u D σ H := ⟨Mid, h1, h2⟩
end
/-! ### division by any int that is not nought -/
def CDivX (_ j : Int) : Prop := j ≠ 0 ∧ j.natAbs.log2 < 9000
theorem op_fdivX {X : Cx} : OpR X (binaryOp .FloorDiv) (rI CDivX fun i j => .int (i.fdiv j)) := opI fun _ _ _ _ _ _ _ hc q => PyProof.Rows.floordiv_int hc.1 q (.inl (PyProof.noPylong_of_log2 hc.2))

/-! ### heaps -/
section
variable {K : PySem.W.Frag} {H H' H1 : Hp} {a b p q : Addr} {xs ys : List V} {o : HO}
theorem sm_t (e : Same H H') (h : SqT K H a xs) : SqT K H' a xs := by
  rcases h with (h | ⟨o, h⟩) | h
  · exact .inl (.inl (e _ _ h))
  · exact .inl (.inr ⟨o, e _ _ h⟩)
  · exact .inr h
theorem sm_l (e : Same H H') (h : SqL K H a xs) : SqL K H' a xs := e.seq h
theorem sm_new (h : H p = none) : Same H (upd H p o) := fun b u e => by
  rw [upd_ne (ne_of_none e h)]
  exact e
def mn (H : Hp) (p : Addr) : Hp := fun b => if b = p then none else H b
theorem mn_same : mn H p p = none := if_pos rfl
theorem mn_ne (h : b ≠ p) : mn H p b = H b := if_neg h
theorem mn_le : Same (mn H p) H := fun b o e => by
  by_cases h : b = p
  · rw [h, mn_same] at e
    cases e
  · rw [mn_ne h] at e
    exact e
theorem mn_mono (e : Same H H') : Same (mn H p) (mn H' p) := fun b o h => by
  by_cases q : b = p
  · rw [q, mn_same] at h
    cases h
  · rw [mn_ne q] at h ⊢
    exact e _ _ h
theorem mn_upd : mn (upd H p o) p = mn H p := by
  funext b
  by_cases h : b = p
  · rw [h, mn_same, mn_same]
  · rw [mn_ne h, mn_ne h, upd_ne h]
/-- a tuple stands apart from a list -/
theorem mn_t (h : H p = some (.lst ys)) (s : SqT K H a xs) : SqT K (mn H p) a xs := by
  rcases s with (s | ⟨o, s⟩) | s
  · exact .inl (.inl (by rw [mn_ne (ne_of s h (fun z => by cases z))]; exact s))
  · exact .inl (.inr ⟨o, by rw [mn_ne (ne_of s h (fun z => by cases z))]; exact s⟩)
  · exact .inr s
/-- a list other than p -/
theorem mn_l (n : a ≠ p) (s : SqL K H a xs) : SqL K (mn H p) a xs := by
  rcases s with (s | ⟨o, s⟩) | s
  · exact .inl (.inl (by rw [mn_ne n]; exact s))
  · exact .inl (.inr ⟨o, by rw [mn_ne n]; exact s⟩)
  · exact .inr s
theorem mn_free (h : H a = none) : mn H p a = none := by
  by_cases q : a = p
  · rw [q, mn_same]
  · rw [mn_ne q]
    exact h
end

/-! ### rules whose reading names K outright (within a comprehension) -/
section
variable {X : Cx}
theorem ixT (K : PySem.W.Frag) (h : X.K = K := by rfl) : IxR X (rIxT K) := by
  subst h
  exact ix_tup
theorem ixL (K : PySem.W.Frag) (h : X.K = K := by rfl) : IxR X (rIxL K) := by
  subst h
  exact ix_list
theorem ixQ (K : PySem.W.Frag) (h : X.K = K := by rfl) : IxR X (rIx K) := by
  subst h
  exact ix_seq
end
/-! ### what is kept but for the list at p; tuples -/
def Fm (p : Addr) (H H' : Hp) : Prop := ∀ b o, b ≠ p → H b = some o → H' b = some o
section
variable {K : PySem.W.Frag} {H H' H1 : Hp} {a b p q : Addr} {xs ys : List V} {o : HO}
theorem Fm.refl : Fm p H H := fun _ _ _ h => h
theorem Fm.trans (e : Fm p H H1) (f : Fm p H1 H') : Fm p H H' := fun b o n h => f b o n (e b o n h)
theorem Same_fm (e : Same H H') : Fm p H H' := fun b o _ h => e b o h
theorem fm_of (e : Same (mn H p) (mn H' p)) : Fm p H H' := fun b o n h => by
  have := e b o (by rw [mn_ne n]; exact h)
  rw [mn_ne n] at this
  exact this
theorem Fm.mn (e : Fm p H H') : Same (mn H p) (mn H' p) := fun b o h => by
  by_cases q : b = p
  · rw [q, mn_same] at h
    cases h
  · rw [mn_ne q] at h ⊢
    exact e _ _ q h
theorem fm_new (h : H a = none) : Fm p H (upd H a o) := Same_fm (sm_new h)
theorem fm_upd : Fm p H (upd H p o) := fun b u n h => by
  rw [upd_ne n]
  exact h
/-- what stood free and is changed -/
theorem Fm.mut (e : Fm p H H') (h : H a = none) : Fm p H (upd H' a o) := fun b u n q => by
  rw [upd_ne (ne_of_none q h)]
  exact e b u n q
theorem Fm.free (e : Fm p H H') (n : a ≠ p) (h : H' a = none) : H a = none := by
  cases q : H a with
  | none => rfl
  | some u =>
    rw [e a u n q] at h
    cases h
/-- tuples are kept -/
def Tk (H H' : Hp) : Prop := ∀ b xs, (H b = some (.tup xs) → H' b = some (.tup xs)) ∧ ∀ o, H b = some (.frz o (.tup xs)) → H' b = some (.frz o (.tup xs))
theorem Tk.refl : Tk H H := fun _ _ => ⟨id, fun _ => id⟩
theorem Tk.trans (e : Tk H H1) (f : Tk H1 H') : Tk H H' := fun b xs => ⟨fun h => (f b xs).1 ((e b xs).1 h), fun o h => (f b xs).2 o ((e b xs).2 o h)⟩
theorem Same_tk (e : Same H H') : Tk H H' := fun b xs => ⟨e b _, fun _ => e b _⟩
theorem Fm.tk (e : Fm p H H') (h : H p = some (.lst ys)) : Tk H H' := fun b xs =>
  ⟨fun q => e b _ (ne_of q h (fun z => by cases z)) q, fun o q => e b _ (ne_of q h (fun z => by cases z)) q⟩
theorem tk_lst (h : H p = some (.lst ys)) : Tk H (upd H p o) := fun b xs =>
  ⟨fun q => by rw [upd_ne (ne_of q h (fun z => by cases z))]; exact q, fun o q => by rw [upd_ne (ne_of q h (fun z => by cases z))]; exact q⟩
theorem tk_dK {kvs : List (Key × V)} (h : H p = some (.dK kvs)) : Tk H (upd H p o) := fun b xs =>
  ⟨fun q => by rw [upd_ne (ne_of q h (fun z => by cases z))]; exact q, fun o q => by rw [upd_ne (ne_of q h (fun z => by cases z))]; exact q⟩
theorem tk_new (h : H p = none) : Tk H (upd H p o) := Same_tk (sm_new h)
theorem tk_t (e : Tk H H') (h : SqT K H a xs) : SqT K H' a xs := by
  rcases h with (h | ⟨o, h⟩) | h
  · exact .inl (.inl ((e _ _).1 h))
  · exact .inl (.inr ⟨o, (e _ _).2 o h⟩)
  · exact .inr h
end

/-! ### data -/
section
variable {K : PySem.W.Frag} {H H' : Hp}
mutual
theorem dp_mono (e : Same H H') : ∀ {v : V} {d : PyData}, Dp K H v d → Dp K H' v d
  | _, _, .non => .non
  | _, _, .bl b => .bl b
  | _, _, .int i => .int i
  | _, _, .str x => .str x
  | _, _, .lst s a => .lst (sm_l e s) (dpa_mono e a)
  | _, _, .tup s a => .tup (sm_t e s) (dpa_mono e a)
theorem dpa_mono (e : Same H H') : ∀ {vs : List V} {ds : List PyData}, DpAll K H vs ds → DpAll K H' vs ds
  | _, _, .nil => .nil
  | _, _, .cons h t => .cons (dp_mono e h) (dpa_mono e t)
end
theorem dpa_len : ∀ {vs : List V} {ds : List PyData}, DpAll K H vs ds → vs.length = ds.length
  | _, _, .nil => rfl
  | _, _, .cons _ t => congrArg (· + 1) (dpa_len t)
theorem dpa_get : ∀ {vs : List V} {ds : List PyData} {i : Nat} {d : PyData}, DpAll K H vs ds → ds[i]? = some d → ∃ v, vs[i]? = some v ∧ Dp K H v d
  | _, _, _, _, .nil, e => by simp at e
  | _, _, 0, _, .cons h _, e => by
    simp at e
    subst e
    exact ⟨_, rfl, h⟩
  | _, _, i + 1, d, .cons _ t, e => by
    obtain ⟨v, h1, h2⟩ := dpa_get (i := i) (d := d) t (by simpa using e)
    exact ⟨v, by simpa using h1, h2⟩
/-- data without lists -/
inductive Tu : PyData → Prop
  | non : Tu .none
  | bl (b : Bool) : Tu (.bool b)
  | int (i : Int) : Tu (.int i)
  | str (x : Str) : Tu (.str x)
  | tup {ds : List PyData} (h : ∀ d, d ∈ ds → Tu d) : Tu (.tuple ds)
mutual
theorem dp_tk (e : Tk H H') : ∀ {v : V} {d : PyData}, Tu d → Dp K H v d → Dp K H' v d
  | _, _, _, .non => .non
  | _, _, _, .bl b => .bl b
  | _, _, _, .int i => .int i
  | _, _, _, .str x => .str x
  | _, _, t, .lst s a => nomatch t
  | _, _, t, .tup s a => .tup (tk_t e s) (dpa_tk e (fun d hd => by cases t with | tup h => exact h d hd) a)
theorem dpa_tk (e : Tk H H') : ∀ {vs : List V} {ds : List PyData}, (∀ d, d ∈ ds → Tu d) → DpAll K H vs ds → DpAll K H' vs ds
  | _, _, _, .nil => .nil
  | _, _, t, .cons h r => .cons (dp_tk e (t _ (List.mem_cons_self ..)) h) (dpa_tk e (fun d hd => t d (List.mem_cons_of_mem _ hd)) r)
end
theorem dpa_app : ∀ {vs ws : List V} {ds es : List PyData}, DpAll K H vs ds → DpAll K H ws es → DpAll K H (vs ++ ws) (ds ++ es)
  | _, _, _, _, .nil, h => h
  | _, _, _, _, .cons a t, h => .cons a (dpa_app t h)
/-- the types of what is read -/
theorem tyx_t {a : Addr} {xs : List V} (s : SqT K H a xs) : TyX K H (.ref a) (.type "tuple") := by
  rcases s with (s | ⟨o, s⟩) | ⟨o, its, n, e, c, _⟩
  · exact .base (.tup s)
  · exact .fTuple s
  · exact .kTuple e c
theorem tyx_l {a : Addr} {xs : List V} (s : SqL K H a xs) : TyX K H (.ref a) (.type "list") := by
  rcases s with (s | ⟨o, s⟩) | ⟨o, its, n, e, c, _⟩
  · exact .base (.lst s)
  · exact .base (.frz s)
  · exact .kList e c
theorem r_isi {Q : VK} {x : V} {a c : String} (b : Bool) (ty : TyX K H x (.type a)) (e : kitB a c = some b) (h : Q (.bl b) H) : rIsi K [x, .ty c] H Q := ⟨x, .ty c, .type a, .type c, b, rfl, .ty c, ty, kit_ty e, h⟩
/-- data at most n deep -/
inductive Dn : Nat → PyData → Prop
  | non (n : Nat) : Dn n .none
  | bl (n : Nat) (b : Bool) : Dn n (.bool b)
  | int (n : Nat) (i : Int) : Dn n (.int i)
  | str (n : Nat) (x : Str) : Dn n (.str x)
  | tup {n : Nat} {ds : List PyData} (l : ds.length ≤ 100000) (h : ∀ d, d ∈ ds → Dn n d) : Dn (n + 1) (.tuple ds)
  | lst {n : Nat} {ds : List PyData} (l : ds.length ≤ 100000) (h : ∀ d, d ∈ ds → Dn n d) : Dn (n + 1) (.list ds)
theorem Dn.up : ∀ {n : Nat} {d : PyData}, Dn n d → Dn (n + 1) d
  | _, _, .non _ => .non _
  | _, _, .bl _ b => .bl _ b
  | _, _, .int _ i => .int _ i
  | _, _, .str _ x => .str _ x
  | _, _, .tup l h => .tup l fun d hd => (h d hd).up
  | _, _, .lst l h => .lst l fun d hd => (h d hd).up
end
end Bo

/-! ### enumerate and zip over lists and tuples in any mix: out of what next tells of any two sources -/
namespace Bo
open PySem L2
/-- a list, or a tuple -/
inductive Kd where
  | L | T
namespace Kd
def Sq (k : Kd) (K : PySem.W.Frag) (H : Hp) (a : Addr) (xs : List V) : Prop := match k with
  | .L => SqL K H a xs
  | .T => SqT K H a xs
def Is (k : Kd) (h : Heap) (a : Addr) (items : Array Value) : Prop := match k with
  | .L => h.IsList a items
  | .T => h.IsTuple a items
def At (k : Kd) (h : Heap) (it a : Addr) (i : Nat) : Prop := match k with
  | .L => h.IsListIter it a i
  | .T => h.IsTupleIter it a i
def ob (k : Kd) (a : Addr) : Obj := match k with
  | .L => { cls := .type "list_iterator", data := .fields #[.ref a, .int 0 0] }
  | .T => { cls := .type "tuple_iterator", data := .fields #[.ref a, .int 0 0] }
variable {k : Kd} {K : PySem.W.Frag} {a it : Addr} {h h' : Heap} {items : Array Value}
theorem begins : Begins (.ref a) (k.ob a) (fun h => k.Is h a items) := match k with
  | .L => begins_list a items
  | .T => begins_tuple a items
theorem start_ (e : h.get? it = some (k.ob a)) : k.At h it a 0 := match k with
  | .L => ⟨_, e, rfl, rfl⟩
  | .T => ⟨_, e, rfl, rfl⟩
theorem live {i : Nat} (st : k.At h it a i) : ∃ o, h.get? it = some o ∧ ∀ v, o.data ≠ .cell v := match k, st with
  | .L, ⟨o, e, _, d⟩ => ⟨o, e, fun v z => nomatch (d.symm.trans z)⟩
  | .T, ⟨o, e, _, d⟩ => ⟨o, e, fun v z => nomatch (d.symm.trans z)⟩
theorem stay {i : Nat} (st : k.At h it a i) (e : ∀ o, h.get? it = some o → h'.get? it = some o) : k.At h' it a i := match k, st with
  | .L, st => Heap.IsListIter.at st e
  | .T, st => Heap.IsTupleIter.at st e
theorem draws {P : Program} {w : World} {A : Around} (hh : A.handled = none) (ne : a ≠ it) : Draws P w A it [it, a] items.size (fun i v => items[i]? = some v) (fun i h => k.At h it a i ∧ k.Is h a items) := match k with
  | .L => Draws.list hh it a ne items
  | .T => Draws.tuple hh it a ne items
theorem told {X : Cx} {pins : List (Addr × Obj)} {σ : L2.St} {H : Hp} {s : Shared} {xs : List V} (I : Inv X pins σ H s) (q : k.Sq X.K H a xs) : ∃ its : List Value, Vals xs its ∧ k.Is s.heap a its.toArray := match k, q with
  | .L, q => let ⟨its, r, p, _⟩ := I.list q; ⟨its, r, p.isList⟩
  | .T, q => let ⟨its, r, p, _⟩ := I.tuple q; ⟨its, r, p⟩
theorem one {X : Cx} {pins : List (Addr × Obj)} {σ : L2.St} {H : Hp} {s : Shared} {xs ys : List V} (I : Inv X pins σ H s) (q : k.Sq X.K H a xs) (q2 : k.Sq X.K H a ys) : xs = ys := match k, q, q2 with
  | .L, q, q2 => I.list_inj q q2
  | .T, q, q2 => I.tuple_inj q q2
theorem below (p : k.Is h a items) : a < h.objs.size := match k, p with
  | .L, ⟨_, e, _⟩ => Heap.lt_size e
  | .T, ⟨_, e, _⟩ => Heap.lt_size e
end Kd
/-- a new pair at each turn: at turn i that of i and the i-th item of a, or of the i-th items of a and b -/
def ItP (go : Nat → Hp → Prop) (pr : Nat → Hp → V → V → Prop) (stop : Nat → Hp → Prop) : It :=
  ⟨go, fun i H v H' => ∃ q x y, v = .ref q ∧ H q = none ∧ H' = upd H q (.tup [x, y]) ∧ pr i H x y, stop⟩
/-- the step of such a walk, by what next tells -/
theorem pair_step {X : Cx} {pins : List (Addr × Obj)} {σ : L2.St} {H : Hp} {s : Shared} {wr : List Addr} {x y : V} {u v : Value} {q : Addr} {h' : Heap} {tk : Nat} (I : Inv X pins σ H s) (hw : ∀ b ∈ wr, FpOk X pins H b)
    (keep : ∀ b o, b ∉ wr → s.heap.get? b = some o → h'.get? b = some o) (hq : s.heap.objs.size ≤ q) (ht : h'.IsTuple q #[u, v]) (rx : RelV x u) (ry : RelV y v) : Inv X pins σ (upd H q (.tup [x, y])) { s with heap := h', toks := tk } :=
  I.turnedNew (ch := wr) keep hw hq ⟨(by show 2 ≤ sizeLine; decide), [u, v], .cons rx (.cons ry .nil), ht⟩
section
variable {P : Program} {w : World} {K : PySem.W.Frag} {elts : List Expr} {kk : Nat} {tpos : Pos}
def ItZ (K : PySem.W.Frag) (k l : Kd) (a b : Addr) : It :=
  ItP (fun i H => ∃ xs ys x y, k.Sq K H a xs ∧ l.Sq K H b ys ∧ xs[i]? = some x ∧ ys[i]? = some y) (fun i H x y => (∀ xs, k.Sq K H a xs → xs[i]? = some x) ∧ ∀ ys, l.Sq K H b ys → ys[i]? = some y)
    (fun i H => ∃ xs ys, k.Sq K H a xs ∧ l.Sq K H b ys ∧ i = min xs.length ys.length)
structure ZFp (z p q i j a b : Addr) : Prop where
  s : ZipSep2 z p q i j [i, a] [j, b]
  na : a ≠ i
  nb : b ≠ j
theorem turn_zipK {k l : Kd} {z p q i1 i2 a b : Addr} (F : ZFp z p q i1 i2 a b) :
    Turn P w K (.Tuple elts kk tpos) (ItZ K k l a b) [z, p, q, i1, i2] z (fun i h => IsZip h z p q .none ∧ IsTupOf2 h p (.ref i1) (.ref i2) ∧ (∃ a1 a2, IsTupOf2 h q a1 a2) ∧ k.At h i1 a i ∧ l.At h i2 b i) where
  mem := List.mem_cons_self
  obj := fun i h st c hc => by
    obtain ⟨hz, hp, ⟨_, _, hq⟩, h1, h2⟩ := st
    simp only [List.mem_cons, List.not_mem_nil, or_false] at hc
    rcases hc with rfl | rfl | rfl | rfl | rfl
    · exact ⟨_, hz, fun v z => nomatch z⟩
    · exact ⟨_, hp, fun v z => nomatch z⟩
    · exact ⟨_, hq, fun v z => nomatch z⟩
    · exact Kd.live h1
    · exact Kd.live h2
  keep := fun i h h' st e => by
    obtain ⟨hz, hp, ⟨a1, a2, hq⟩, h1, h2⟩ := st
    exact ⟨e z (by simp) _ hz, e p (by simp) _ hp, ⟨a1, a2, e q (by simp) _ hq⟩, Kd.stay h1 fun o => e i1 (by simp) o, Kd.stay h2 fun o => e i2 (by simp) o⟩
  item := by
    intro X hP hw hK hc i pins s σ H E I hf st hg
    subst hP hw hK
    obtain ⟨hz, hp, hq, h1, h2⟩ := st
    obtain ⟨xs, ys, x, y, sx, sy, ex, ey⟩ := hg
    obtain ⟨us, ru, pu⟩ := Kd.told I sx
    obtain ⟨vs, rv, pv⟩ := Kd.told I sy
    have lu := ru.length
    have lv := rv.length
    have l1 := (List.getElem?_eq_some_iff.mp ex).1
    have l2 := (List.getElem?_eq_some_iff.mp ey).1
    have hh : X.A.in1.handled = none := I.ok.hd hc
    have W := GoesN.zip2 (prog := X.prog) (w := X.w) (A := X.A) (elts := elts) (x1 := kk) (pos := tpos) F.s (k.draws (items := us.toArray) hh F.na) (l.draws (items := vs.toArray) hh F.nb)
    refine W.goes i s _ E (by rw [List.size_toArray, List.size_toArray]; omega) ⟨hz, hp, hq, ⟨h1, pu⟩, h2, pv⟩ fun v h' tk hY st' hk _ => ?_
    obtain ⟨t, u1, u2, rfl, ht, e1, e2, hT⟩ := hY
    obtain ⟨u, hu, r1⟩ := ru.get ex
    obtain ⟨v, hv, r2⟩ := rv.get ey
    have q1 : u1 = u := Option.some.inj (e1.symm.trans (by simpa using hu))
    have q2 : u2 = v := Option.some.inj (e2.symm.trans (by simpa using hv))
    subst q1 q2
    refine ⟨.ref t, _, pair_step I (wr := [z, q, i1, i2]) (fun b hb => hf b ?_) hk ht hT r1 r2, rfl, ⟨t, x, y, rfl, I.hok.fresh ht, rfl, fun xs' s' => by rw [Kd.one I s' sx]; exact ex, fun ys' s' => by rw [Kd.one I s' sy]; exact ey⟩,
      ⟨st'.1, st'.2.1, st'.2.2.1, st'.2.2.2.1.1, st'.2.2.2.2.1⟩, fun c hc' => ?_⟩
    · simp only [List.mem_cons, List.not_mem_nil, or_false] at hb ⊢
      rcases hb with e | e | e | e <;> simp [e]
    · have hlt : c < s.heap.objs.size := by
        obtain ⟨o, e⟩ : ∃ o, s.heap.get? c = some o := by
          simp only [List.mem_cons, List.not_mem_nil, or_false] at hc'
          obtain ⟨_, _, hq'⟩ := hq
          rcases hc' with rfl | rfl | rfl | rfl | rfl
          · exact ⟨_, hz⟩
          · exact ⟨_, hp⟩
          · exact ⟨_, hq'⟩
          · exact ⟨_, (Kd.live h1).choose_spec.1⟩
          · exact ⟨_, (Kd.live h2).choose_spec.1⟩
        exact Heap.lt_size e
      rw [upd_ne (Nat.ne_of_lt (Nat.lt_of_lt_of_le hlt ht))]
      exact (hf c hc').1
  done := by
    intro X hP hw hK hc i pins s σ H E I hf st hg
    subst hP hw hK
    obtain ⟨hz, hp, hq, h1, h2⟩ := st
    obtain ⟨xs, ys, sx, sy, e⟩ := hg
    obtain ⟨us, ru, pu⟩ := Kd.told I sx
    obtain ⟨vs, rv, pv⟩ := Kd.told I sy
    have hh : X.A.in1.handled = none := I.ok.hd hc
    have W := GoesN.zip2 (prog := X.prog) (w := X.w) (A := X.A) (elts := elts) (x1 := kk) (pos := tpos) F.s (k.draws (items := us.toArray) hh F.na) (l.draws (items := vs.toArray) hh F.nb)
    have ei : min us.toArray.size vs.toArray.size = i := by rw [List.size_toArray, List.size_toArray, ← ru.length, ← rv.length, e]
    refine W.stops s _ E (by rw [ei]; exact ⟨hz, hp, hq, ⟨h1, pu⟩, h2, pv⟩) fun h' tk hk _ => ?_
    refine I.turnedL (t' := tk) (ch := [z, q, i1, i2]) hk fun b hb => hf b ?_
    simp only [List.mem_cons, List.not_mem_nil, or_false] at hb ⊢
    rcases hb with e | e | e | e <;> simp [e]
  self := fun A i s Q E st h => wpAny_pyIter_zip st.1 h
def ItN (K : PySem.W.Frag) (k : Kd) (a : Addr) : It :=
  ItP (fun i H => ∃ xs x, k.Sq K H a xs ∧ xs[i]? = some x) (fun i H x y => x = .int (i : Nat) ∧ ∀ xs, k.Sq K H a xs → xs[i]? = some y) (fun i H => ∃ xs, k.Sq K H a xs ∧ i = xs.length)
theorem turn_enumK {k : Kd} {e it a : Addr} (ne : e ≠ it) (na : a ≠ it) (nea : a ≠ e) : Turn P w K (.Tuple elts kk tpos) (ItN K k a) [e, it] e (fun i h => (∃ old, IsEnum h e it (0 + (i : Int)) old) ∧ k.At h it a i) where
  mem := List.mem_cons_self
  obj := fun i h st c hc => by
    obtain ⟨⟨_, he⟩, h1⟩ := st
    simp only [List.mem_cons, List.not_mem_nil, or_false] at hc
    rcases hc with rfl | rfl
    · exact ⟨_, he, fun v z => nomatch z⟩
    · exact Kd.live h1
  keep := fun i h h' st k' => by
    obtain ⟨⟨old, he⟩, h1⟩ := st
    exact ⟨⟨old, k' e (by simp) _ he⟩, Kd.stay h1 fun o => k' it (by simp) o⟩
  item := by
    intro X hP hw hK hc i pins s σ H E I hf st hg
    subst hP hw hK
    obtain ⟨he, h1⟩ := st
    obtain ⟨xs, x, sx, ex⟩ := hg
    obtain ⟨us, ru, pu⟩ := Kd.told I sx
    have lu := ru.length
    have l1 := (List.getElem?_eq_some_iff.mp ex).1
    have W := GoesN.enumFrom (prog := X.prog) (w := X.w) (A := X.A) (elts := elts) (x1 := kk) (pos := tpos) 0 (k.draws (items := us.toArray) (show X.A.in1.handled = none from I.ok.hd hc) na) e ne (by simp [ne, Ne.symm nea]) (by simp)
    refine W.goes i s _ E (by rw [List.size_toArray]; omega) ⟨he, h1, pu⟩ fun v h' tk hY st' hk _ => ?_
    obtain ⟨t, tt, u1, rfl, ht, e1, hT⟩ := hY
    obtain ⟨u, hu, r1⟩ := ru.get ex
    have q1 : u1 = u := Option.some.inj (e1.symm.trans (by simpa using hu))
    subst q1
    have z0 : (0 : Int) + (i : Int) = (i : Nat) := Int.zero_add _
    rw [z0] at hT
    refine ⟨.ref t, _, pair_step I (wr := [e, it]) hf hk ht hT (x := .int (i : Nat)) ⟨tt, rfl⟩ r1, rfl, ⟨t, _, x, rfl, I.hok.fresh ht, rfl, rfl, fun xs' s' => by rw [Kd.one I s' sx]; exact ex⟩, ⟨st'.1, st'.2.1⟩, fun c hc' => ?_⟩
    have hlt : c < s.heap.objs.size := by
      obtain ⟨o, e⟩ : ∃ o, s.heap.get? c = some o := by
        simp only [List.mem_cons, List.not_mem_nil, or_false] at hc'
        obtain ⟨_, he'⟩ := he
        rcases hc' with rfl | rfl
        · exact ⟨_, he'⟩
        · exact ⟨_, (Kd.live h1).choose_spec.1⟩
      exact Heap.lt_size e
    rw [upd_ne (Nat.ne_of_lt (Nat.lt_of_lt_of_le hlt ht))]
    exact (hf c hc').1
  done := by
    intro X hP hw hK hc i pins s σ H E I hf st hg
    subst hP hw hK
    obtain ⟨he, h1⟩ := st
    obtain ⟨xs, sx, ei⟩ := hg
    obtain ⟨us, ru, pu⟩ := Kd.told I sx
    have W := GoesN.enumFrom (prog := X.prog) (w := X.w) (A := X.A) (elts := elts) (x1 := kk) (pos := tpos) 0 (k.draws (items := us.toArray) (show X.A.in1.handled = none from I.ok.hd hc) na) e ne (by simp [ne, Ne.symm nea]) (by simp)
    have ei' : us.toArray.size = i := by rw [List.size_toArray, ← ru.length, ei]
    exact W.stops s _ E (by rw [ei']; exact ⟨he, h1, pu⟩) fun h' tk hk _ => I.turnedL (t' := tk) (ch := [e, it]) hk hf
  self := fun A i s Q E st h => by
    obtain ⟨⟨_, he⟩, _⟩ := st
    exact wpAny_pyIter_enum he h
end
/-! the calls -/
section
variable {X : Cx} {e e2 : Expr} {ta : TA} {p pos tpos : Pos} {elts : List Expr} {kk : Nat}
def iZipK (k l : Kd) (K : PySem.W.Frag) (ta : TA) : TI := fun σ H R => ta σ H fun vs H1 => ∃ a b xs ys, vs = [.ref a, .ref b] ∧ k.Sq K H1 a xs ∧ l.Sq K H1 b ys ∧ R (ItZ K k l a b) H1
open PySem.Spec PyProof.Rows in
theorem pi_zipK (k l : Kd) (hg : Gl X "zip") (hm : X.mg "zip" = none) (ha : PA X [e, e2] ta) (hs : starEach [e, e2] X.env = (false, eval e X.env) :: starEach [e2] X.env := by rfl) (hpl : (backTo pos (starEach [e2] X.env)).any (·.1) = false := by rfl) :
    PI X (.Tuple elts kk tpos) (.Call (.Name "zip" p) [e, e2] [] pos) (iZipK k l X.K ta) := by
  constructor
  intro pins s σ H R I h
  refine Call_ (ld_blt I hg hm boot_zip (callWith_type1 ?_ hs hpl))
  refine thn (ha.run pos pins s σ H _ I h) ?_
  rintro us s1 ⟨vs, H1, I1, rv, a, b, xs, ys, rfl, qa, qb, q⟩
  cases rv with
  | cons ra rest =>
    cases rest with
    | cons rb rest =>
      cases rest
      cases ra
      cases rb
      obtain ⟨ua, _, pa⟩ := Kd.told I1 qa
      obtain ⟨ub, _, pb⟩ := Kd.told I1 qb
      refine zip_begins2 (k.begins (items := ua.toArray)) (l.begins (items := ub.toArray)) pa pb fun h' hz hp hq h1 h2 hsz hk => wpAny_pyIter_zip hz ?_
      have la := Kd.below pa
      have lb := Kd.below pb
      have ge : ∀ c ∈ [s1.heap.objs.size + 4, s1.heap.objs.size + 2, s1.heap.objs.size + 3, s1.heap.objs.size, s1.heap.objs.size + 1], s1.heap.objs.size ≤ c := fun c hc => by
        simp only [List.mem_cons, List.not_mem_nil, or_false] at hc
        omega
      exact ⟨s1.heap.objs.size + 4, _, _, _, H1, rfl, I1.kept (t' := s1.toks) hk, turn_zipK ⟨zip_sep2 (N := s1.heap.objs.size) (fp1 := [a]) (fp2 := [b]) (by simpa using la) (by simpa using lb), Nat.ne_of_lt la, Nat.ne_of_lt (Nat.lt_succ_of_lt lb)⟩, ⟨hz, hp, ⟨_, _, hq⟩, Kd.start_ h1, Kd.start_ h2⟩,
        fun c hc => I1.fpOk (ge c hc) (I1.hok.fresh (ge c hc)), q⟩
/-- the enumeration is made -/
theorem enum_meets {v : Value} {o : Obj} {Z : Heap → Prop} (B : Begins v o Z) :
    Meets (Builtin.«enumerate.__new__» ⟨[.type "enumerate", v], []⟩) (fun _ R s => Z s.heap ∧ R (.ok (.ret (.ref (s.heap.push o).objs.size))) { s with heap := (s.heap.push o).push { cls := .type "enumerate", data := .fields #[.none, .bool false, .ref s.heap.objs.size, rawInt 0, .none, .none] } }) := by
  refine Meets.of_wp fun P w A R s hs => ?_
  obtain ⟨hz, hR⟩ := hs
  have known := sub_enumerate
  have first_ : ∀ {A' : Around} {E : Value → Shared → Prop} {Q : Value → Shared → Prop}, Q (.ref s.heap.objs.size) { s with heap := s.heap.push o } → wpAny (model P w) A' (pyIter v) Q E s := fun z => B.iter P w _ _ s _ hz z
  cases s with
  | mk hp g d tk os =>
    wp_walk using first_
    refine wpAny_stack_any fun st => wpAny_pure ?_
    split <;> first
      | (rename_i c _ _ _ _ _
         cases hc : (c == Value.type "enumerate") <;> (wp_walk using first_; exact ⟨_, rfl, hR⟩))
      | (wp_walk using first_; exact ⟨_, rfl, hR⟩)
def iEnumK (k : Kd) (K : PySem.W.Frag) (ta : TA) : TI := fun σ H R => ta σ H fun vs H1 => ∃ a xs, vs = [.ref a] ∧ k.Sq K H1 a xs ∧ R (ItN K k a) H1
open PySem.Spec PyProof.Rows in
theorem pi_enumK (k : Kd) (hg : Gl X "enumerate") (hm : X.mg "enumerate" = none) (ha : PA X [e] ta) (hs : starEach [e] X.env = [(false, eval e X.env)] := by rfl) : PI X (.Tuple elts kk tpos) (.Call (.Name "enumerate" p) [e] [] pos) (iEnumK k X.K ta) := by
  constructor
  intro pins s σ H R I h
  refine Call_ (ld_blt I hg hm boot_enumerate (callWith_type1 ?_ hs rfl))
  refine thn (ha.run pos pins s σ H _ I h) ?_
  rintro us s1 ⟨vs, H1, I1, rv, a, xs, rfl, qa, q⟩
  cases rv with
  | cons ra rest =>
    cases rest
    cases ra
    obtain ⟨ua, _, pa⟩ := Kd.told I1 qa
    have B := k.begins (a := a) (items := ua.toArray)
    have la := Kd.below pa
    refine callType_new F.called_enumerate (by decide) (F.typeCall_enumerate_1 _) (F.newCall_enumerate_1 _) (fun obj => F.args_object_init_2 obj _) F.entry_enumerate_new (enum_meets B) ⟨pa, ?_⟩
    have sz : (s1.heap.push (k.ob a)).objs.size = s1.heap.objs.size + 1 := Heap.size_push ..
    have e0 := Heap.get?_push_size (s1.heap.push (k.ob a)) (o := { cls := .type "enumerate", data := .fields #[.none, .bool false, .ref s1.heap.objs.size, rawInt 0, .none, .none] }) rfl
    rw [sz] at e0
    have old : ∀ c o, s1.heap.get? c = some o → ((s1.heap.push (k.ob a)).push { cls := .type "enumerate", data := .fields #[.none, .bool false, .ref s1.heap.objs.size, rawInt 0, .none, .none] }).get? c = some o := fun c o z => Heap.get?_push_of_some _ (Heap.get?_push_of_some _ z)
    have e1 := Heap.get?_push_of_some { cls := .type "enumerate", data := .fields #[.none, .bool false, .ref s1.heap.objs.size, rawInt 0, .none, .none] } (Heap.get?_push_size s1.heap (o := k.ob a) B.free)
    have en : IsEnum ((s1.heap.push (k.ob a)).push { cls := .type "enumerate", data := .fields #[.none, .bool false, .ref s1.heap.objs.size, rawInt 0, .none, .none] }) (s1.heap.objs.size + 1) s1.heap.objs.size (0 + ((0 : Nat) : Int)) .none := e0
    have ge : ∀ c ∈ [s1.heap.objs.size + 1, s1.heap.objs.size], s1.heap.objs.size ≤ c := fun c hc => by
      simp only [List.mem_cons, List.not_mem_nil, or_false] at hc
      omega
    rw [sz]
    exact ⟨⟨_, en, rfl⟩, wpAny_pyIter_enum en ⟨s1.heap.objs.size + 1, _, _, _, H1, rfl, I1.kept (t' := s1.toks) old, turn_enumK (Nat.succ_ne_self _) (Nat.ne_of_lt la) (Nat.ne_of_lt (Nat.lt_succ_of_lt la)), ⟨⟨_, en⟩, Kd.start_ e1⟩,
      fun c hc => I1.fpOk (ge c hc) (I1.hok.fresh (ge c hc)), q⟩⟩
end
end Bo

namespace Bo
open PySem L2
/-! ### a tuple backwards -/
theorem own_items {α : Type} : ∀ l : List α, (List.range l.length).filterMap (fun m => l[m]?) = l
  | [] => rfl
  | x :: l => by
    rw [List.length_cons, List.range_succ_eq_map, List.filterMap_cons]
    show x :: ((List.range l.length).map Nat.succ).filterMap (fun m => (x :: l)[m]?) = x :: l
    rw [List.filterMap_map]
    exact congrArg (x :: ·) (own_items l)
theorem picks_alike {α β : Type} {f g : α → Option β} : ∀ {l : List α}, (∀ a ∈ l, f a = g a) → l.filterMap f = l.filterMap g
  | [], _ => rfl
  | a :: l, h => by
    simp only [List.filterMap_cons, h a List.mem_cons_self, picks_alike fun b hb => h b (List.mem_cons_of_mem a hb)]
theorem back_items (xs : Array Value) : ((List.range xs.size).filterMap fun (m : Nat) => xs[((xs.size : Int) - 1 + (m : Int) * -1).toNat]?) = xs.toList.reverse := by
  have all := own_items xs.toList.reverse
  rw [List.length_reverse, Array.length_toList] at all
  refine Eq.trans (picks_alike fun m hm => ?_) all
  have lt : m < xs.toList.length := by
    rw [Array.length_toList]
    exact List.mem_range.mp hm
  rw [List.getElem?_reverse lt, Array.getElem?_toList, Array.length_toList]
  congr 1
  omega
theorem back_count (n : Nat) : Builtin.Slice.slicePlaces ((n : Int) - 1) (-1) (-1) = n := by
  simp only [Builtin.Slice.slicePlaces]
  split
  · omega
  split
  · rename_i c
    simp only [Int.neg_neg, Int.ediv_one]
    omega
  · omega
theorem back_cut {P : Program} {w : World} {A : Around} {E : Value → Shared → Prop} {s : Shared} {sl : Addr} {t : Tok} {n : Nat} {Q : Int × Int × Nat → Shared → Prop} (hs : s.heap.IsSliceOf sl .none .none (.int (-1) t)) (q : Q ((n : Int) - 1, -1, n) s) :
    wpAny (model P w) A (Builtin.Slice.sliceApplied (.ref sl) (pure (n : Int))) Q E s := by
  have q' : Q ((Builtin.Slice.sliceAdjust none none (-1) (n : Int)).1, -1, Builtin.Slice.slicePlaces (Builtin.Slice.sliceAdjust none none (-1) (n : Int)).1 (Builtin.Slice.sliceAdjust none none (-1) (n : Int)).2 (-1)) s := by
    rw [show Builtin.Slice.sliceAdjust none none (-1) (n : Int) = ((n : Int) - 1, -1) from rfl]
    rw [back_count]
    exact q
  obtain ⟨o, at_, _, parts⟩ := hs
  have part0 : ∀ {Q : Value → Shared → Prop}, Q .none s → wpAny (model P w) A (field (.ref sl) 0) Q E s := fun z => wpAny_field at_ parts rfl z
  have part1 : ∀ {Q : Value → Shared → Prop}, Q .none s → wpAny (model P w) A (field (.ref sl) 1) Q E s := fun z => wpAny_field at_ parts rfl z
  have part2 : ∀ {Q : Value → Shared → Prop}, Q (.int (-1) t) s → wpAny (model P w) A (field (.ref sl) 2) Q E s := fun z => wpAny_field at_ parts rfl z
  have none_ : ∀ {Q : Option Int → Shared → Prop}, Q none s → wpAny (model P w) A (Builtin.Slice.slicePartIndex .none) Q E s := fun z => HT.slicePart_ .none z
  have one_ : ∀ {Q : Option Int → Shared → Prop}, Q (some (-1)) s → wpAny (model P w) A (Builtin.Slice.slicePartIndex (.int (-1) t)) Q E s := fun z => HT.slicePart_ (.int (-1) t) z
  unfold Builtin.Slice.sliceApplied
  wp_walk using part0, part1, part2, none_, one_
  exact q'
theorem back_meets {t sl : Addr} {items : Array Value} {u : Tok} : Meets (Builtin.«tuple.__getitem__» ⟨[.ref t, .ref sl], []⟩) (fun _ R s => (s.heap.IsSliceOf sl .none .none (.int (-1) u) ∧ PyProof.Rows.IsTup s.heap t items ∧ items.size ≤ sizeLine) ∧ R (.ok (.ret (.ref s.heap.objs.size))) { s with heap := s.heap.push { cls := .type "tuple", data := .seq items.toList.reverse.toArray } }) := by
  refine Meets.of_wp fun P w A R s hs => ?_
  obtain ⟨⟨h1, h2, h3⟩, hR⟩ := hs
  have its : ∀ {A : Around} {E : Value → Shared → Prop} {Q : Array Value → Shared → Prop}, Q items s → wpAny (model P w) A (Builtin.Tuple.tupleItemsOf (.ref t)) Q E s := fun z => PyProof.Rows.tupleItemsOf_ h2 z
  have ty : s.TypeIs (.ref sl) "slice" := h1.elim fun o z => ⟨o, z.1, z.2.1⟩
  have cut : ∀ {A : Around} {E : Value → Shared → Prop} {Q : Int × Int × Nat → Shared → Prop}, Q ((items.size : Int) - 1, -1, items.size) s → wpAny (model P w) A (Builtin.Slice.sliceApplied (.ref sl) (pure (items.size : Int))) Q E s := fun z => back_cut h1 z
  wp_walk using its, cut
  rw [back_items]
  have small : ¬ items.toList.reverse.toArray.size > sizeLine := by
    simp only [List.size_toArray, List.length_reverse, Array.length_toList]
    omega
  rw [if_neg small]
  wp_walk
  exact ⟨_, rfl, hR⟩
section
variable {X : Cx}
def tRevT (K : PySem.W.Frag) (te : TE) : TE := fun σ H Q => te σ H fun x H1 => ∃ a xs, x = .ref a ∧ SqT K H1 a xs ∧ ∀ p, H1 p = none → Q (.ref p) (upd H1 p (.tup xs.reverse))
open PySem.Spec PyProof.Rows in
theorem pe_revT {e : Expr} {te : TE} {k : Nat} {p1 p2 p3 pos : Pos} (he : PE X e te) : PE X (.Subscript e (.Slice none none (some (.UnaryOp .USub (.Constant (.int 1) k p1) p2)) p3) pos) (tRevT X.K te) := by
  constructor
  intro pins s σ H Q I h
  have step_ : PO X (some (.UnaryOp .USub (.Constant (.int 1) k p1) p2)) (tPart (tUn (rU fun i => .int (-i)) (tC (.int 1)))) := po_some (pe_un un_neg pe_int)
  apply Subscript_
  refine thn (he.run pins s σ H _ I h) ?_
  rintro _ s1 ⟨_, G, I1, r1, a, xs, rfl, sq, q⟩
  cases r1
  apply wpAny_Slice
  refine thn (po_none.run pins s1 σ G (fun o Z => o = none ∧ Z = G) I1 ⟨rfl, rfl⟩) ?_
  rintro _ s2 ⟨_, G2, I2, lo, rfl, e2⟩
  subst e2
  refine thn (po_none.run pins s2 σ G2 (fun o Z => o = none ∧ Z = G2) I2 ⟨rfl, rfl⟩) ?_
  rintro _ s3 ⟨_, G3, I3, hi, rfl, e3⟩
  subst e3
  refine thn (step_.run pins s3 σ G3 (fun o Z => o = some (-1) ∧ Z = G3) I3 ⟨1, rfl, -1, rfl, rfl, rfl⟩) ?_
  rintro vs s4 ⟨_, G4, I4, st, rfl, e4⟩
  subst e4
  cases lo
  cases hi
  cases st with
  | int _ u =>
    have J := I4.kept (t' := s4.toks) (h' := s4.heap.push { cls := .type "slice", data := .fields #[.none, .none, .int (-1) u] }) fun _ _ z => Heap.get?_push_of_some _ z
    obtain ⟨its, rel, tup, small⟩ := J.tuple sq
    have len := rel.length
    refine tail_any (ops := [.ref a, .ref s4.heap.objs.size]) tup.typeIs slot_tuple_getitem.lookup ?_ (by with_unfolding_all rfl)
    have bounds := Heap.IsSliceOf.new s4.heap .none .none (.int (-1) u)
    have key : ∀ {A : Around} {E : Value → Shared → Prop} {Q : Value → Shared → Prop} {S : Shared}, S.TypeIs (.ref a) "tuple" → Q (.ref s4.heap.objs.size) S → wpAny (model X.prog X.w) A (sequenceKey (.ref a) (.ref s4.heap.objs.size) "__getitem__") Q E S := fun t z => wpAny_sequenceKey t (by decide) z
    let S : Shared := { s4 with heap := s4.heap.push { cls := .type "slice", data := .fields #[.none, .none, .int (-1) u] } }
    have got : ∀ {Q' : Option Value → Shared → Prop}, Q' (some (.ref S.heap.objs.size)) { S with heap := S.heap.push { cls := .type "tuple", data := .seq its.toArray.toList.reverse.toArray } } → wpAny (model X.prog X.w) X.A (callSpecial? (.ref a) (Str.ofString "__getitem__") [.ref s4.heap.objs.size]) Q' X.xe S := fun z =>
      wpAny_callSpecial?_slot tup.typeIs slot_tuple_getitem (call_meets slot_tuple_getitem tup.typeIs entry_tuple_getitem (args_tuple_getitem _ _) (back_meets (items := its.toArray) (u := u)) ⟨⟨bounds, tup, by rw [List.size_toArray, ← len]; exact small⟩, z⟩)
    unfold getItem
    wp_walk using key tup.typeIs, got
    exact ⟨.ref _, _, J.laid (t' := s4.toks) (o := .tup xs.reverse) (fun _ _ z => Heap.get?_push_of_some _ z) (Nat.le_refl _) ⟨by rw [List.length_reverse]; exact small, _, rel.reverse, IsTup.new _ _⟩, rfl, q _ (J.hok.fresh (Nat.le_refl _))⟩
end
end Bo


namespace Bo
open PySem L2
/-! ### enumerate(tuple): out of VsG's, for both kinds -/
abbrev ItE (K : PySem.W.Frag) (a : Addr) : It := ItN K .T a
abbrev iEnumT (K : PySem.W.Frag) (ta : TA) : TI := iEnumK .T K ta
theorem pi_enumT {X : Cx} {e : Expr} {ta : TA} {p pos tpos : Pos} {elts : List Expr} {kk : Nat} (hg : Gl X "enumerate") (hm : X.mg "enumerate" = none) (ha : PA X [e] ta) (hs : starEach [e] X.env = [(false, eval e X.env)] := by rfl) :
    PI X (.Tuple elts kk tpos) (.Call (.Name "enumerate" p) [e] [] pos) (iEnumT X.K ta) := pi_enumK .T hg hm ha hs
/-- a tuple by places and items, left as it is: what is left to walk becomes less -/
theorem for_enumT {K : PySem.W.Frag} {a : Addr} {xs : List V} {g : TG} {tb : TS} {D : Ends} {σ : L2.St} {H : Hp} (Pv : Nat → L2.St → Hp → Prop) (h0 : Pv 0 σ H) (hl : ∀ i σ H, i ≤ xs.length → Pv i σ H → SqT K H a xs)
    (hs : ∀ i x σ H T, xs[i]? = some x → Pv i σ H → H T = none → g (.ref T) σ (upd H T (.tup [.int (i : Nat), x])) fun σ2 H2 => tb { D with nx := Pv (i + 1), ct := Pv (i + 1), bk := D.nx } σ2 H2) (hd : ∀ σ H, Pv xs.length σ H → D.nx σ H) :
    ∃ W : Nat → Nat → L2.St → Hp → Prop, (∃ m, W 0 m σ H) ∧ ∀ i m σ H, W i m σ H →
      ((ItE K a).stop i H ∧ D.nx σ H) ∨ ((ItE K a).go i H ∧ ∃ N : L2.St → Hp → Prop, (∀ σ' H', N σ' H' → ∃ m', m' < m ∧ W (i + 1) m' σ' H') ∧ ∀ x H', (ItE K a).yld i H x H' → g x σ H' fun σ2 H2 => tb { D with nx := N, ct := N, bk := D.nx } σ2 H2) := by
  let W : Nat → Nat → L2.St → Hp → Prop := fun i m σ H => (m + i = xs.length) ∧ Pv i σ H
  refine ⟨W, ⟨xs.length, Nat.add_zero _, h0⟩, ?_⟩
  intro i m σ H ⟨e, p⟩
  have sq : SqT K H a xs := hl i σ H (by omega) p
  cases m with
  | zero =>
    have e' : i = xs.length := by omega
    exact .inl ⟨⟨xs, sq, e'⟩, hd σ H (e' ▸ p)⟩
  | succ m =>
    obtain ⟨x, ex⟩ : ∃ x, xs[i]? = some x := ⟨_, List.getElem?_eq_getElem (show i < xs.length by omega)⟩
    refine .inr ⟨⟨xs, x, sq, ex⟩, Pv (i + 1), fun σ' H' z => ⟨m, Nat.lt_succ_self m, by omega, z⟩, ?_⟩
    rintro _ _ ⟨q, u, y, rfl, free, rfl, rfl, ey⟩
    exact hs i y σ H q (ey xs sq) p free
theorem r_enumT {K : PySem.W.Frag} {σ : L2.St} {H : Hp} {tA : TA} {R : It → Hp → Prop} (h : tA σ H fun vs H1 => ∃ a xs, vs = [.ref a] ∧ SqT K H1 a xs ∧ R (ItE K a) H1) : iEnumT K tA σ H R := h
/-! ### an empty tuple, many times -/
theorem tuple_mul0 (l : Addr) (n : Nat) (dd : Option Addr) (sl : Array (Option Value)) (x : Int) (u : Tok) (c0 : (decide (x < -(2 ^ 63)) || decide (x ≥ 2 ^ 63)) = false) :
    Meets (Builtin.«tuple.__mul__» ⟨[.ref l, .int x u], []⟩) (fun _ R s => s.heap.get? l = some { cls := .type "tuple", dict := dd, data := .seq #[] n, slots := sl } ∧ R (.ok (.ret (Value.ref l))) s) :=
  .of_wp fun prog w A R s h => by
    obtain ⟨hp, g, d, tk, os⟩ := s
    obtain ⟨hl, h⟩ := h
    have f1 := AutoSeq1.idx_int
    wp_walk using AutoSeq1.wpAny_loadPart' hl
    repeat (first
      | (refine wpAny_ite_false (decide_eq_false (by rw [c0]; exact Bool.false_ne_true)) ?_; wp_walk using AutoSeq1.wpAny_loadPart' hl))
    exact ⟨_, rfl, h⟩
def rRepA (K : PySem.W.Frag) : R2 := fun x y H Q => ∃ l k xs, x = .ref l ∧ y = .int k ∧ SqT K H l xs ∧ 2 ≤ k ∧ k ≤ 1000 ∧ xs.length ≤ 1000 ∧ (xs = [] → Q (.ref l) H) ∧ (xs ≠ [] → ∀ p, H p = none → Q (.ref p) (upd H p (.tup (List.replicate k.toNat xs).flatten)))
open PySem.Spec PyProof.Rows in
theorem op_repA {X : Cx} : OpR X (binaryOp .Mult) (rRepA X.K) := by
  intro pins s σ H x y v u Q I rx ry h
  obtain ⟨l, k, xs, rfl, rfl, hT, h1, h2, hz, q0, q⟩ := h
  by_cases hne : xs = []
  · subst hne
    cases rx
    obtain ⟨t, rfl⟩ := ry
    obtain ⟨its, r, ⟨⟨cls, dd, data, sl⟩, ho, hc, n, hd⟩, hs⟩ := I.tuple hT
    simp only at hc hd
    subst hc hd
    cases r
    have c0 : (decide (k < -(2 ^ 63)) || decide (k ≥ 2 ^ 63)) = false := by
      rw [decide_eq_false (by omega), decide_eq_false (by omega)] <;> rfl
    refine wpAny_binaryOp_repeat_ref (T := "tuple") (U := "int") (by decide) ⟨_, ho, rfl⟩ (fun s' => typeIs_int s' k t) noFill_tuple_mul F.fills_int_mul F.slot_int_rmul repeat_tuple F.slot_int_index.lookup
      (call_meets F.slot_int_rmul (typeIs_int s k t) F.entry_int_rmul (F.args_int_rmul_2 _ _) (int_rmul_tuple k t l _ n dd sl)
        ⟨ho, rfl, ⟨_, ho, rfl⟩, call_meets F.slot_tuple_mul ⟨_, ho, rfl⟩ F.entry_tuple_mul (F.args_tuple_mul_2 _ _) (tuple_mul0 l n dd sl k t c0) ⟨ho, ?_⟩⟩)
    exact ⟨.ref l, H, I, rfl, q0 rfl⟩
  · exact op_repT pins s σ H _ _ v u Q I rx ry ⟨l, k, xs, rfl, rfl, hT, hne, h1, h2, hz, q hne⟩
/-! ### tuples' operations by what their items are -/
section
variable {σ : L2.St} {H : Hp} {Q : VK} {K : PySem.W.Frag} {te : TE}
theorem r_sl {r : V → Option Int → Option Int → Hp → VK → Prop} {tl th : TO} (h : te σ H fun x H1 => tl σ H1 fun l H2 => th σ H2 fun u H3 => r x l u H3 Q) : tSl r te tl th σ H Q := h
theorem r_nopart {R : Option Int → Hp → Prop} (h : R none H) : tNoPart σ H R := h
theorem r_part {R : Option Int → Hp → Prop} (h : te σ H fun x H1 => ∃ i, x = .int i ∧ R (some i) H1) : tPart te σ H R := h
def cutL {α : Type} (l : List α) (lo hi : Option Int) : List α := (l.drop (HT.sIx l.length 0 lo)).take (HT.sIx l.length l.length hi - HT.sIx l.length 0 lo)
theorem cut_mem {α : Type} {l : List α} {lo hi : Option Int} : ∀ x ∈ cutL l lo hi, x ∈ l := fun _ h => List.mem_of_mem_drop (List.mem_of_mem_take h)
theorem cut_len {α : Type} {l : List α} {lo hi : Option Int} : (cutL l lo hi).length ≤ l.length := by
  unfold cutL
  rw [List.length_take, List.length_drop]
  omega
theorem cut_map {α β : Type} {f : α → β} {l : List α} {lo hi : Option Int} : cutL (l.map f) lo hi = (cutL l lo hi).map f := by
  unfold cutL
  rw [List.length_map, List.map_take, List.map_drop]
theorem cut_take {α : Type} {l : List α} {i : Int} (h : 0 ≤ i) : cutL l none (some i) = l.take i.toNat := by
  unfold cutL
  have e1 : HT.sIx l.length 0 none = 0 := rfl
  have e2 : HT.sIx l.length l.length (some i) = min i.toNat l.length := by
    show (if i < 0 then (i + (l.length : Int)).toNat else min i.toNat l.length) = _
    rw [if_neg (by omega)]
  rw [e1, e2, List.drop_zero, Nat.sub_zero, ← List.take_take, List.take_length]
theorem cut_drop {α : Type} {l : List α} {i : Int} (h : 0 ≤ i) : cutL l (some i) none = l.drop i.toNat := by
  unfold cutL
  have e1 : HT.sIx l.length l.length none = l.length := rfl
  have e2 : HT.sIx l.length 0 (some i) = min i.toNat l.length := by
    show (if i < 0 then (i + (l.length : Int)).toNat else min i.toNat l.length) = _
    rw [if_neg (by omega)]
  rw [e1, e2, List.take_of_length_le (by rw [List.length_drop]; omega)]
  by_cases c : i.toNat ≤ l.length
  · rw [Nat.min_eq_left c]
  · rw [Nat.min_eq_right (by omega), List.drop_length, List.drop_eq_nil_of_le (by omega)]
theorem dpa_take : ∀ {vs : List V} {ds : List PyData} (n : Nat), DpAll K H vs ds → DpAll K H (vs.take n) (ds.take n)
  | _, _, 0, _ => .nil
  | _, _, _ + 1, .nil => .nil
  | _, _, n + 1, .cons a t => .cons a (dpa_take n t)
theorem dpa_drop : ∀ {vs : List V} {ds : List PyData} (n : Nat), DpAll K H vs ds → DpAll K H (vs.drop n) (ds.drop n)
  | _, _, 0, h => h
  | _, _, _ + 1, .nil => .nil
  | _, _, n + 1, .cons _ t => dpa_drop n t
theorem dpa_rev : ∀ {vs : List V} {ds : List PyData}, DpAll K H vs ds → DpAll K H vs.reverse ds.reverse
  | _, _, .nil => .nil
  | _, _, .cons a t => by
    rw [List.reverse_cons, List.reverse_cons]
    exact dpa_app (dpa_rev t) (.cons a .nil)
theorem dpa_rep {vs : List V} {ds : List PyData} (h : DpAll K H vs ds) : ∀ n : Nat, DpAll K H (List.replicate n vs).flatten (List.replicate n ds).flatten
  | 0 => .nil
  | n + 1 => by
    rw [List.replicate_succ, List.replicate_succ, List.flatten_cons, List.flatten_cons]
    exact dpa_app h (dpa_rep h n)
/-- t[lo:hi] -/
theorem t_sl {a : Addr} {xs : List V} {ds : List PyData} {lo hi : Option Int} (s : SqT K H a xs) (d : DpAll K H xs ds) (k : ∀ (b : Addr) (ys : List V) (H' : Hp), Same H H' → SqT K H' b ys → DpAll K H' ys (cutL ds lo hi) → Q (.ref b) H') : rSlA K (.ref a) lo hi H Q := by
  have hl := dpa_len d
  refine ⟨a, xs, rfl, s, fun w => ?_, fun _ p hp => ?_⟩
  · refine k a xs H (Same.refl _) s ?_
    have e : cutL ds lo hi = ds := by
      unfold cutL
      rw [← hl, w.1, w.2, List.drop_zero, Nat.sub_zero, hl, List.take_length]
    rw [e]
    exact d
  · refine k p _ _ (sm_new hp) (SqT.of upd_same) ?_
    have q := dpa_take (HT.sIx xs.length xs.length hi - HT.sIx xs.length 0 lo) (dpa_drop (HT.sIx xs.length 0 lo) (dpa_mono (sm_new hp (o := .tup (cutV xs lo hi))) d))
    unfold cutL
    rw [← hl]
    exact q
/-- t + u -/
theorem t_cat {a b : Addr} {xs ys : List V} {ds es : List PyData} (s : SqT K H a xs) (d : DpAll K H xs ds) (s2 : SqT K H b ys) (d2 : DpAll K H ys es) (hl : ds.length + es.length ≤ 100000)
    (k : ∀ (c : Addr) (zs : List V) (H' : Hp), Same H H' → SqT K H' c zs → DpAll K H' zs (ds ++ es) → Q (.ref c) H') : rCatA K (.ref a) (.ref b) H Q := by
  have h1 := dpa_len d
  have h2 := dpa_len d2
  have szl : sizeLine = 16777216 := sizeLine_eq
  refine ⟨a, b, xs, ys, rfl, rfl, s, s2, by omega, fun e => ?_, fun _ e => ?_, fun _ _ p hp => ?_⟩
  · subst e
    cases d
    exact k b ys H (Same.refl _) s2 d2
  · subst e
    cases d2
    refine k a xs H (Same.refl _) s ?_
    rw [List.append_nil]
    exact d
  · exact k p _ _ (sm_new hp) (SqT.of upd_same) (dpa_mono (sm_new hp) (dpa_app d d2))
/-- t * n -/
theorem t_rep {a : Addr} {xs : List V} {ds : List PyData} {n : Int} (s : SqT K H a xs) (d : DpAll K H xs ds) (h2 : 2 ≤ n) (h3 : n ≤ 1000) (hl : ds.length ≤ 1000)
    (k : ∀ (c : Addr) (zs : List V) (H' : Hp), Same H H' → SqT K H' c zs → DpAll K H' zs (List.replicate n.toNat ds).flatten → Q (.ref c) H') : rRepA K (.ref a) (.int n) H Q := by
  have h1 := dpa_len d
  refine ⟨a, n, xs, rfl, rfl, s, h2, h3, by omega, fun e => ?_, fun _ p hp => ?_⟩
  · subst e
    cases d
    refine k a [] H (Same.refl _) s ?_
    rw [List.flatten_replicate_nil]
    exact .nil
  · exact k p _ _ (sm_new hp) (SqT.of upd_same) (dpa_mono (sm_new hp) (dpa_rep d _))
/-- t[::-1] -/
theorem t_rev {a : Addr} {xs : List V} {ds : List PyData} (s : SqT K H a xs) (d : DpAll K H xs ds) (k : ∀ (c : Addr) (zs : List V) (H' : Hp), Same H H' → SqT K H' c zs → DpAll K H' zs ds.reverse → Q (.ref c) H') :
    ∃ b ys, V.ref a = .ref b ∧ SqT K H b ys ∧ ∀ p, H p = none → Q (.ref p) (upd H p (.tup ys.reverse)) :=
  ⟨a, xs, rfl, s, fun p hp => k p _ _ (sm_new hp) (SqT.of upd_same) (dpa_mono (sm_new hp) (dpa_rev d))⟩
theorem r_revT (h : te σ H fun x H1 => ∃ a xs, x = .ref a ∧ SqT K H1 a xs ∧ ∀ p, H1 p = none → Q (.ref p) (upd H1 p (.tup xs.reverse))) : tRevT K te σ H Q := h
/-- an item of a list by a draw -/
theorem pickV {q : Addr} {xs : List V} {r : Int} (P : V → Prop) (h : H q = some (.lst xs)) (h0 : 0 ≤ r) (h1 : r < (xs.length : Int)) (hP : ∀ v ∈ xs, P v) :
    ∃ v, P v ∧ ∀ (Q : VK), Q v H → rIxL K (.ref q) (.int r) H Q := by
  obtain ⟨j, rfl⟩ : ∃ j : Nat, r = (j : Int) := ⟨r.toNat, by omega⟩
  have hj : j < xs.length := by omega
  exact ⟨xs[j], hP _ (List.getElem_mem hj), fun Q k => r_ixL (SqL.of h) (at_of (j := j) rfl (List.getElem?_eq_getElem hj)) k⟩
theorem at_back {xs : List V} (h : 0 < xs.length) : atI xs (-1) = xs[xs.length - 1]? := by
  unfold atI ixN
  rw [if_neg (by omega), if_pos (by omega)]
  show xs[((-1 : Int) + xs.length).toNat]? = _
  have e : ((-1 : Int) + xs.length).toNat = xs.length - 1 := by omega
  rw [e]
end
end Bo

set_option maxHeartbeats 400000
namespace Bo
open PySem L2
def topS (i : Nat) : Stmt := PySem.Challenge.pw_bestodds_k03_faults_of_systems.main.body.getD i (.Pass ⟨0, 0, 0, 0⟩)
abbrev s_are_ends : Stmt := topS 8
abbrev s_fault_in_state : Stmt := topS 7
abbrev s_fault : Stmt := topS 6
abbrev s_l_tape : Stmt := topS 10
abbrev s_l_draw : Stmt := topS 11
abbrev s_l_equal : Stmt := topS 12
abbrev s_l_take : Stmt := topS 13
abbrev s_l_ends : Stmt := topS 14
abbrev s_l_choices : Stmt := topS 15
abbrev s_l_system : Stmt := topS 16
abbrev s_l_fits : Stmt := topS 18
abbrev s_l_due : Stmt := topS 19
abbrev s_l_changed : Stmt := topS 20
abbrev s_law : Stmt := topS 21
structure Env (K : PySem.W.Frag) (mg : Str → Option Value) where
  a_are_ends : Addr
  d_are_ends : FuncData
  F_are_ends : Fun K "are_ends" "are_ends" s_are_ends a_are_ends d_are_ends
  b_are_ends : Binds K d_are_ends ["many", "ends"] []
  g_are_ends : mg "are_ends" = some (.ref a_are_ends)
  a_fault_in_state : Addr
  d_fault_in_state : FuncData
  F_fault_in_state : Fun K "fault_in_state" "fault_in_state" s_fault_in_state a_fault_in_state d_fault_in_state
  b_fault_in_state : Binds K d_fault_in_state ["many", "state", "choices"] []
  g_fault_in_state : mg "fault_in_state" = some (.ref a_fault_in_state)
  a_fault : Addr
  d_fault : FuncData
  F_fault : Fun K "fault" "fault" s_fault a_fault d_fault
  b_fault : Binds K d_fault ["system"] []
  g_fault : mg "fault" = some (.ref a_fault)
  a_l_tape : Addr
  d_l_tape : FuncData
  F_l_tape : Fun K "_law_tape" "_law_tape" s_l_tape a_l_tape d_l_tape
  b_l_tape : Binds K d_l_tape ["script"] []
  g_l_tape : mg "_law_tape" = some (.ref a_l_tape)
  a_l_draw : Addr
  d_l_draw : FuncData
  F_l_draw : Fun K "_law_draw" "_law_draw" s_l_draw a_l_draw d_l_draw
  b_l_draw : Binds K d_l_draw ["tape", "at", "many"] []
  g_l_draw : mg "_law_draw" = some (.ref a_l_draw)
  a_l_equal : Addr
  d_l_equal : FuncData
  F_l_equal : Fun K "_law_equal" "_law_equal" s_l_equal a_l_equal d_l_equal
  b_l_equal : Binds K d_l_equal ["actual", "due"] []
  g_l_equal : mg "_law_equal" = some (.ref a_l_equal)
  a_l_take : Addr
  d_l_take : FuncData
  F_l_take : Fun K "_law_take" "_law_take" s_l_take a_l_take d_l_take
  b_l_take : Binds K d_l_take ["state", "many"] []
  g_l_take : mg "_law_take" = some (.ref a_l_take)
  a_l_ends : Addr
  d_l_ends : FuncData
  F_l_ends : Fun K "_law_ends" "_law_ends" s_l_ends a_l_ends d_l_ends
  b_l_ends : Binds K d_l_ends ["state", "many"] []
  g_l_ends : mg "_law_ends" = some (.ref a_l_ends)
  a_l_choices : Addr
  d_l_choices : FuncData
  F_l_choices : Fun K "_law_choices" "_law_choices" s_l_choices a_l_choices d_l_choices
  b_l_choices : Binds K d_l_choices ["state", "many", "most"] []
  g_l_choices : mg "_law_choices" = some (.ref a_l_choices)
  a_l_system : Addr
  d_l_system : FuncData
  F_l_system : Fun K "_law_system" "_law_system" s_l_system a_l_system d_l_system
  b_l_system : Binds K d_l_system ["state", "most"] []
  g_l_system : mg "_law_system" = some (.ref a_l_system)
  a_l_fits : Addr
  d_l_fits : FuncData
  F_l_fits : Fun K "_law_fits" "_law_fits" s_l_fits a_l_fits d_l_fits
  b_l_fits : Binds K d_l_fits ["ends", "many"] []
  g_l_fits : mg "_law_fits" = some (.ref a_l_fits)
  a_l_due : Addr
  d_l_due : FuncData
  F_l_due : Fun K "_law_due" "_law_due" s_l_due a_l_due d_l_due
  b_l_due : Binds K d_l_due ["system"] []
  g_l_due : mg "_law_due" = some (.ref a_l_due)
  a_l_changed : Addr
  d_l_changed : FuncData
  F_l_changed : Fun K "_law_changed" "_law_changed" s_l_changed a_l_changed d_l_changed
  b_l_changed : Binds K d_l_changed ["state", "system"] []
  g_l_changed : mg "_law_changed" = some (.ref a_l_changed)
  a_law : Addr
  d_law : FuncData
  F_law : Fun K "law" "law" s_law a_law d_law
  b_law : Binds K d_law ["script"] []
  g_law : mg "law" = some (.ref a_law)
  z_bool : mg "bool" = none
  z_enumerate : mg "enumerate" = none
  z_int : mg "int" = none
  z_isinstance : mg "isinstance" = none
  z_len : mg "len" = none
  z_list : mg "list" = none
  z_range : mg "range" = none
  z_str : mg "str" = none
  z_tuple : mg "tuple" = none
  k_MOST_CHOICES : Tok
  c_MOST_CHOICES : mg "MOST_CHOICES" = some (.int 6 k_MOST_CHOICES)
  k_MOST_COST : Tok
  c_MOST_COST : mg "MOST_COST" = some (.int 1000 k_MOST_COST)
  k_MOST_ENDS : Tok
  c_MOST_ENDS : mg "MOST_ENDS" = some (.int 6 k_MOST_ENDS)
  k_MOST_STATES : Tok
  c_MOST_STATES : mg "MOST_STATES" = some (.int 20 k_MOST_STATES)
  k_MOST_WEIGHT : Tok
  c_MOST_WEIGHT : mg "MOST_WEIGHT" = some (.int 1000 k_MOST_WEIGHT)
/-! ### steps of a reading -/
local macro_rules | `(tactic| walk_at "rd1") => `(tactic| (first
  | with_reducible refine r_seq ?_
  | with_reducible refine r_asg ?_
  | with_reducible refine r_name ?_
  | ((with_reducible refine r_var ?_); (refine ⟨_, rfl, ?_⟩))
  | with_reducible refine r_c ?_
  | with_reducible refine r_op ?_
  | with_reducible refine r_un ?_
  | with_reducible refine r_i0 ?_
  | with_reducible refine r_u ?_
  | with_reducible refine r_eqI ?_
  | with_reducible refine r_neI ?_
  | with_reducible refine r_eqS ?_
  | with_reducible refine r_eqB ?_
  | with_reducible refine r_tst ?_
  | with_reducible refine r_tB ?_
  | with_reducible refine r_bl ?_
  | with_reducible refine r_not ?_
  | with_reducible refine r_and ?_
  | with_reducible refine r_or ?_
  | with_reducible refine r_andV ?_
  | with_reducible refine r_orV ?_
  | with_reducible refine r_notV ?_
  | with_reducible refine r_ifs ?_
  | with_reducible refine r_ifE ?_
  | with_reducible refine r_ret ?_
  | with_reducible refine r_retN ?_
  | with_reducible refine r_next ?_
  | with_reducible refine r_brk ?_
  | with_reducible refine r_cont ?_
  | with_reducible refine r_drop ?_
  | with_reducible refine r_nil ?_
  | with_reducible refine r_cons ?_
  | with_reducible refine r_tup ?_
  | with_reducible refine r_lst ?_
  | with_reducible refine r_cb ?_
  | with_reducible refine r_call ?_
  | with_reducible refine r_chain ?_
  | ((with_reducible show V.non = V.non ∧ _); (refine ⟨rfl, ?_⟩))
  | with_reducible refine r_gsub ?_
  | with_reducible refine r_sl ?_
  | with_reducible refine r_nopart ?_
  | with_reducible refine r_part ?_
  | ((with_reducible show ∃ i, V.int _ = V.int i ∧ _); (refine ⟨_, rfl, ?_⟩))
  | with_reducible refine r_bm ?_
  | with_reducible refine r_bm0 ?_
  | with_reducible refine r_dput ?_
  | with_reducible refine r_dnew ?_
  | with_reducible refine r_for ?_
  | with_reducible refine r_iList ?_
  | with_reducible refine r_iTup ?_
  | with_reducible refine r_rng1 ?_
  | with_reducible refine r_rng2 ?_
  | ((with_reducible show (∃ j, [V.int _] = [V.int j] ∧ _) ∨ (∃ k, [V.int _] = [V.bl k] ∧ _)); (refine Or.inl ⟨_, rfl, ?_⟩))
  | ((with_reducible show ∃ j, [V.int _] = [V.int j] ∧ _); (refine ⟨_, rfl, ?_⟩))
  | ((with_reducible show (-(2 ^ 62) : Int) ≤ _ ∧ _ < (2 ^ 62 : Int) ∧ _); (refine ⟨by decide, by decide, ?_⟩))
  | with_reducible refine r_ifT ?_
  | with_reducible refine r_ifF ?_
  | with_reducible refine r_ifNT ?_
  | with_reducible refine r_ifNF ?_
  | (refine r_iC ?_ ?_; (first | exact Or.inl ⟨by decide, by decide⟩ | exact Or.inr ⟨by decide, by decide⟩ | exact ⟨by decide, by decide, by decide⟩ | exact ⟨by decide, by decide⟩ | (show (0 : Int) < _; decide)))))
local macro_rules | `(tactic| walk_at "rd") => `(tactic| repeat walk_at "rd1")
/-! ### the law's draws -/
def TapeOk (ts : List Int) : Prop := (∀ x ∈ ts, 0 ≤ x ∧ x < 2147483629) ∧ ts.length ≤ 3000
theorem map_get {l : List Int} {i : Nat} {y : V} (h : (l.map V.int)[i]? = some y) : ∃ z, l[i]? = some z ∧ y = V.int z := by
  rw [List.getElem?_map] at h
  cases e : l[i]? with
  | none => rw [e] at h; cases h
  | some z => rw [e] at h; exact ⟨z, rfl, (Option.some.inj h).symm⟩
def sp_l_tape (K : PySem.W.Frag) : Sp := fun vs H Q _ => ∃ (a : Addr) (ns : List Int), vs = [.ref a] ∧ SqL K H a (ns.map V.int) ∧ ns.length ≤ 63 ∧
  ∀ (t : Addr) (ts : List Int) (H' : Hp), Same H H' → H t = none → H' t = some (.lst (ts.map V.int)) → TapeOk ts → Q (.ref t) H'
theorem ap_int (ts : List Int) (z : Int) : ts.map V.int ++ [V.int z] = (ts ++ [z]).map V.int := by simp
theorem tape_app {ts : List Int} {z : Int} (h : ∀ x ∈ ts, 0 ≤ x ∧ x < 2147483629) (h0 : 0 ≤ z) (h1 : z < 2147483629) : ∀ x ∈ ts ++ [z], 0 ≤ x ∧ x < 2147483629 := by
  intro x hx
  rcases List.mem_append.mp hx with q | q
  · exact h x q
  · rw [List.mem_singleton.mp q]
    exact ⟨h0, h1⟩
theorem same_mut {H H' : Hp} {t : Addr} {o : HO} (e : Same H H') (h : H t = none) : Same H (upd H' t o) := fun b u q => by
  rw [upd_ne (ne_of_none q h)]
  exact e b u q
theorem sc_l_tape : FnScope ["script", "tape", "cell", "number", "k", "first"] ["script"] (defScope s_l_tape) := ⟨rfl, rfl, rfl, by decide +kernel, rfl, by decide +kernel, by decide +kernel⟩
theorem ok_l_tape {P : Program} {w : World} {K : PySem.W.Frag} {mg : Str → Option Value} {base : Heap} (T : Env K mg) : FnOk P w K mg base CX0 1 T.a_l_tape T.d_l_tape ["script"] (sp_l_tape K) := by
  refine T.F_l_tape.ok sc_l_tape (fun vs H Q E h => ?_) (fun cdv A outer s H vs Q E hr h => ?_)
  · obtain ⟨a, ns, rfl, _⟩ := h
    rfl
  · obtain ⟨a, ns, rfl, hS, hlen, k⟩ := h
    refine ⟨_, (pss_cons (ps_set (i := 1) sc_l_tape.nd rfl (Or.inl rfl) (pe_lst pa_nil))
      (pss_cons (ps_for PassesOwn.never rfl (pi_list (pv 0)) (pg_name (i := 2) sc_l_tape.nd rfl (Or.inl rfl)) (pss_cons (ps_set (i := 3) sc_l_tape.nd rfl (Or.inl rfl) (pe_op op_mul pe_int (pe_callTy call_int1 (by rfl) T.z_int (by decide +kernel) (pa_cons (pv 2) pa_nil))))
      (C8.pss_cut (ps_if (pt_cmpR op_lt (pv 3) pe_int (nomark _)) (pss_one (ps_set (i := 3) sc_l_tape.nd rfl (Or.inl rfl) (pe_op op_sub (pe_un un_neg pe_int) (pv 3)))) pss_nil)
      (pss_one (ps_if (pt_cmpR op_ge (pv 3) (pe_op op_pow pe_int pe_int) (nomark _)) (pss_one (ps_for PassesOwn.never rfl (pi_range1 (by rfl) T.z_range (pa_cons pe_int pa_nil)) (pg_name (i := 4) sc_l_tape.nd rfl (Or.inl rfl)) (pss_one (ps_if (pt_cmpR op_gt (pv 3) pe_int (nomark _)) (pss_cons (ps_expr (pe_bm PySem.F.plainAttrs_list PySem.F.slot_list_append PySem.F.type_list_append mt_append (pv 1) (pa_cons (pe_op op_mod (pe_callTy call_int1 (by rfl) T.z_int (by decide +kernel) (pa_cons (pv 3) pa_nil)) pe_int) pa_nil)))
      (pss_one (ps_set (i := 3) sc_l_tape.nd rfl (Or.inl rfl) (pe_op op_fdiv (pv 3) pe_int)))) pss_nil)))) (pss_one (ps_for PassesOwn.never rfl (pi_range1 (by rfl) T.z_range (pa_cons pe_int pa_nil)) (pg_name (i := 4) sc_l_tape.nd rfl (Or.inl rfl)) (pss_cons (ps_set (i := 5) sc_l_tape.nd rfl (Or.inl rfl) (pe_op op_mod (pe_callTy call_int1 (by rfl) T.z_int (by decide +kernel) (pa_cons (pe_op op_add (pe_op op_add (pe_op op_mul (pv 3) pe_int) (pe_op op_mul (pv 4) pe_int)) pe_int) pa_nil)) pe_int))
      (pss_one (ps_expr (pe_bm PySem.F.plainAttrs_list PySem.F.slot_list_append PySem.F.type_list_append mt_append (pv 1) (pa_cons (pe_op op_mod (pe_callTy call_int1 (by rfl) T.z_int (by decide +kernel) (pa_cons (pe_op op_add (pe_op op_mul (pv 5) pe_int) (pe_op op_fdiv (pv 5) pe_int)) pa_nil)) pe_int) pa_nil))))))))))))
      (pss_one (ps_ret (pv 1))))), ?_⟩
    walk_at "rd"
    refine ⟨by decide, fun t ht => ?_⟩
    walk_at "rd"
    refine ⟨a, rfl, ⟨_, sm_l (sm_new ht) hS⟩, for_list (K := K) (a := a) (xs := ns.map V.int) (fun i σ H' => ∃ (ts : List Int) (v2 v3 v4 v5 : Option V), σ = [some (.ref a), some (.ref t), v2, v3, v4, v5] ∧ Same H H' ∧ H' t = some (.lst (ts.map V.int)) ∧ (∀ x ∈ ts, 0 ≤ x ∧ x < 2147483629) ∧ ts.length ≤ 40 * i)
      ⟨[], none, none, none, none, rfl, sm_new ht, upd_same, by simp, by simp⟩ (fun i σ H' _ ⟨_, _, _, _, _, _, s5, _⟩ => sm_l s5 hS) ?_ ?_⟩
    · rintro i y σ H' hi ⟨ts, v2, v3, v4, v5, rfl, s5, hT, hb, hl⟩
      have hi63 : i < 63 := by
        have q := (List.getElem?_eq_some_iff.mp hi).1
        rw [List.length_map] at q
        omega
      obtain ⟨z, hz, rfl⟩ := map_get hi
      walk_at "rd"
      refine r_cut (fun σ' H1 => ∃ m : Int, 0 ≤ m ∧ σ' = [some (.ref a), some (.ref t), some (.int z), some (.int m), v4, v5] ∧ H1 = H') ?_ ?_
      · walk_at "rd"
        refine r_if (fun c => ?_) (fun c => ?_)
        · walk_at "rd"
          exact ⟨_, by omega, rfl, rfl⟩
        · walk_at "rd"
          exact ⟨_, by omega, rfl, rfl⟩
      · rintro σ' H1 ⟨m, hm, rfl, rfl⟩
        walk_at "rd"
        refine r_if (fun c => ?_) (fun c => ?_)
        · walk_at "rd"
          refine for_range (n := 40) (fun j σ H2 => ∃ (m : Int) (us : List Int) (v4 : Option V), 0 ≤ m ∧ σ = [some (.ref a), some (.ref t), some (.int z), some (.int m), v4, v5] ∧ Same H H2 ∧ H2 t = some (.lst (us.map V.int)) ∧ (∀ x ∈ us, 0 ≤ x ∧ x < 2147483629) ∧ us.length ≤ 40 * i + j)
            ⟨m, ts, _, hm, rfl, s5, hT, hb, hl⟩ ?_ ?_
          · rintro j σ H2 hj ⟨m, us, v4, hm, rfl, s6, hU, hu, hul⟩
            walk_at "rd"
            refine r_if (fun c => ?_) (fun c => ?_)
            · walk_at "rd"
              refine r_tyL (SqL.of hU) ?_
              walk_at "rd"
              refine r_app hU (by rw [List.length_map]; omega) ?_
              walk_at "rd"
              refine ⟨_, us ++ [m % 1000], _, Int.ediv_nonneg hm (by decide), rfl, same_mut s6 ht, by rw [ap_int]; exact upd_same, tape_app hu (Int.emod_nonneg _ (by decide)) (by have := Int.emod_lt_of_pos m (show (0 : Int) < 1000 by decide); omega), by rw [List.length_append]; simp; omega⟩
            · walk_at "rd"
              exact ⟨m, us, _, hm, rfl, s6, hU, hu, by omega⟩
          · rintro σ H2 ⟨m, us, v4, hm, rfl, s6, hU, hu, hul⟩
            exact ⟨us, _, _, _, _, rfl, s6, hU, hu, by omega⟩
        · walk_at "rd"
          refine for_range (n := 3) (fun j σ H2 => ∃ (us : List Int) (v4 v5 : Option V), σ = [some (.ref a), some (.ref t), some (.int z), some (.int m), v4, v5] ∧ Same H H2 ∧ H2 t = some (.lst (us.map V.int)) ∧ (∀ x ∈ us, 0 ≤ x ∧ x < 2147483629) ∧ us.length ≤ 40 * i + j)
            ⟨ts, _, _, rfl, s5, hT, hb, hl⟩ ?_ ?_
          · rintro j σ H2 hj ⟨us, v4, v5, rfl, s6, hU, hu, hul⟩
            walk_at "rd"
            refine r_tyL (SqL.of hU) ?_
            walk_at "rd"
            refine r_app hU (by rw [List.length_map]; omega) ?_
            walk_at "rd"
            refine ⟨us ++ [_], _, _, rfl, same_mut s6 ht, by rw [ap_int]; exact upd_same, tape_app hu (Int.emod_nonneg _ (by decide)) (Int.emod_lt_of_pos _ (by decide)), by rw [List.length_append]; simp; omega⟩
          · rintro σ H2 ⟨us, v4, v5, rfl, s6, hU, hu, hul⟩
            exact ⟨us, _, _, _, _, rfl, s6, hU, hu, by omega⟩
    · rintro σ H' ⟨ts, v2, v3, v4, v5, rfl, s5, hT, hb, hl⟩
      walk_at "rd"
      exact k t ts H' s5 ht hT ⟨hb, by rw [List.length_map] at hl; omega⟩
/-- a draw below m out of a tape -/
def sp_l_draw (K : PySem.W.Frag) : Sp := fun vs H Q _ => ∃ (t : Addr) (ts : List Int) (at_ m : Int), vs = [.ref t, .int at_, .int m] ∧ SqL K H t (ts.map V.int) ∧ TapeOk ts ∧ 0 ≤ at_ ∧ at_ ≤ 2 ^ 41 ∧ 0 < m ∧
  ∀ r : Int, 0 ≤ r → r < m → Q (.int r) H
theorem at_map {ts : List Int} {i : Int} (h0 : 0 ≤ i) (h : i < (ts.length : Int)) : ∃ z, z ∈ ts ∧ atI (ts.map V.int) i = some (V.int z) := by
  obtain ⟨j, rfl⟩ : ∃ j : Nat, i = (j : Int) := ⟨i.toNat, by omega⟩
  have hj : j < ts.length := by omega
  refine ⟨ts[j], List.getElem_mem hj, at_of (j := j) rfl ?_⟩
  rw [List.getElem?_map, List.getElem?_eq_getElem hj]
  rfl
theorem modN {i m : Int} (h : 0 < m) : 0 ≤ i.fmod m ∧ i.fmod m < m := ⟨Int.fmod_nonneg_of_pos i h, Int.fmod_lt_of_pos i h⟩
theorem sc_l_draw : FnScope ["tape", "at", "many", "number"] ["tape", "at", "many"] (defScope s_l_draw) := ⟨rfl, rfl, rfl, by decide +kernel, rfl, by decide +kernel, by decide +kernel⟩
theorem ok_l_draw {P : Program} {w : World} {K : PySem.W.Frag} {mg : Str → Option Value} {base : Heap} (T : Env K mg) : FnOk P w K mg base CX0 1 T.a_l_draw T.d_l_draw ["tape", "at", "many"] (sp_l_draw K) := by
  refine T.F_l_draw.ok sc_l_draw (fun vs H Q E h => ?_) (fun cdv A outer s H vs Q E hr h => ?_)
  · obtain ⟨t, ts, at_, m, rfl, _⟩ := h
    rfl
  · obtain ⟨t, ts, at_, m, rfl, hT, ⟨hb, hl⟩, h0, h1, hm, k⟩ := h
    refine ⟨_, (pss_cons (ps_if (pt_cmpR op_lt (pv 1) (pe_callB call_len_seq (by rfl) T.z_len (by decide +kernel) (pa_cons (pv 0) pa_nil)) (nomark _)) (pss_one (ps_ret (pe_op op_modN (pe_callTy call_int1 (by rfl) T.z_int (by decide +kernel) (pa_cons (pe_ix ix_list (pv 0) (pv 1) (fun _ _ => rfl)) pa_nil)) (pv 2)))) pss_nil)
      (pss_cons (ps_set (i := 3) sc_l_draw.nd rfl (Or.inl rfl) pe_int)
      (C8.pss_cut (ps_if (pt_cmpR op_gt (pe_callB call_len_seq (by rfl) T.z_len (by decide +kernel) (pa_cons (pv 0) pa_nil)) pe_int (nomark _)) (pss_one (ps_set (i := 3) sc_l_draw.nd rfl (Or.inl rfl) (pe_ix ix_list (pv 0) (pe_op op_modN (pe_callTy call_int1 (by rfl) T.z_int (by decide +kernel) (pa_cons (pv 1) pa_nil)) (pe_callB call_len_seq (by rfl) T.z_len (by decide +kernel) (pa_cons (pv 0) pa_nil))) (fun _ _ => rfl)))) pss_nil)
      (pss_one (ps_ret (pe_op op_modN (pe_op op_mod (pe_callTy call_int1 (by rfl) T.z_int (by decide +kernel) (pa_cons (pe_op op_add (pe_op op_mul (pe_op op_mul (pe_op op_add (pv 3) (pv 1)) (pe_op op_add (pv 1) pe_int)) pe_int) (pe_op op_mul (pv 1) pe_int)) pa_nil)) pe_int) (pv 2))))))), ?_⟩
    walk_at "rd"
    refine ⟨t, _, rfl, .inl hT, ?_⟩
    walk_at "rd"
    refine r_if (fun c => ?_) (fun c => ?_)
    · walk_at "rd"
      obtain ⟨z, hz, ha⟩ := at_map h0 (by rw [List.length_map] at c; exact c)
      refine r_ixL hT ha ?_
      walk_at "rd"
      refine r_iC (by omega) ?_
      exact k _ (modN hm).1 (modN hm).2
    · walk_at "rd"
      refine r_cut (fun σ' H1 => ∃ n : Int, 0 ≤ n ∧ n < 2147483629 ∧ σ' = [some (.ref t), some (.int at_), some (.int m), some (.int n)] ∧ H1 = H) ?_ ?_
      · walk_at "rd"
        refine ⟨t, _, rfl, .inl hT, ?_⟩
        walk_at "rd"
        refine r_if (fun c => ?_) (fun c => ?_)
        · walk_at "rd"
          refine ⟨t, _, rfl, .inl hT, ?_⟩
          refine r_iC (by omega) ?_
          have hp : 0 < ((ts.map V.int).length : Int) := c
          obtain ⟨z, hz, ha⟩ := at_map (ts := ts) (modN (i := at_) hp).1 (by have := (modN (i := at_) hp).2; rw [List.length_map] at this ⊢; exact this)
          refine r_ixL hT ha ?_
          walk_at "rd"
          exact ⟨z, (hb z hz).1, (hb z hz).2, rfl, rfl⟩
        · walk_at "rd"
          exact ⟨1, by decide, by decide, rfl, rfl⟩
      · rintro σ' H1 ⟨n, n0, n1, rfl, rfl⟩
        walk_at "rd"
        refine r_iC (.inl ⟨by omega, by omega⟩) ?_
        walk_at "rd"
        refine r_iC (by omega) ?_
        exact k _ (modN hm).1 (modN hm).2
/-! ### the law's state: a list of the tape and the place -/
structure Tp (H : Hp) (p t : Addr) (ts : List Int) (n : Int) : Prop where
  at_ : ∃ i : Int, H p = some (.lst [.ref t, .int i]) ∧ 0 ≤ i ∧ i ≤ n
  tape : H t = some (.lst (ts.map V.int))
  ne : t ≠ p
  ok : TapeOk ts
section
variable {H H' : Hp} {p t E : Addr} {ts : List Int} {n m : Int} {o : HO}
theorem Tp.obj (T : Tp H p t ts n) : ∃ xs, H p = some (.lst xs) := by
  obtain ⟨i, h, _⟩ := T.at_
  exact ⟨_, h⟩
theorem Tp.same (T : Tp H p t ts n) (e : Same H H') : Tp H' p t ts n := by
  obtain ⟨⟨i, h, h0, h1⟩, tp, ne, ok⟩ := T
  exact ⟨⟨i, e _ _ h, h0, h1⟩, e _ _ tp, ne, ok⟩
theorem Tp.mono (T : Tp H p t ts n) (h : n ≤ m) : Tp H p t ts m := by
  obtain ⟨⟨i, e, h0, h1⟩, tp, ne, ok⟩ := T
  exact ⟨⟨i, e, h0, by omega⟩, tp, ne, ok⟩
theorem Tp.new (T : Tp H p t ts n) (h : E ≠ p) : H E = none → H p ≠ none := fun _ z => by
  obtain ⟨xs, hx⟩ := T.obj
  rw [hx] at z
  cases z
/-- a new place is neither -/
theorem Tp.fresh (T : Tp H p t ts n) (h : H E = none) : E ≠ p ∧ E ≠ t := by
  obtain ⟨xs, hx⟩ := T.obj
  exact ⟨(ne_of_none hx h).symm, (ne_of_none T.tape h).symm⟩
/-- another object is changed -/
theorem Tp.other (T : Tp H p t ts n) (h : E ≠ p ∧ E ≠ t) : Tp (upd H E o) p t ts n := by
  obtain ⟨⟨i, e, h0, h1⟩, tp, ne, ok⟩ := T
  exact ⟨⟨i, by rw [upd_ne h.1.symm]; exact e, h0, h1⟩, by rw [upd_ne h.2.symm]; exact tp, ne, ok⟩
theorem Tp.tk (T : Tp H p t ts n) (e : Fm p H H') : Tk H H' := by
  obtain ⟨xs, hx⟩ := T.obj
  exact e.tk hx
end
def sp_l_take : Sp := fun vs H Q _ => ∃ (p t : Addr) (ts : List Int) (n m : Int), vs = [.ref p, .int m] ∧ Tp H p t ts n ∧ n ≤ 2 ^ 40 ∧ 0 < m ∧
  ∀ (r : Int) (H' : Hp), 0 ≤ r → r < m → Tp H' p t ts (n + 1) → (∀ b, b ≠ p → H' b = H b) → Q (.int r) H'
theorem fm_off {p : Addr} {H H' : Hp} (e : ∀ b, b ≠ p → H' b = H b) : Fm p H H' := fun b o n h => by
  rw [e b n]
  exact h
theorem sc_l_take : FnScope ["state", "many"] ["state", "many"] (defScope s_l_take) := ⟨rfl, rfl, rfl, by decide +kernel, rfl, by decide +kernel, by decide +kernel⟩
theorem ok_l_take {P : Program} {w : World} {K : PySem.W.Frag} {mg : Str → Option Value} {base : Heap} (T : Env K mg) : FnOk P w K mg base CX0 2 T.a_l_take T.d_l_take ["state", "many"] sp_l_take := by
  refine T.F_l_take.ok sc_l_take (fun vs H Q E h => ?_) (fun cdv A outer s H vs Q E hr h => ?_)
  · obtain ⟨p, t, ts, n, m, rfl, _⟩ := h
    rfl
  · obtain ⟨p, t, ts, n, m, rfl, ⟨⟨i, h, h0, h1⟩, tp, ne, ok⟩, hn, hm, k⟩ := h
    have G_l_draw := ok_l_draw (P := P) (w := w) (base := base) T
    have hr_l_draw : Room 1 _ := hr.mono (by decide)
    refine ⟨_, (pss_cons (ps_asg (pe_op op_add (pe_ix ix_list (pv 0) pe_int (fun _ _ => rfl)) pe_int) (pg_sub (pv 0) pe_int set_list))
      (pss_one (ps_ret (pe_call G_l_draw hr_l_draw (by rfl) T.g_l_draw T.F_l_draw.kp T.b_l_draw .nil pass0 (pa_cons (pe_ix ix_list (pv 0) pe_int (fun _ _ => rfl)) (pa_cons (pe_ix ix_list (pv 0) pe_int (fun _ _ => rfl)) (pa_cons (pv 1) pa_nil))))))), ?_⟩
    walk_at "rd"
    refine r_ixL (SqL.of h) (v := .int i) rfl ?_
    walk_at "rd"
    refine r_setL h (j := 1) rfl ?_
    walk_at "rd"
    refine r_ixL (SqL.of upd_same) (v := .ref t) rfl ?_
    walk_at "rd"
    refine r_ixL (SqL.of upd_same) (v := .int (i + 1)) rfl ?_
    walk_at "rd"
    have tp' : (upd H p (.lst [.ref t, .int (i + 1)])) t = some (.lst (ts.map V.int)) := by rw [upd_ne ne]; exact tp
    refine ⟨t, ts, i + 1, m, rfl, SqL.of tp', ok, by omega, by omega, hm, fun r r0 r1 => ?_⟩
    exact k r _ r0 r1 ⟨⟨i + 1, upd_same, by omega, by omega⟩, tp', ne, ok⟩ fun b hb => upd_ne hb
/-- an item of a written list of ints by a draw, what all of them are -/
theorem pick {q : Addr} {H : Hp} {K : PySem.W.Frag} {zs : List Int} {r : Int} {xs : List V} (P : Int → Prop) (h : H q = some (.lst xs)) (e : xs = zs.map V.int) (h0 : 0 ≤ r) (h1 : r < (zs.length : Int)) (hP : ∀ z ∈ zs, P z) :
    ∃ z, P z ∧ ∀ (Q : VK), Q (.int z) H → rIxL K (.ref q) (.int r) H Q := by
  obtain ⟨z, hz, ha⟩ := at_map h0 h1
  subst e
  exact ⟨z, hP z hz, fun Q k => r_ixL (SqL.of h) ha k⟩
/-! ### equal data are told equal -/
def sp_eq (K : PySem.W.Frag) : Nat → Sp
  | 0 => fun _ _ _ _ => False
  | n + 1 => fun vs H Q _ => ∃ (x y : V) (d : PyData), vs = [x, y] ∧ Dp K H x d ∧ Dp K H y d ∧ Dn n d ∧ Q (.bl true) H
theorem sc_l_equal : FnScope ["actual", "due", "k"] ["actual", "due"] (defScope s_l_equal) := ⟨rfl, rfl, rfl, by decide +kernel, rfl, by decide +kernel, by decide +kernel⟩
theorem len_map_int (ds : List PyData) (vs : List V) (e : vs.length = ds.length) (h : vs.length ≤ sizeLine) : (ds.length : Int) < 2 ^ 62 := by
  have : sizeLine = 16777216 := sizeLine_eq
  omega
theorem ok_eq_rec {P : Program} {w : World} {K : PySem.W.Frag} {mg : Str → Option Value} {base : Heap} (T : Env K mg) : ∀ n, FnOk P w K mg base CX0 (n + 1) T.a_l_equal T.d_l_equal ["actual", "due"] (sp_eq K n)
  | 0 => T.F_l_equal.ok sc_l_equal (fun vs H Q E h => h.elim) (fun cdv A outer s H vs Q E hr h => h.elim)
  | n + 1 => by
    have G_l_equal := ok_eq_rec (P := P) (w := w) (base := base) T n
    refine T.F_l_equal.ok sc_l_equal (fun vs H Q E h => ?_) (fun cdv A outer s H vs Q E hr h => ?_)
    · obtain ⟨x, y, d, rfl, _⟩ := h
      rfl
    · obtain ⟨x, y, d, rfl, hx, hy, hd, k⟩ := h
      have hr_l_equal := hr
      refine ⟨_, (pss_cons (ps_if (pt_cmpR op_isN (pv 1) pe_non (nomark _)) (pss_one (ps_ret (pe_cmpR op_isN (pv 0) pe_non (nomark _)))) pss_nil)
      (pss_cons (ps_if (pt_val (pe_callB call_isi (by rfl) T.z_isinstance (by decide +kernel) (pa_cons (pv 1) (pa_cons (pe_bltn (v := .ty "bool") (by rfl) T.z_bool (by decide +kernel) rfl) pa_nil)))) (pss_one (ps_ret (pe_and (pe_callB call_isi (by rfl) T.z_isinstance (by decide +kernel) (pa_cons (pv 0) (pa_cons (pe_bltn (v := .ty "bool") (by rfl) T.z_bool (by decide +kernel) rfl) pa_nil))) (pe_one (pe_cmpR op_eq (pv 0) (pv 1) (nomark _)))))) pss_nil)
      (pss_cons (ps_if (pt_val (pe_callB call_isi (by rfl) T.z_isinstance (by decide +kernel) (pa_cons (pv 1) (pa_cons (pe_bltn (v := .ty "int") (by rfl) T.z_int (by decide +kernel) rfl) pa_nil)))) (pss_one (ps_ret (pe_and (pe_callB call_isi (by rfl) T.z_isinstance (by decide +kernel) (pa_cons (pv 0) (pa_cons (pe_bltn (v := .ty "int") (by rfl) T.z_int (by decide +kernel) rfl) pa_nil))) (pe_and (pe_not (pe_callB call_isi (by rfl) T.z_isinstance (by decide +kernel) (pa_cons (pv 0) (pa_cons (pe_bltn (v := .ty "bool") (by rfl) T.z_bool (by decide +kernel) rfl) pa_nil)))) (pe_one (pe_cmpR op_eq (pv 0) (pv 1) (nomark _))))))) pss_nil)
      (pss_cons (ps_if (pt_val (pe_callB call_isi (by rfl) T.z_isinstance (by decide +kernel) (pa_cons (pv 1) (pa_cons (pe_bltn (v := .ty "str") (by rfl) T.z_str (by decide +kernel) rfl) pa_nil)))) (pss_one (ps_ret (pe_and (pe_callB call_isi (by rfl) T.z_isinstance (by decide +kernel) (pa_cons (pv 0) (pa_cons (pe_bltn (v := .ty "str") (by rfl) T.z_str (by decide +kernel) rfl) pa_nil))) (pe_one (pe_cmpR op_eq (pv 0) (pv 1) (nomark _)))))) pss_nil)
      (pss_cons (ps_if (PW.pt (pw_and (pt_val (pe_callB call_isi (by rfl) T.z_isinstance (by decide +kernel) (pa_cons (pv 1) (pa_cons (pe_bltn (v := .ty "tuple") (by rfl) T.z_tuple (by decide +kernel) rfl) pa_nil)))) (pw_and1 (pt_not (pt_val (pe_callB call_isi (by rfl) T.z_isinstance (by decide +kernel) (pa_cons (pv 0) (pa_cons (pe_bltn (v := .ty "tuple") (by rfl) T.z_tuple (by decide +kernel) rfl) pa_nil)))))))) (pss_one (ps_ret pe_bl)) pss_nil)
      (pss_cons (ps_if (PW.pt (pw_and (pt_val (pe_callB call_isi (by rfl) T.z_isinstance (by decide +kernel) (pa_cons (pv 1) (pa_cons (pe_bltn (v := .ty "list") (by rfl) T.z_list (by decide +kernel) rfl) pa_nil)))) (pw_and1 (pt_not (pt_val (pe_callB call_isi (by rfl) T.z_isinstance (by decide +kernel) (pa_cons (pv 0) (pa_cons (pe_bltn (v := .ty "list") (by rfl) T.z_list (by decide +kernel) rfl) pa_nil)))))))) (pss_one (ps_ret pe_bl)) pss_nil)
      (pss_cons (ps_if (pt_cmpR op_ne (pe_callB call_len_seq (by rfl) T.z_len (by decide +kernel) (pa_cons (pv 0) pa_nil)) (pe_callB call_len_seq (by rfl) T.z_len (by decide +kernel) (pa_cons (pv 1) pa_nil)) (nomark _)) (pss_one (ps_ret pe_bl)) pss_nil)
      (pss_cons (ps_for PassesOwn.never rfl (pi_range1 (by rfl) T.z_range (pa_cons (pe_callB call_len_seq (by rfl) T.z_len (by decide +kernel) (pa_cons (pv 1) pa_nil)) pa_nil)) (pg_name (i := 2) sc_l_equal.nd rfl (Or.inl rfl)) (pss_one (ps_if (pt_not (pt_val (pe_call G_l_equal hr_l_equal (by rfl) T.g_l_equal T.F_l_equal.kp T.b_l_equal .nil pass0 (pa_cons (pe_ix ix_seq (pv 0) (pv 2) (fun _ _ => rfl)) (pa_cons (pe_ix ix_seq (pv 1) (pv 2) (fun _ _ => rfl)) pa_nil))))) (pss_one (ps_ret pe_bl)) pss_nil)))
      (pss_one (ps_ret pe_bl)))))))))), ?_⟩
      cases hd with
      | non =>
        cases hx
        cases hy
        walk_at "rd"
        refine r_if (fun _ => ?_) (fun c => absurd rfl c)
        walk_at "rd"
        exact k
      | bl _ b =>
        cases hx
        cases hy
        walk_at "rd"
        refine r_if (fun c => nomatch c) (fun _ => ?_)
        walk_at "rd"
        refine r_isi (a := "bool") true (.base (.bl b)) (by decide +kernel) ?_
        walk_at "rd"
        refine r_isi (a := "bool") true (.base (.bl b)) (by decide +kernel) ?_
        walk_at "rd"
        rw [decide_eq_true rfl]
        exact k
      | int _ i =>
        cases hx
        cases hy
        walk_at "rd"
        refine r_if (fun c => nomatch c) (fun _ => ?_)
        walk_at "rd"
        refine r_isi (a := "int") false (.base (.int i)) (by decide +kernel) ?_
        walk_at "rd"
        refine r_isi (a := "int") true (.base (.int i)) (by decide +kernel) ?_
        walk_at "rd"
        refine r_isi (a := "int") true (.base (.int i)) (by decide +kernel) ?_
        walk_at "rd"
        refine r_isi (a := "int") false (.base (.int i)) (by decide +kernel) ?_
        walk_at "rd"
        rw [decide_eq_true rfl]
        exact k
      | str _ z =>
        cases hx
        cases hy
        walk_at "rd"
        refine r_if (fun c => nomatch c) (fun _ => ?_)
        walk_at "rd"
        refine r_isi (a := "str") false (.base (.str z)) (by decide +kernel) ?_
        walk_at "rd"
        refine r_isi (a := "str") false (.base (.str z)) (by decide +kernel) ?_
        walk_at "rd"
        refine r_isi (a := "str") true (.base (.str z)) (by decide +kernel) ?_
        walk_at "rd"
        refine r_isi (a := "str") true (.base (.str z)) (by decide +kernel) ?_
        walk_at "rd"
        rw [decide_eq_true rfl]
        exact k
      | @tup m ds hl hd =>
        cases hx with
        | @tup a xs _ hs ha =>
        cases hy with
        | @tup b ys _ ht hb =>
        walk_at "rd"
        refine r_if (fun c => nomatch c) (fun _ => ?_)
        walk_at "rd"
        refine r_isi (a := "tuple") false (tyx_t ht) (by decide +kernel) ?_
        walk_at "rd"
        refine r_isi (a := "tuple") false (tyx_t ht) (by decide +kernel) ?_
        walk_at "rd"
        refine r_isi (a := "tuple") false (tyx_t ht) (by decide +kernel) ?_
        walk_at "rd"
        refine r_isi (a := "tuple") true (tyx_t ht) (by decide +kernel) ?_
        walk_at "rd"
        refine r_isi (a := "tuple") true (tyx_t hs) (by decide +kernel) ?_
        walk_at "rd"
        refine r_isi (a := "tuple") false (tyx_t ht) (by decide +kernel) ?_
        walk_at "rd"
        refine ⟨a, _, rfl, .inr hs, ?_⟩
        walk_at "rd"
        refine ⟨b, _, rfl, .inr ht, ?_⟩
        walk_at "rd"
        have lx := dpa_len ha
        have ly := dpa_len hb
        refine r_ifN (fun c => absurd (by rw [lx, ly]) c) (fun _ => ?_)
        walk_at "rd"
        refine ⟨b, _, rfl, .inr ht, ?_⟩
        walk_at "rd"
        refine ⟨by omega, by omega, ?_⟩
        refine for_range (n := ys.length) (fun i σ H2 => ∃ v : Option V, σ = [some (.ref a), some (.ref b), v] ∧ H2 = H) ⟨none, rfl, rfl⟩ ?_ ?_
        · rintro i σ H2 hi ⟨v, rfl, rfl⟩
          obtain ⟨d, hdi⟩ : ∃ d, ds[i]? = some d := ⟨ds[i]'(by omega), List.getElem?_eq_getElem (by omega)⟩
          obtain ⟨x, hx1, hx2⟩ := dpa_get ha hdi
          obtain ⟨y, hy1, hy2⟩ := dpa_get hb hdi
          walk_at "rd"
          refine r_ixQT hs (at_of (j := i) (by omega) hx1) ?_
          walk_at "rd"
          refine r_ixQT ht (at_of (j := i) (by omega) hy1) ?_
          walk_at "rd"
          refine ⟨x, y, d, rfl, hx2, hy2, hd d (List.mem_of_getElem? hdi), ?_⟩
          walk_at "rd"
          exact ⟨_, rfl, rfl⟩
        · rintro σ H2 ⟨v, rfl, rfl⟩
          walk_at "rd"
          exact k
      | @lst m ds hl hd =>
        cases hx with
        | @lst a xs _ hs ha =>
        cases hy with
        | @lst b ys _ ht hb =>
        walk_at "rd"
        refine r_if (fun c => nomatch c) (fun _ => ?_)
        walk_at "rd"
        refine r_isi (a := "list") false (tyx_l ht) (by decide +kernel) ?_
        walk_at "rd"
        refine r_isi (a := "list") false (tyx_l ht) (by decide +kernel) ?_
        walk_at "rd"
        refine r_isi (a := "list") false (tyx_l ht) (by decide +kernel) ?_
        walk_at "rd"
        refine r_isi (a := "list") false (tyx_l ht) (by decide +kernel) ?_
        walk_at "rd"
        refine r_isi (a := "list") true (tyx_l ht) (by decide +kernel) ?_
        walk_at "rd"
        refine r_isi (a := "list") true (tyx_l hs) (by decide +kernel) ?_
        walk_at "rd"
        refine ⟨a, _, rfl, .inl hs, ?_⟩
        walk_at "rd"
        refine ⟨b, _, rfl, .inl ht, ?_⟩
        walk_at "rd"
        have lx := dpa_len ha
        have ly := dpa_len hb
        refine r_ifN (fun c => absurd (by rw [lx, ly]) c) (fun _ => ?_)
        walk_at "rd"
        refine ⟨b, _, rfl, .inl ht, ?_⟩
        walk_at "rd"
        refine ⟨by omega, by omega, ?_⟩
        refine for_range (n := ys.length) (fun i σ H2 => ∃ v : Option V, σ = [some (.ref a), some (.ref b), v] ∧ H2 = H) ⟨none, rfl, rfl⟩ ?_ ?_
        · rintro i σ H2 hi ⟨v, rfl, rfl⟩
          obtain ⟨d, hdi⟩ : ∃ d, ds[i]? = some d := ⟨ds[i]'(by omega), List.getElem?_eq_getElem (by omega)⟩
          obtain ⟨x, hx1, hx2⟩ := dpa_get ha hdi
          obtain ⟨y, hy1, hy2⟩ := dpa_get hb hdi
          walk_at "rd"
          refine r_ixQL hs (at_of (j := i) (by omega) hx1) ?_
          walk_at "rd"
          refine r_ixQL ht (at_of (j := i) (by omega) hy1) ?_
          walk_at "rd"
          refine ⟨x, y, d, rfl, hx2, hy2, hd d (List.mem_of_getElem? hdi), ?_⟩
          walk_at "rd"
          exact ⟨_, rfl, rfl⟩
        · rintro σ H2 ⟨v, rfl, rfl⟩
          walk_at "rd"
          exact k
theorem ok_l_equal {P : Program} {w : World} {K : PySem.W.Frag} {mg : Str → Option Value} {base : Heap} (T : Env K mg) : FnOk P w K mg base CX0 4 T.a_l_equal T.d_l_equal ["actual", "due"] (sp_eq K (4 - 1)) := ok_eq_rec T _
/-! ### systems as data -/
abbrev Cho := Int × List (Int × Int)
def eE (e : Int × Int) : PyData := .tuple [.int e.1, .int e.2]
def eC (c : Cho) : PyData := .tuple [.int c.1, .tuple (c.2.map eE)]
def eS (s : List Cho) : PyData := .tuple (s.map eC)
def eY (y : List (List Cho)) : PyData := .tuple (y.map eS)
theorem tu_two {a b : PyData} (ha : Tu a) (hb : Tu b) : Tu (.tuple [a, b]) := .tup fun d hd => by
  rcases List.mem_cons.mp hd with rfl | hd
  · exact ha
  · rcases List.mem_cons.mp hd with rfl | hd
    · exact hb
    · cases hd
theorem tu_map {α : Type} {f : α → PyData} (l : List α) (h : ∀ a, Tu (f a)) : ∀ d, d ∈ l.map f → Tu d := fun d hd => by
  obtain ⟨a, _, rfl⟩ := List.mem_map.mp hd
  exact h a
theorem tu_E (e : Int × Int) : Tu (eE e) := tu_two (.int _) (.int _)
theorem tu_C (c : Cho) : Tu (eC c) := tu_two (.int _) (.tup (tu_map _ tu_E))
theorem tu_S (s : List Cho) : Tu (eS s) := .tup (tu_map _ tu_C)
theorem tu_Y (y : List (List Cho)) : Tu (eY y) := .tup (tu_map _ tu_S)
section
variable {K : PySem.W.Frag} {H : Hp}
/-- what stands behind a tuple's data -/
theorem dp_tup {v : V} {ds : List PyData} (h : Dp K H v (.tuple ds)) : ∃ a xs, v = .ref a ∧ SqT K H a xs ∧ DpAll K H xs ds := by
  cases h with
  | tup s a => exact ⟨_, _, rfl, s, a⟩
theorem dp_int {v : V} {i : Int} (h : Dp K H v (.int i)) : v = .int i := by
  cases h
  rfl
theorem dp_E {v : V} {e : Int × Int} (h : Dp K H v (eE e)) : ∃ a, v = .ref a ∧ SqT K H a [.int e.1, .int e.2] := by
  obtain ⟨a, xs, rfl, s, d⟩ := dp_tup h
  cases d with
  | cons h1 d =>
    cases d with
    | cons h2 d =>
      cases d
      rw [dp_int h1, dp_int h2] at s
      exact ⟨a, rfl, s⟩
theorem dp_C {v : V} {c : Cho} (h : Dp K H v (eC c)) : ∃ a b xs, v = .ref a ∧ SqT K H a [.int c.1, .ref b] ∧ SqT K H b xs ∧ DpAll K H xs (c.2.map eE) := by
  obtain ⟨a, xs, rfl, s, d⟩ := dp_tup h
  cases d with
  | cons h1 d =>
    cases d with
    | cons h2 d =>
      cases d
      obtain ⟨b, ys, rfl, s2, d2⟩ := dp_tup h2
      rw [dp_int h1] at s
      exact ⟨a, b, ys, rfl, s, s2, d2⟩
theorem mk_E {a : Addr} {i j : Int} (h : SqT K H a [.int i, .int j]) : Dp K H (.ref a) (eE (i, j)) := .tup h (.cons (.int _) (.cons (.int _) .nil))
theorem mk_C {a : Addr} {v : V} {i : Int} {es : List (Int × Int)} (h : SqT K H a [.int i, v]) (h2 : Dp K H v (.tuple (es.map eE))) : Dp K H (.ref a) (eC (i, es)) := .tup h (.cons (.int _) (.cons h2 .nil))
theorem dpa_get' {vs : List V} {ds : List PyData} {i : Nat} {v : V} (h : DpAll K H vs ds) (e : vs[i]? = some v) : ∃ d, ds[i]? = some d ∧ Dp K H v d := by
  have hl := dpa_len h
  have hi := (List.getElem?_eq_some_iff.mp e).1
  obtain ⟨u, h1, h2⟩ := dpa_get (i := i) (d := ds[i]'(by omega)) h (List.getElem?_eq_getElem (by omega))
  rw [e] at h1
  cases h1
  exact ⟨_, List.getElem?_eq_getElem (by omega), h2⟩
theorem dpa_at {α : Type} {f : α → PyData} {vs : List V} {l : List α} {i : Nat} {v : V} (h : DpAll K H vs (l.map f)) (e : vs[i]? = some v) : ∃ a, l[i]? = some a ∧ Dp K H v (f a) := by
  obtain ⟨d, h1, h2⟩ := dpa_get' h e
  rw [List.getElem?_map] at h1
  cases q : l[i]? with
  | none => rw [q] at h1; cases h1
  | some a =>
    rw [q] at h1
    cases h1
    exact ⟨a, rfl, h2⟩
theorem dpa_of {α : Type} {f : α → PyData} {vs : List V} {l : List α} {i : Nat} {a : α} (h : DpAll K H vs (l.map f)) (e : l[i]? = some a) : ∃ v, vs[i]? = some v ∧ Dp K H v (f a) :=
  dpa_get h (by rw [List.getElem?_map, e]; rfl)
end
/-! ### drawn systems -/
def EndsOk (m : Int) (es : List (Int × Int)) : Prop := es ≠ [] ∧ (es.length : Int) ≤ m ∧ (∀ e ∈ es, 0 ≤ e.1 ∧ e.1 < m ∧ 1 ≤ e.2 ∧ e.2 ≤ 1000) ∧ es.Pairwise fun a b => a.1 < b.1
def sp_l_ends (K : PySem.W.Frag) : Sp := fun vs H Q _ => ∃ (p t : Addr) (ts : List Int) (n m : Int), vs = [.ref p, .int m] ∧ Tp H p t ts n ∧ n ≤ 2 ^ 39 ∧ 1 ≤ m ∧ m ≤ 20 ∧
  ∀ (v : V) (es : List (Int × Int)) (H' : Hp), EndsOk m es → Dp K H' v (.tuple (es.map eE)) → Tp H' p t ts (n + 50) → Fm p H H' → Q v H'
theorem sc_l_ends : FnScope ["state", "many", "ends", "first", "goal"] ["state", "many"] (defScope s_l_ends) := ⟨rfl, rfl, rfl, by decide +kernel, rfl, by decide +kernel, by decide +kernel⟩
theorem ok_l_ends {P : Program} {w : World} {K : PySem.W.Frag} {mg : Str → Option Value} {base : Heap} (T : Env K mg) : FnOk P w K mg base CX0 3 T.a_l_ends T.d_l_ends ["state", "many"] (sp_l_ends K) := by
  refine T.F_l_ends.ok sc_l_ends (fun vs H Q E h => ?_) (fun cdv A outer s H vs Q E hr h => ?_)
  · obtain ⟨p, t, ts, n, m, rfl, _⟩ := h
    rfl
  · obtain ⟨p, t, ts, n, m, rfl, T0, hn, hm1, hm2, k⟩ := h
    have G_l_take := ok_l_take (P := P) (w := w) (base := base) T
    have hr_l_take : Room 2 _ := hr.mono (by decide)
    refine ⟨_, (pss_cons (ps_set (i := 2) sc_l_ends.nd rfl (Or.inl rfl) (pe_lst pa_nil))
      (pss_cons (ps_set (i := 3) sc_l_ends.nd rfl (Or.inl rfl) (pe_call G_l_take hr_l_take (by rfl) T.g_l_take T.F_l_take.kp T.b_l_take .nil pass0 (pa_cons (pv 0) (pa_cons (pv 1) pa_nil))))
      (pss_cons (ps_for PassesOwn.never rfl (pi_range1 (by rfl) T.z_range (pa_cons (pv 1) pa_nil)) (pg_name (i := 4) sc_l_ends.nd rfl (Or.inl rfl)) (pss_one (ps_if (PW.pt (pw_or (pt_cmpR op_eq (pv 4) (pv 3) (nomark _)) (pw_or1 (pt_cmpR op_eq (pe_call G_l_take hr_l_take (by rfl) T.g_l_take T.F_l_take.kp T.b_l_take .nil pass0 (pa_cons (pv 0) (pa_cons pe_int pa_nil))) pe_int (nomark _))))) (pss_one (ps_expr (pe_bm PySem.F.plainAttrs_list PySem.F.slot_list_append PySem.F.type_list_append mt_append (pv 2) (pa_cons (pe_tup (pa_cons (pv 4) (pa_cons (pe_ix ix_list (pe_lst (pa_cons pe_int (pa_cons pe_int (pa_cons pe_int (pa_cons pe_int (pa_cons pe_int (pa_cons pe_int pa_nil))))))) (pe_call G_l_take hr_l_take (by rfl) T.g_l_take T.F_l_take.kp T.b_l_take .nil pass0 (pa_cons (pv 0) (pa_cons pe_int pa_nil))) (fun _ _ => rfl)) pa_nil))) pa_nil)))) pss_nil)))
      (pss_one (ps_ret (pe_callTy call_tuple_of (by rfl) T.z_tuple (by decide +kernel) (pa_cons (pv 2) pa_nil))))))), ?_⟩
    walk_at "rd"
    refine ⟨by decide, fun E hE => ?_⟩
    walk_at "rd"
    obtain ⟨nEp, nEt⟩ := T0.fresh hE
    refine ⟨p, t, ts, n, m, rfl, T0.same (sm_new hE), by omega, by omega, fun first H1 f0 f1 T1 e1 => ?_⟩
    walk_at "rd"
    refine ⟨by omega, by omega, ?_⟩
    have hE1 : H1 E = some (.lst []) := (e1 E nEp).trans upd_same
    refine for_range (n := m.toNat) (fun j σ H2 => ∃ (v4 : Option V) (es : List (Int × Int)) (vs : List V), σ = [some (.ref p), some (.int m), some (.ref E), some (.int first), v4] ∧ H2 E = some (.lst vs) ∧ DpAll K H2 vs (es.map eE) ∧
        Tp H2 p t ts (n + 1 + 2 * j) ∧ Fm p H H2 ∧ (∀ e ∈ es, 0 ≤ e.1 ∧ e.1 < j ∧ 1 ≤ e.2 ∧ e.2 ≤ 1000) ∧ es.Pairwise (fun a b => a.1 < b.1) ∧ es.length ≤ j ∧ (first < j → es ≠ []))
      ⟨_, [], [], rfl, hE1, .nil, T1.mono (by omega), Fm.trans (fm_new hE) (fm_off e1), by simp, .nil, by simp, by omega⟩ ?_ ?_
    · rintro j σ H2 hj ⟨v4, es, vs, rfl, hE2, hD2, T2, F2, hb, hp, hl, hne⟩
      walk_at "rd"
      have hlv : vs.length ≤ 20 := by
        have := dpa_len hD2
        rw [List.length_map] at this
        omega
      refine r_if (fun c => ?wa) (fun c => ?wb)
      case' wb =>
        walk_at "rd"
        refine ⟨p, t, ts, _, 3, rfl, T2, by omega, by decide, fun r H3 r0 r1 T3 e3 => ?_⟩
        walk_at "rd"
        replace hE2 : H3 E = some (.lst vs) := (e3 E nEp).trans hE2
        replace hD2 := dpa_tk (T2.tk (fm_off e3)) (tu_map _ tu_E) hD2
        replace F2 := F2.trans (fm_off e3)
        replace T2 := T3.mono (m := n + 1 + 2 * j + 1) (by omega)
        refine r_if (fun _ => ?wc) (fun _ => ?wd)
        case wd =>
          walk_at "rd"
          exact ⟨_, es, vs, rfl, hE2, hD2, T2.mono (by omega), F2, fun e he => ⟨(hb e he).1, by have := (hb e he).2.1; omega, (hb e he).2.2⟩, hp, by omega, fun q => hne (by omega)⟩
      case' wa => replace T2 := T2.mono (m := n + 1 + 2 * j + 1) (by omega)
      all_goals
        walk_at "rd"
        refine r_tyL (SqL.of hE2) ?_
        walk_at "rd"
        refine ⟨(by show 6 ≤ sizeLine; decide), fun q hq => ?_⟩
        walk_at "rd"
        refine ⟨p, t, ts, _, 6, rfl, T2.same (sm_new hq), by omega, by decide, fun r4 H4 r40 r41 T4 e4 => ?_⟩
        have nqE : E ≠ q := ne_of_none hE2 hq
        obtain ⟨nqp, _⟩ := T2.fresh hq
        obtain ⟨z, hz, hpick⟩ := pick (K := K) (fun z => 1 ≤ z ∧ z ≤ 1000) (zs := [1, 1, 2, 3, 10, 1000]) ((e4 q nqp).trans upd_same) rfl r40 r41 (by decide)
        refine hpick _ ?_
        walk_at "rd"
        refine ⟨(by show 2 ≤ sizeLine; decide), fun u hu => ?_⟩
        have hE4 : H4 E = some (.lst vs) := by rw [e4 E nEp, upd_ne nqE]; exact hE2
        have nuE : E ≠ u := ne_of_none hE4 hu
        have hE5 : (upd H4 u (.tup [.int (0 + j), .int z])) E = some (.lst vs) := by rw [upd_ne nuE]; exact hE4
        walk_at "rd"
        refine r_app hE5 (by omega) ?_
        walk_at "rd"
        have k1 := tk_new hq (o := .lst ([1, 1, 2, 3, 10, 1000].map V.int))
        have k2 := k1.trans (((T2.same (sm_new hq)).tk (fm_off e4)).trans ((tk_new hu (o := .tup [.int (0 + j), .int z])).trans (tk_lst hE5 (o := .lst (vs ++ [.ref u])))))
        have hj0 : (0 + (j : Int)) = j := by omega
        refine ⟨_, es ++ [((j : Int), z)], vs ++ [.ref u], rfl, upd_same, ?_, (((T4.same (sm_new hu)).other ⟨nEp, nEt⟩).mono (by omega)), ?_, ?_, ?_, ?_, ?_⟩
        · rw [List.map_append]
          refine dpa_app (dpa_tk k2 (tu_map _ tu_E) hD2) (.cons (mk_E (SqT.of ?_)) .nil)
          rw [upd_ne nuE.symm, upd_same, hj0]
        · exact (F2.trans ((fm_new hq).trans ((fm_off e4).trans (fm_new hu)))).mut hE
        · intro e he
          rcases List.mem_append.mp he with he | he
          · exact ⟨(hb e he).1, by have := (hb e he).2.1; omega, (hb e he).2.2⟩
          · rw [List.mem_singleton.mp he]
            exact ⟨by omega, by omega, hz⟩
        · refine List.pairwise_append.mpr ⟨hp, List.pairwise_singleton _ _, fun a ha b hb' => ?_⟩
          rw [List.mem_singleton.mp hb']
          exact (hb a ha).2.1
        · rw [List.length_append]
          simp
          omega
        · intro _ z
          simp at z
    · rintro σ H2 ⟨v4, es, vs, rfl, hE2, hD2, T2, F2, hb, hp, hl, hne⟩
      walk_at "rd"
      refine r_tupL (SqL.of hE2) fun q hq => ?_
      walk_at "rd"
      refine k _ es _ ⟨hne (by omega), by omega, fun e he => ⟨(hb e he).1, by have := (hb e he).2.1; omega, (hb e he).2.2⟩, hp⟩ (.tup (SqT.of upd_same) (dpa_tk (tk_new hq) (tu_map _ tu_E) hD2)) ((T2.same (sm_new hq)).mono (by omega)) (F2.trans (fm_new hq))
def ChoOk (m : Int) (c : Cho) : Prop := 0 ≤ c.1 ∧ c.1 ≤ 1000 ∧ EndsOk m c.2
def StOk (m : Int) (b : Int) (s : List Cho) : Prop := s ≠ [] ∧ (s.length : Int) ≤ b ∧ ∀ c ∈ s, ChoOk m c
def SysOk (b : Int) (y : List (List Cho)) : Prop := y ≠ [] ∧ (y.length : Int) ≤ b ∧ ∀ s ∈ y, StOk y.length 3 s
def sp_l_choices (K : PySem.W.Frag) : Sp := fun vs H Q _ => ∃ (p t : Addr) (ts : List Int) (n m b : Int), vs = [.ref p, .int m, .int b] ∧ Tp H p t ts n ∧ n ≤ 2 ^ 38 ∧ 1 ≤ m ∧ m ≤ 20 ∧ 1 ≤ b ∧ b ≤ 6 ∧
  ∀ (v : V) (s : List Cho) (H' : Hp), StOk m b s → Dp K H' v (eS s) → Tp H' p t ts (n + 400) → Fm p H H' → Q v H'
theorem sc_l_choices : FnScope ["state", "many", "most", "choices", "k"] ["state", "many", "most"] (defScope s_l_choices) := ⟨rfl, rfl, rfl, by decide +kernel, rfl, by decide +kernel, by decide +kernel⟩
theorem ok_l_choices {P : Program} {w : World} {K : PySem.W.Frag} {mg : Str → Option Value} {base : Heap} (T : Env K mg) : FnOk P w K mg base CX0 4 T.a_l_choices T.d_l_choices ["state", "many", "most"] (sp_l_choices K) := by
  refine T.F_l_choices.ok sc_l_choices (fun vs H Q E h => ?_) (fun cdv A outer s H vs Q E hr h => ?_)
  · obtain ⟨p, t, ts, n, m, b, rfl, _⟩ := h
    rfl
  · obtain ⟨p, t, ts, n, m, b, rfl, T0, hn, hm1, hm2, hb1, hb2, k⟩ := h
    have G_l_take := ok_l_take (P := P) (w := w) (base := base) T
    have hr_l_take : Room 2 _ := hr.mono (by decide)
    have G_l_ends := ok_l_ends (P := P) (w := w) (base := base) T
    have hr_l_ends : Room 3 _ := hr.mono (by decide)
    refine ⟨_, (pss_cons (ps_set (i := 3) sc_l_choices.nd rfl (Or.inl rfl) (pe_lst pa_nil))
      (pss_cons (ps_for PassesOwn.never rfl (pi_range1 (by rfl) T.z_range (pa_cons (pe_op op_add pe_int (pe_call G_l_take hr_l_take (by rfl) T.g_l_take T.F_l_take.kp T.b_l_take .nil pass0 (pa_cons (pv 0) (pa_cons (pv 2) pa_nil)))) pa_nil)) (pg_name (i := 4) sc_l_choices.nd rfl (Or.inl rfl)) (pss_one (ps_expr (pe_bm PySem.F.plainAttrs_list PySem.F.slot_list_append PySem.F.type_list_append mt_append (pv 3) (pa_cons (pe_tup (pa_cons (pe_ix ix_list (pe_lst (pa_cons pe_int (pa_cons pe_int (pa_cons pe_int (pa_cons pe_int (pa_cons pe_int pa_nil)))))) (pe_call G_l_take hr_l_take (by rfl) T.g_l_take T.F_l_take.kp T.b_l_take .nil pass0 (pa_cons (pv 0) (pa_cons pe_int pa_nil))) (fun _ _ => rfl)) (pa_cons (pe_call G_l_ends hr_l_ends (by rfl) T.g_l_ends T.F_l_ends.kp T.b_l_ends .nil pass0 (pa_cons (pv 0) (pa_cons (pv 1) pa_nil))) pa_nil))) pa_nil)))))
      (pss_one (ps_ret (pe_callTy call_tuple_of (by rfl) T.z_tuple (by decide +kernel) (pa_cons (pv 3) pa_nil)))))), ?_⟩
    walk_at "rd"
    refine ⟨by decide, fun E hE => ?_⟩
    walk_at "rd"
    obtain ⟨nEp, nEt⟩ := T0.fresh hE
    refine ⟨p, t, ts, n, b, rfl, T0.same (sm_new hE), by omega, by omega, fun many H1 f0 f1 T1 e1 => ?_⟩
    walk_at "rd"
    refine ⟨by omega, by omega, ?_⟩
    have hE1 : H1 E = some (.lst []) := (e1 E nEp).trans upd_same
    refine for_range (n := (1 + many).toNat) (fun j σ H2 => ∃ (v4 : Option V) (cs : List Cho) (vs : List V), σ = [some (.ref p), some (.int m), some (.int b), some (.ref E), v4] ∧ H2 E = some (.lst vs) ∧ DpAll K H2 vs (cs.map eC) ∧
        Tp H2 p t ts (n + 1 + 51 * j) ∧ Fm p H H2 ∧ (∀ c ∈ cs, ChoOk m c) ∧ cs.length = j)
      ⟨_, [], [], rfl, hE1, .nil, T1.mono (by omega), Fm.trans (fm_new hE) (fm_off e1), by simp, rfl⟩ ?_ ?_
    · rintro j σ H2 hj ⟨v4, cs, vs, rfl, hE2, hD2, T2, F2, hc, hl⟩
      walk_at "rd"
      have hlv : vs.length ≤ 20 := by
        have := dpa_len hD2
        rw [List.length_map] at this
        omega
      refine r_tyL (SqL.of hE2) ?_
      walk_at "rd"
      refine ⟨(by show 5 ≤ sizeLine; decide), fun q hq => ?_⟩
      walk_at "rd"
      refine ⟨p, t, ts, _, 5, rfl, T2.same (sm_new hq), by omega, by decide, fun r4 H4 r40 r41 T4 e4 => ?_⟩
      have nqE : E ≠ q := ne_of_none hE2 hq
      obtain ⟨nqp, _⟩ := T2.fresh hq
      obtain ⟨z, hz, hpick⟩ := pick (K := K) (fun z => 0 ≤ z ∧ z ≤ 1000) (zs := [0, 1, 2, 5, 1000]) ((e4 q nqp).trans upd_same) rfl r40 r41 (by decide)
      refine hpick _ ?_
      walk_at "rd"
      refine ⟨p, t, ts, _, m, rfl, T4, by omega, hm1, hm2, fun v5 es H5 he5 hv5 T5 F5 => ?_⟩
      walk_at "rd"
      refine ⟨(by show 2 ≤ sizeLine; decide), fun u hu => ?_⟩
      have hE4 : H4 E = some (.lst vs) := by rw [e4 E nEp, upd_ne nqE]; exact hE2
      have hE5 : H5 E = some (.lst vs) := F5 _ _ nEp hE4
      have nuE : E ≠ u := ne_of_none hE5 hu
      have hE6 : (upd H5 u (.tup [.int z, v5])) E = some (.lst vs) := by rw [upd_ne nuE]; exact hE5
      walk_at "rd"
      refine r_app hE6 (by omega) ?_
      walk_at "rd"
      have k0 : Tk H5 (upd (upd H5 u (.tup [.int z, v5])) E (.lst (vs ++ [.ref u]))) := (tk_new hu).trans (tk_lst hE6)
      have k1 : Tk H2 H5 := (tk_new hq).trans (((T2.same (sm_new hq)).tk (fm_off e4)).trans (T4.tk F5))
      refine ⟨_, cs ++ [(z, es)], vs ++ [.ref u], rfl, upd_same, ?_, (((T5.same (sm_new hu)).other ⟨nEp, nEt⟩).mono (by omega)), ?_, ?_, ?_⟩
      · rw [List.map_append]
        refine dpa_app (dpa_tk (k1.trans k0) (tu_map _ tu_C) hD2) (.cons (mk_C (v := v5) (SqT.of ?_) (dp_tk k0 (.tup (tu_map _ tu_E)) hv5)) .nil)
        rw [upd_ne nuE.symm, upd_same]
      · exact (F2.trans ((fm_new hq).trans ((fm_off e4).trans (F5.trans (fm_new hu))))).mut hE
      · intro c hc'
        rcases List.mem_append.mp hc' with hc' | hc'
        · exact hc c hc'
        · rw [List.mem_singleton.mp hc']
          exact ⟨hz.1, hz.2, he5⟩
      · rw [List.length_append, hl]
        rfl
    · rintro σ H2 ⟨v4, cs, vs, rfl, hE2, hD2, T2, F2, hc, hl⟩
      walk_at "rd"
      refine r_tupL (SqL.of hE2) fun q hq => ?_
      walk_at "rd"
      refine k _ cs _ ⟨fun z => by rw [z] at hl; simp at hl; omega, by omega, hc⟩ (.tup (SqT.of upd_same) (dpa_tk (tk_new hq) (tu_map _ tu_C) hD2)) ((T2.same (sm_new hq)).mono (by omega)) (F2.trans (fm_new hq))
def sp_l_system (K : PySem.W.Frag) : Sp := fun vs H Q _ => ∃ (p t : Addr) (ts : List Int) (n b : Int), vs = [.ref p, .int b] ∧ Tp H p t ts n ∧ n ≤ 2 ^ 37 ∧ 1 ≤ b ∧ b ≤ 20 ∧
  ∀ (v : V) (y : List (List Cho)) (H' : Hp), SysOk b y → Dp K H' v (eY y) → Tp H' p t ts (n + 10000) → Fm p H H' → Q v H'
theorem sc_l_system : FnScope ["state", "most", "many", "k"] ["state", "most"] (defScope s_l_system) := ⟨rfl, rfl, rfl, by decide +kernel, rfl, by decide +kernel, by decide +kernel⟩
theorem ok_l_system {P : Program} {w : World} {K : PySem.W.Frag} {mg : Str → Option Value} {base : Heap} (T : Env K mg) : FnOk P w K mg base CX0 5 T.a_l_system T.d_l_system ["state", "most"] (sp_l_system K) := by
  refine T.F_l_system.ok sc_l_system (fun vs H Q E h => ?_) (fun cdv A outer s H vs Q E hr h => ?_)
  · obtain ⟨p, t, ts, n, b, rfl, _⟩ := h
    rfl
  · obtain ⟨p, t, ts, n, b, rfl, T0, hn, hb1, hb2, k⟩ := h
    have G_l_take := ok_l_take (P := P) (w := w) (base := base) T
    have hr_l_take : Room 2 _ := hr.mono (by decide)
    have G_l_choices := ok_l_choices (P := P) (w := w) (base := base) T
    have hr_l_choices : Room 4 _ := hr.mono (by decide)
    refine ⟨_, (pss_cons (ps_set (i := 2) sc_l_system.nd rfl (Or.inr rfl) (pe_op op_add pe_int (pe_call G_l_take hr_l_take (by rfl) T.g_l_take T.F_l_take.kp T.b_l_take .nil pass0 (pa_cons (pv 0) (pa_cons (pv 1) pa_nil)))))
      (pss_one (ps_ret (pe_callTy call_tuple_of (by rfl) T.z_tuple (by decide +kernel) (pa_cons (pe_lc (own := [("k", 3)]) (g := gName 3) (by rfl) sc_l_system.nd (pi_range1 (by rfl) T.z_range (pa_cons (pv 2) pa_nil)) (blkOk_by (own := [("k", 3)]) (N := ["state", "most", "many", "k"]) (sc := defScope s_l_system) (by decide +kernel)) (fun _ _ _ _ _ => (pg_name (i := 3) sc_l_system.nd rfl (Or.inl rfl))) (fun _ _ _ _ _ => pts_nil) (fun _ _ _ _ _ => (pe_call G_l_choices hr_l_choices (by rfl) T.g_l_choices T.F_l_choices.kp T.b_l_choices .nil pass0 (pa_cons (pv 0) (pa_cons (pv 2) (pa_cons pe_int pa_nil)))))) pa_nil))))), ?_⟩
    walk_at "rd"
    refine ⟨p, t, ts, n, b, rfl, T0, by omega, by omega, fun many H1 f0 f1 T1 e1 => ?_⟩
    walk_at "rd"
    unfold tLc
    walk_at "rd"
    refine ⟨by omega, by omega, fun D hD => lc_range (lo := 0) (n := (1 + many).toNat) (fun i H2 => ∃ (sts : List (List Cho)) (vs : List V), H2 D = some (.lst vs) ∧ DpAll K H2 vs (sts.map eS) ∧
        Tp H2 p t ts (n + 1 + 400 * i) ∧ Fm p H1 H2 ∧ (∀ s ∈ sts, StOk (1 + many) 3 s) ∧ sts.length = i)
      ⟨[], [], upd_same, .nil, (T1.same (sm_new hD)).mono (by omega), fm_new hD, by simp, rfl⟩ ?_ ?_⟩
    · rintro i H2 hi ⟨sts, vs, hD2, hv2, T2, F2, hs, hl⟩
      have hlv : vs.length ≤ 20 := by
        have := dpa_len hv2
        rw [List.length_map] at this
        omega
      obtain ⟨nDp, nDt⟩ := T1.fresh hD
      walk_at "rd"
      refine ⟨rfl, ?_⟩
      refine r_yes ?_
      walk_at "rd"
      refine ⟨p, t, ts, _, 1 + many, 3, rfl, T2, by omega, by omega, by omega, by decide, by decide, fun v3 s3 H3 hs3 hv3 T3 F3 => ?_⟩
      have hD3 := F3 _ _ nDp hD2
      refine ⟨vs, hD3, Nat.lt_of_le_of_lt hlv (by decide), sts ++ [s3], vs ++ [v3], upd_same, ?_, (T3.other ⟨nDp, nDt⟩).mono (by omega), (F2.trans F3).mut hD, ?_, by rw [List.length_append, hl]; rfl⟩
      · rw [List.map_append]
        exact dpa_app (dpa_tk ((T2.tk F3).trans (tk_lst hD3)) (tu_map _ tu_S) hv2) (.cons (dp_tk (tk_lst hD3) (tu_S _) hv3) .nil)
      · intro s hs'
        rcases List.mem_append.mp hs' with hs' | hs'
        · exact hs s hs'
        · rw [List.mem_singleton.mp hs']
          exact hs3
    · rintro H2 ⟨sts, vs, hD2, hv2, T2, F2, hs, hl⟩
      walk_at "rd"
      refine r_tupL (SqL.of hD2) fun q hq => ?_
      walk_at "rd"
      have hm : ((sts.length : Nat) : Int) = 1 + many := by omega
      refine k _ sts _ ⟨fun z => by rw [z] at hl; simp at hl; omega, by omega, fun s hs' => by rw [hm]; exact hs s hs'⟩ (.tup (SqT.of upd_same) (dpa_tk (tk_new hq) (tu_map _ tu_S) hv2)) ((T2.same (sm_new hq)).mono (by omega)) ((fm_off e1).trans (F2.trans (fm_new hq)))
/-! ### what is wrong with a system -/
def endsB (m : Int) : Int → List (Int × Int) → Bool
  | _, [] => true
  | b, e :: r => decide (b < e.1) && decide (e.1 < m) && decide (1 ≤ e.2) && decide (e.2 ≤ 1000) && endsB m e.1 r
def areE (m : Int) (es : List (Int × Int)) : Bool := decide (1 ≤ (es.length : Int)) && decide ((es.length : Int) ≤ 6) && endsB m (-1) es
theorem endsB_cons (m b : Int) (e : Int × Int) (r : List (Int × Int)) : endsB m b (e :: r) = (decide (b < e.1) && decide (e.1 < m) && decide (1 ≤ e.2) && decide (e.2 ≤ 1000) && endsB m e.1 r) := rfl
def tS (x : String) : PyData := .tuple [.str (Str.ofString x)]
def tS1 (x : String) (i : Int) : PyData := .tuple [.str (Str.ofString x), .int i]
def tS2 (x : String) (i j : Int) : PyData := .tuple [.str (Str.ofString x), .int i, .int j]
def chF (m s : Int) : Nat → List Cho → PyData
  | _, [] => .none
  | i, c :: r => if 0 ≤ c.1 ∧ c.1 ≤ 1000 then (if areE m c.2 = true then chF m s (i + 1) r else tS2 "ends" s (i : Nat)) else tS2 "cost" s (i : Nat)
theorem chF_cons (m s : Int) (i : Nat) (c : Cho) (r : List Cho) : chF m s i (c :: r) = if 0 ≤ c.1 ∧ c.1 ≤ 1000 then (if areE m c.2 = true then chF m s (i + 1) r else tS2 "ends" s (i : Nat)) else tS2 "cost" s (i : Nat) := rfl
def stF (m s : Int) (cs : List Cho) : PyData := if 1 ≤ (cs.length : Int) ∧ (cs.length : Int) ≤ 6 then chF m s 0 cs else tS1 "choices" s
def yF (m : Int) : Nat → List (List Cho) → PyData
  | _, [] => .none
  | i, s :: r => match stF m (i : Nat) s with
    | .none => yF m (i + 1) r
    | f => f
def faultD (y : List (List Cho)) : PyData := if 1 ≤ (y.length : Int) ∧ (y.length : Int) ≤ 20 then yF y.length 0 y else tS "states"
theorem drop_at {α : Type} {l : List α} {i : Nat} {a : α} (h : l[i]? = some a) : l.drop i = a :: l.drop (i + 1) := by
  obtain ⟨h1, h2⟩ := List.getElem?_eq_some_iff.mp h
  rw [List.drop_eq_getElem_cons h1, h2]
theorem drop_end {α : Type} {l : List α} {n : Nat} (h : n = l.length) : l.drop n = [] := by
  rw [h, List.drop_length]
theorem and_if {A B : Prop} [Decidable A] [Decidable B] {P Q : Prop} (h1 : A ∧ B → P) (h2 : ¬ (A ∧ B) → Q) : if decide A = true then (if decide B = true then P else Q) else Q := by
  by_cases a : A
  · rw [decide_eq_true a, if_pos rfl]
    by_cases b : B
    · rw [decide_eq_true b, if_pos rfl]
      exact h1 ⟨a, b⟩
    · rw [decide_eq_false b, if_neg Bool.false_ne_true]
      exact h2 fun z => b z.2
  · rw [decide_eq_false a, if_neg Bool.false_ne_true]
    exact h2 fun z => a z.1
/-! ### the program's own look -/
def sp_are_ends (K : PySem.W.Frag) : Sp := fun vs H Q _ => ∃ (m : Int) (v : V) (es : List (Int × Int)), vs = [.int m, v] ∧ Dp K H v (.tuple (es.map eE)) ∧ Q (.bl (areE m es)) H
theorem sc_are_ends : FnScope ["many", "ends", "before", "state", "weight"] ["many", "ends"] (defScope s_are_ends) := ⟨rfl, rfl, rfl, by decide +kernel, rfl, by decide +kernel, by decide +kernel⟩
theorem ok_are_ends {P : Program} {w : World} {K : PySem.W.Frag} {mg : Str → Option Value} {base : Heap} (T : Env K mg) : FnOk P w K mg base CX0 1 T.a_are_ends T.d_are_ends ["many", "ends"] (sp_are_ends K) := by
  refine T.F_are_ends.ok sc_are_ends (fun vs H Q E h => ?_) (fun cdv A outer s H vs Q E hr h => ?_)
  · obtain ⟨m, v, es, rfl, _⟩ := h
    rfl
  · obtain ⟨m, v, es, rfl, hv, k⟩ := h
    refine ⟨_, (pss_cons (ps_if (pt_not (pt_chain op_le op_le pe_int (pe_callB call_len_seq (by rfl) T.z_len (by decide +kernel) (pa_cons (pv 1) pa_nil)) (pe_glob (v := .int 6) (by rfl) T.c_MOST_ENDS ⟨_, rfl⟩))) (pss_one (ps_ret pe_bl)) pss_nil)
      (pss_cons (ps_set (i := 2) sc_are_ends.nd rfl (Or.inl rfl) (pe_un un_neg pe_int))
      (pss_cons (ps_for PassesOwn.never rfl (pi_tup (pv 1)) (pg_tup (by rfl) (pgs_cons (pg_name (i := 3) sc_are_ends.nd rfl (Or.inl rfl)) (pgs_cons (pg_name (i := 4) sc_are_ends.nd rfl (Or.inl rfl)) pgs_nil))) (pss_cons (ps_if (pt_not (pt_chain op_lt op_lt (pv 2) (pv 3) (pv 0))) (pss_one (ps_ret pe_bl)) pss_nil)
      (pss_cons (ps_if (pt_not (pt_chain op_le op_le pe_int (pv 4) (pe_glob (v := .int 1000) (by rfl) T.c_MOST_WEIGHT ⟨_, rfl⟩))) (pss_one (ps_ret pe_bl)) pss_nil)
      (pss_one (ps_set (i := 2) sc_are_ends.nd rfl (Or.inl rfl) (pv 3))))))
      (pss_one (ps_ret pe_bl))))), ?_⟩
    obtain ⟨a, xs, rfl, sa, da⟩ := dp_tup hv
    have lx : xs.length = es.length := by
      have := dpa_len da
      rw [List.length_map] at this
      exact this
    walk_at "rd"
    refine ⟨a, xs, rfl, .inr sa, ?_⟩
    walk_at "rd"
    have no1 : ¬ (1 ≤ (es.length : Int)) → Q (.bl false) H := fun c => by
      have : areE m es = false := by
        unfold areE
        rw [decide_eq_false c]
        rfl
      rw [this] at k
      exact k
    refine r_if (fun c1 => ?_) (fun c1 => ?_)
    rotate_left
    · walk_at "rd"
      exact no1 (by rw [← lx]; exact c1)
    walk_at "rd"
    refine r_ifN (fun c2 => ?_) (fun c2 => ?_)
    · walk_at "rd"
      have : areE m es = false := by
        unfold areE
        rw [decide_eq_true (by rw [← lx]; exact c1), decide_eq_false (by rw [← lx]; exact c2)]
        rfl
      rw [this] at k
      exact k
    have eq1 : areE m es = endsB m (-1) es := by
      unfold areE
      rw [decide_eq_true (by rw [← lx]; exact c1), decide_eq_true (by rw [← lx]; exact c2)]
      rfl
    rw [eq1] at k
    walk_at "rd"
    refine ⟨a, rfl, ⟨_, sa⟩, for_tup (K := K) (a := a) (xs := xs) (fun i σ H' => ∃ (b : Int) (v3 v4 : Option V), σ = [some (.int m), some (.ref a), some (.int b), v3, v4] ∧ endsB m (-1) es = endsB m b (es.drop i) ∧ H' = H)
      ⟨-1, none, none, rfl, rfl, rfl⟩ (fun i σ H' _ ⟨_, _, _, _, _, e⟩ => by rw [e]; exact sa) ?_ ?_⟩
    · rintro i v σ H' hi ⟨b, v3, v4, rfl, he, rfl⟩
      obtain ⟨e, hei, hve⟩ := dpa_at da hi
      obtain ⟨ae, rfl, se⟩ := dp_E hve
      rw [drop_at hei, endsB_cons] at he
      refine r_gtup2 se ?_
      walk_at "rd"
      refine r_if (fun c3 => ?_) (fun c3 => ?_)
      rotate_left
      · walk_at "rd"
        rw [decide_eq_false c3] at he
        rw [he] at k
        exact k
      walk_at "rd"
      refine r_ifN (fun c4 => ?_) (fun c4 => ?_)
      · walk_at "rd"
        rw [decide_eq_true c3, decide_eq_false c4] at he
        rw [he] at k
        exact k
      walk_at "rd"
      refine r_if (fun c5 => ?_) (fun c5 => ?_)
      rotate_left
      · walk_at "rd"
        rw [decide_eq_true c3, decide_eq_true c4, decide_eq_false c5] at he
        rw [he] at k
        exact k
      walk_at "rd"
      refine r_ifN (fun c6 => ?_) (fun c6 => ?_)
      · walk_at "rd"
        rw [decide_eq_true c3, decide_eq_true c4, decide_eq_true c5, decide_eq_false c6] at he
        rw [he] at k
        exact k
      walk_at "rd"
      rw [decide_eq_true c3, decide_eq_true c4, decide_eq_true c5, decide_eq_true c6] at he
      exact ⟨_, _, _, rfl, he, rfl⟩
    · rintro σ H' ⟨b, v3, v4, rfl, he, rfl⟩
      walk_at "rd"
      rw [drop_end lx] at he
      rw [he] at k
      exact k
/-- a list with no great number of items at any place -/
def Sz (y : List (List Cho)) : Prop := y.length ≤ 1000 ∧ ∀ s ∈ y, s.length ≤ 1000 ∧ ∀ c ∈ s, c.2.length ≤ 1000
def sp_fault_in_state (K : PySem.W.Frag) : Sp := fun vs H Q _ => ∃ (m s : Int) (v : V) (cs : List Cho), vs = [.int m, .int s, v] ∧ Dp K H v (eS cs) ∧
  ∀ (u : V) (H' : Hp), Same H H' → Dp K H' u (stF m s cs) → Q u H'
theorem sc_fault_in_state : FnScope ["many", "state", "choices", "number", "cost", "ends"] ["many", "state", "choices"] (defScope s_fault_in_state) := ⟨rfl, rfl, rfl, by decide +kernel, rfl, by decide +kernel, by decide +kernel⟩
theorem ok_fault_in_state {P : Program} {w : World} {K : PySem.W.Frag} {mg : Str → Option Value} {base : Heap} (T : Env K mg) : FnOk P w K mg base CX0 2 T.a_fault_in_state T.d_fault_in_state ["many", "state", "choices"] (sp_fault_in_state K) := by
  refine T.F_fault_in_state.ok sc_fault_in_state (fun vs H Q E h => ?_) (fun cdv A outer s H vs Q E hr h => ?_)
  · obtain ⟨m, s, v, cs, rfl, _⟩ := h
    rfl
  · obtain ⟨m, s, v, cs, rfl, hv, k⟩ := h
    have G_are_ends := ok_are_ends (P := P) (w := w) (base := base) T
    have hr_are_ends : Room 1 _ := hr.mono (by decide)
    refine ⟨_, (pss_cons (ps_if (pt_not (pt_chain op_le op_le pe_int (pe_callB call_len_seq (by rfl) T.z_len (by decide +kernel) (pa_cons (pv 2) pa_nil)) (pe_glob (v := .int 6) (by rfl) T.c_MOST_CHOICES ⟨_, rfl⟩))) (pss_one (ps_ret (pe_tup (pa_cons pe_str (pa_cons (pv 1) pa_nil))))) pss_nil)
      (pss_cons (ps_for PassesOwn.never rfl (pi_enumT (by rfl) T.z_enumerate (pa_cons (pv 2) pa_nil)) (pg_tup (by rfl) (pgs_cons (pg_name (i := 3) sc_fault_in_state.nd rfl (Or.inl rfl)) (pgs_cons (pg_tup (by rfl) (pgs_cons (pg_name (i := 4) sc_fault_in_state.nd rfl (Or.inl rfl)) (pgs_cons (pg_name (i := 5) sc_fault_in_state.nd rfl (Or.inl rfl)) pgs_nil))) pgs_nil))) (pss_cons (ps_if (pt_not (pt_chain op_le op_le pe_int (pv 4) (pe_glob (v := .int 1000) (by rfl) T.c_MOST_COST ⟨_, rfl⟩))) (pss_one (ps_ret (pe_tup (pa_cons pe_str (pa_cons (pv 1) (pa_cons (pv 3) pa_nil)))))) pss_nil)
      (pss_one (ps_if (pt_not (pt_val (pe_call G_are_ends hr_are_ends (by rfl) T.g_are_ends T.F_are_ends.kp T.b_are_ends .nil pass0 (pa_cons (pv 0) (pa_cons (pv 5) pa_nil))))) (pss_one (ps_ret (pe_tup (pa_cons pe_str (pa_cons (pv 1) (pa_cons (pv 3) pa_nil)))))) pss_nil))))
      (pss_one (ps_ret pe_non)))), ?_⟩
    obtain ⟨a, xs, rfl, sa, da⟩ := dp_tup hv
    have lx : xs.length = cs.length := by
      have := dpa_len da
      rw [List.length_map] at this
      exact this
    walk_at "rd"
    refine ⟨a, xs, rfl, .inr sa, ?_⟩
    walk_at "rd"
    have bad : ¬ (1 ≤ (xs.length : Int) ∧ (xs.length : Int) ≤ 6) → ∀ p, H p = none → Q (.ref p) (upd H p (.tup [.str "choices", .int s])) := fun c p hp => by
      refine k _ _ (sm_new hp) ?_
      unfold stF
      rw [if_neg (by rw [← lx]; exact c)]
      exact .tup (SqT.of upd_same) (.cons (.str _) (.cons (.int _) .nil))
    refine r_if (fun c1 => ?_) (fun c1 => ?_)
    rotate_left
    · walk_at "rd"
      exact ⟨(by show 2 ≤ sizeLine; decide), bad fun z => c1 z.1⟩
    walk_at "rd"
    refine r_ifN (fun c2 => ?_) (fun c2 => ?_)
    · walk_at "rd"
      exact ⟨(by show 2 ≤ sizeLine; decide), bad fun z => c2 z.2⟩
    have eq1 : stF m s cs = chF m s 0 cs := if_pos (by rw [← lx]; exact ⟨c1, c2⟩)
    rw [eq1] at k
    walk_at "rd"
    refine r_enumT ?_
    walk_at "rd"
    refine ⟨a, xs, rfl, sa, for_enumT (K := K) (a := a) (xs := xs) (fun i σ H' => ∃ (v3 v4 v5 : Option V), σ = [some (.int m), some (.int s), some (.ref a), v3, v4, v5] ∧ chF m s 0 cs = chF m s i (cs.drop i) ∧ Same H H')
      ⟨none, none, none, rfl, rfl, Same.refl _⟩ (fun i σ H' _ ⟨_, _, _, _, _, e⟩ => sm_t e sa) ?_ ?_⟩
    · rintro i v σ H' t hi ⟨v3, v4, v5, rfl, he, s1⟩ ht
      obtain ⟨c, hci, hvc⟩ := dpa_at da hi
      obtain ⟨ac, ae, es, rfl, sc, se, de⟩ := dp_C hvc
      rw [drop_at hci, chF_cons] at he
      refine ⟨t, _, rfl, SqT.of upd_same, rfl, _, _, rfl, _, _, rfl, ⟨ac, _, rfl, sm_t (s1.trans (sm_new ht)) sc, rfl, _, _, rfl, _, _, rfl, rfl, ?_⟩⟩
      refine ⟨rfl, ?_⟩
      have s2 := s1.trans (sm_new ht (o := .tup [.int (i : Nat), .ref ac]))
      walk_at "rd"
      have badc : ¬ (0 ≤ c.1 ∧ c.1 ≤ 1000) → ∀ p, (upd H' t (.tup [.int (i : Nat), .ref ac])) p = none → Q (.ref p) (upd (upd H' t (.tup [.int (i : Nat), .ref ac])) p (.tup [.str "cost", .int s, .int (i : Nat)])) := fun c p hp => by
        refine k _ _ (s2.trans (sm_new hp)) ?_
        rw [he, if_neg c]
        exact .tup (SqT.of upd_same) (.cons (.str _) (.cons (.int _) (.cons (.int _) .nil)))
      refine r_if (fun c3 => ?_) (fun c3 => ?_)
      rotate_left
      · walk_at "rd"
        exact ⟨(by show 3 ≤ sizeLine; decide), badc fun z => c3 z.1⟩
      walk_at "rd"
      refine r_ifN (fun c4 => ?_) (fun c4 => ?_)
      · walk_at "rd"
        exact ⟨(by show 3 ≤ sizeLine; decide), badc fun z => c4 z.2⟩
      rw [if_pos ⟨c3, c4⟩] at he
      walk_at "rd"
      refine ⟨m, .ref ae, c.2, rfl, dp_mono s2 (.tup se de), ?_⟩
      walk_at "rd"
      cases hb : areE m c.2 with
      | true =>
        rw [hb, if_pos rfl] at he
        walk_at "rd"
        exact ⟨_, _, _, rfl, he, s2⟩
      | false =>
        rw [hb, if_neg Bool.false_ne_true] at he
        walk_at "rd"
        refine ⟨(by show 3 ≤ sizeLine; decide), fun p hp => ?_⟩
        refine k _ _ (s2.trans (sm_new hp)) ?_
        rw [he]
        exact .tup (SqT.of upd_same) (.cons (.str _) (.cons (.int _) (.cons (.int _) .nil)))
    · rintro σ H' ⟨v3, v4, v5, rfl, he, s1⟩
      walk_at "rd"
      rw [drop_end lx] at he
      refine k _ _ s1 ?_
      rw [he]
      exact .non
def sp_fault (K : PySem.W.Frag) : Sp := fun vs H Q _ => ∃ (v : V) (y : List (List Cho)), vs = [v] ∧ Dp K H v (eY y) ∧
  ∀ (u : V) (H' : Hp), Same H H' → Dp K H' u (faultD y) → Q u H'
theorem yF_none {m : Int} {i : Nat} {s : List Cho} {r : List (List Cho)} (h : stF m (i : Nat) s = .none) : yF m i (s :: r) = yF m (i + 1) r := by
  rw [yF, h]
theorem yF_some {m : Int} {i : Nat} {s : List Cho} {r : List (List Cho)} (h : stF m (i : Nat) s ≠ .none) : yF m i (s :: r) = stF m (i : Nat) s := by
  rw [yF]
  cases e : stF m (i : Nat) s with
  | none => exact absurd e h
  | _ => rfl
theorem dp_none {K : PySem.W.Frag} {H : Hp} {v : V} {d : PyData} (h : Dp K H v d) : v = V.non ↔ d = PyData.none := by
  cases h with
  | non => exact ⟨fun _ => rfl, fun _ => rfl⟩
  | bl b => exact ⟨fun z => (nomatch z), fun z => (nomatch z)⟩
  | int i => exact ⟨fun z => (nomatch z), fun z => (nomatch z)⟩
  | str x => exact ⟨fun z => (nomatch z), fun z => (nomatch z)⟩
  | lst s a => exact ⟨fun z => (nomatch z), fun z => (nomatch z)⟩
  | tup s a => exact ⟨fun z => (nomatch z), fun z => (nomatch z)⟩
theorem sc_fault : FnScope ["system", "state", "choices", "found"] ["system"] (defScope s_fault) := ⟨rfl, rfl, rfl, by decide +kernel, rfl, by decide +kernel, by decide +kernel⟩
theorem ok_fault {P : Program} {w : World} {K : PySem.W.Frag} {mg : Str → Option Value} {base : Heap} (T : Env K mg) : FnOk P w K mg base CX0 3 T.a_fault T.d_fault ["system"] (sp_fault K) := by
  refine T.F_fault.ok sc_fault (fun vs H Q E h => ?_) (fun cdv A outer s H vs Q E hr h => ?_)
  · obtain ⟨v, y, rfl, _⟩ := h
    rfl
  · obtain ⟨v, y, rfl, hv, k⟩ := h
    have G_fault_in_state := ok_fault_in_state (P := P) (w := w) (base := base) T
    have hr_fault_in_state : Room 2 _ := hr.mono (by decide)
    refine ⟨_, (pss_cons (ps_if (pt_not (pt_chain op_le op_le pe_int (pe_callB call_len_seq (by rfl) T.z_len (by decide +kernel) (pa_cons (pv 0) pa_nil)) (pe_glob (v := .int 20) (by rfl) T.c_MOST_STATES ⟨_, rfl⟩))) (pss_one (ps_ret (pe_tup (pa_cons pe_str pa_nil)))) pss_nil)
      (pss_cons (ps_for PassesOwn.never rfl (pi_enumT (by rfl) T.z_enumerate (pa_cons (pv 0) pa_nil)) (pg_tup (by rfl) (pgs_cons (pg_name (i := 1) sc_fault.nd rfl (Or.inl rfl)) (pgs_cons (pg_name (i := 2) sc_fault.nd rfl (Or.inl rfl)) pgs_nil))) (pss_cons (ps_set (i := 3) sc_fault.nd rfl (Or.inl rfl) (pe_call G_fault_in_state hr_fault_in_state (by rfl) T.g_fault_in_state T.F_fault_in_state.kp T.b_fault_in_state .nil pass0 (pa_cons (pe_callB call_len_seq (by rfl) T.z_len (by decide +kernel) (pa_cons (pv 0) pa_nil)) (pa_cons (pv 1) (pa_cons (pv 2) pa_nil)))))
      (pss_one (ps_if (pt_cmpR op_notN (pv 3) pe_non (nomark _)) (pss_one (ps_ret (pv 3))) pss_nil))))
      (pss_one (ps_ret pe_non)))), ?_⟩
    obtain ⟨a, xs, rfl, sa, da⟩ := dp_tup hv
    have lx : xs.length = y.length := by
      have := dpa_len da
      rw [List.length_map] at this
      exact this
    walk_at "rd"
    refine ⟨a, xs, rfl, .inr sa, ?_⟩
    walk_at "rd"
    have bad : ¬ (1 ≤ (xs.length : Int) ∧ (xs.length : Int) ≤ 20) → ∀ p, H p = none → Q (.ref p) (upd H p (.tup [.str "states"])) := fun c p hp => by
      refine k _ _ (sm_new hp) ?_
      unfold faultD
      rw [if_neg (by rw [← lx]; exact c)]
      exact .tup (SqT.of upd_same) (.cons (.str _) .nil)
    refine r_if (fun c1 => ?_) (fun c1 => ?_)
    rotate_left
    · walk_at "rd"
      exact ⟨(by show 1 ≤ sizeLine; decide), bad fun z => c1 z.1⟩
    walk_at "rd"
    refine r_ifN (fun c2 => ?_) (fun c2 => ?_)
    · walk_at "rd"
      exact ⟨(by show 1 ≤ sizeLine; decide), bad fun z => c2 z.2⟩
    have eq1 : faultD y = yF y.length 0 y := if_pos (by rw [← lx]; exact ⟨c1, c2⟩)
    rw [eq1] at k
    walk_at "rd"
    refine r_enumT ?_
    walk_at "rd"
    refine ⟨a, xs, rfl, sa, for_enumT (K := K) (a := a) (xs := xs) (fun i σ H' => ∃ (v1 v2 v3 : Option V), σ = [some (.ref a), v1, v2, v3] ∧ yF y.length 0 y = yF y.length i (y.drop i) ∧ Same H H')
      ⟨none, none, none, rfl, rfl, Same.refl _⟩ (fun i σ H' _ ⟨_, _, _, _, _, e⟩ => sm_t e sa) ?_ ?_⟩
    · rintro i v σ H' t hi ⟨v1, v2, v3, rfl, he, s1⟩ ht
      obtain ⟨c, hci, hvc⟩ := dpa_at da hi
      rw [drop_at hci] at he
      refine r_gtup2 (SqT.of upd_same) ?_
      have s2 := s1.trans (sm_new ht (o := .tup [.int (i : Nat), v]))
      walk_at "rd"
      refine ⟨a, xs, rfl, .inr (sm_t s2 sa), ?_⟩
      walk_at "rd"
      refine ⟨_, _, v, c, rfl, dp_mono s2 hvc, fun u H2 s3 hu => ?_⟩
      rw [lx] at hu
      walk_at "rd"
      refine r_ifN (fun c3 => ?_) (fun c3 => ?_)
      · walk_at "rd"
        refine k _ _ (s2.trans s3) ?_
        rw [he, yF_some fun z => c3 ((dp_none hu).mpr z)]
        exact hu
      · walk_at "rd"
        rw [yF_none ((dp_none hu).mp c3)] at he
        exact ⟨_, _, _, rfl, he, s2.trans s3⟩
    · rintro σ H' ⟨v1, v2, v3, rfl, he, s1⟩
      walk_at "rd"
      rw [drop_end lx] at he
      refine k _ _ s1 ?_
      rw [he]
      exact .non
/-! ### the law's own look -/
def sp_l_fits (K : PySem.W.Frag) : Sp := fun vs H Q _ => ∃ (m : Int) (v : V) (es : List (Int × Int)), vs = [v, .int m] ∧ Dp K H v (.tuple (es.map eE)) ∧ es.length ≤ 1000 ∧ Q (.bl (areE m es)) H
theorem sc_l_fits : FnScope ["ends", "many", "k"] ["ends", "many"] (defScope s_l_fits) := ⟨rfl, rfl, rfl, by decide +kernel, rfl, by decide +kernel, by decide +kernel⟩
theorem ok_l_fits {P : Program} {w : World} {K : PySem.W.Frag} {mg : Str → Option Value} {base : Heap} (T : Env K mg) : FnOk P w K mg base CX0 1 T.a_l_fits T.d_l_fits ["ends", "many"] (sp_l_fits K) := by
  refine T.F_l_fits.ok sc_l_fits (fun vs H Q E h => ?_) (fun cdv A outer s H vs Q E hr h => ?_)
  · obtain ⟨m, v, es, rfl, _⟩ := h
    rfl
  · obtain ⟨m, v, es, rfl, hv, hle, k⟩ := h
    refine ⟨_, (pss_cons (ps_if (PW.pt (pw_or (pt_cmpR op_lt (pe_callB call_len_seq (by rfl) T.z_len (by decide +kernel) (pa_cons (pv 0) pa_nil)) pe_int (nomark _)) (pw_or1 (pt_cmpR op_gt (pe_callB call_len_seq (by rfl) T.z_len (by decide +kernel) (pa_cons (pv 0) pa_nil)) pe_int (nomark _))))) (pss_one (ps_ret pe_bl)) pss_nil)
      (pss_cons (ps_for PassesOwn.never rfl (pi_range1 (by rfl) T.z_range (pa_cons (pe_callB call_len_seq (by rfl) T.z_len (by decide +kernel) (pa_cons (pv 0) pa_nil)) pa_nil)) (pg_name (i := 2) sc_l_fits.nd rfl (Or.inl rfl)) (pss_cons (ps_if (PW.pt (pw_or (pt_cmpR op_lt (pe_ix ix_tup (pe_ix ix_tup (pv 0) (pv 2) (fun _ _ => rfl)) pe_int (fun _ _ => rfl)) pe_int (nomark _)) (pw_or (pt_cmpR op_ge (pe_ix ix_tup (pe_ix ix_tup (pv 0) (pv 2) (fun _ _ => rfl)) pe_int (fun _ _ => rfl)) (pv 1) (nomark _)) (pw_or (pt_cmpR op_lt (pe_ix ix_tup (pe_ix ix_tup (pv 0) (pv 2) (fun _ _ => rfl)) pe_int (fun _ _ => rfl)) pe_int (nomark _)) (pw_or1 (pt_cmpR op_gt (pe_ix ix_tup (pe_ix ix_tup (pv 0) (pv 2) (fun _ _ => rfl)) pe_int (fun _ _ => rfl)) pe_int (nomark _))))))) (pss_one (ps_ret pe_bl)) pss_nil)
      (pss_one (ps_if (PW.pt (pw_and (pt_cmpR op_gt (pv 2) pe_int (nomark _)) (pw_and1 (pt_cmpR op_le (pe_ix ix_tup (pe_ix ix_tup (pv 0) (pv 2) (fun _ _ => rfl)) pe_int (fun _ _ => rfl)) (pe_ix ix_tup (pe_ix ix_tup (pv 0) (pe_op op_sub (pv 2) pe_int) (fun _ _ => rfl)) pe_int (fun _ _ => rfl)) (nomark _))))) (pss_one (ps_ret pe_bl)) pss_nil))))
      (pss_one (ps_ret pe_bl)))), ?_⟩
    obtain ⟨a, xs, rfl, sa, da⟩ := dp_tup hv
    have lx : xs.length = es.length := by
      have := dpa_len da
      rw [List.length_map] at this
      exact this
    walk_at "rd"
    refine ⟨a, xs, rfl, .inr sa, ?_⟩
    walk_at "rd"
    refine r_if (fun c1 => ?_) (fun c1 => ?_)
    · walk_at "rd"
      have : areE m es = false := by
        unfold areE
        rw [decide_eq_false (by omega)]
        rfl
      rw [this] at k
      exact k
    walk_at "rd"
    refine ⟨a, xs, rfl, .inr sa, ?_⟩
    walk_at "rd"
    refine r_if (fun c2 => ?_) (fun c2 => ?_)
    · walk_at "rd"
      have : areE m es = false := by
        unfold areE
        rw [decide_eq_true (by omega), decide_eq_false (by omega)]
        rfl
      rw [this] at k
      exact k
    have eq1 : areE m es = endsB m (-1) es := by
      unfold areE
      rw [decide_eq_true (by omega), decide_eq_true (by omega)]
      rfl
    rw [eq1] at k
    walk_at "rd"
    refine ⟨a, xs, rfl, .inr sa, ?_⟩
    walk_at "rd"
    refine ⟨by omega, by omega, ?_⟩
    refine for_range (n := xs.length) (fun i σ H' => ∃ (b : Int) (v2 : Option V), σ = [some (.ref a), some (.int m), v2] ∧ endsB m (-1) es = endsB m b (es.drop i) ∧ -1 ≤ b ∧ (0 < i → ∃ e, es[i - 1]? = some e ∧ e.1 = b) ∧ (i = 0 → b = -1) ∧ H' = H)
      ⟨-1, none, rfl, rfl, by omega, fun z => absurd z (by decide), fun _ => rfl, rfl⟩ ?_ ?_
    · rintro i σ H' hi ⟨b, v2, rfl, he, hb, hpre, hz, rfl⟩
      obtain ⟨v, hiv⟩ : ∃ v, xs[i]? = some v := ⟨_, List.getElem?_eq_getElem hi⟩
      obtain ⟨e, hei, hve⟩ := dpa_at da hiv
      obtain ⟨ae, rfl, se⟩ := dp_E hve
      rw [drop_at hei, endsB_cons] at he
      have at1 : atI xs (0 + (i : Int)) = some (.ref ae) := at_of (j := i) (by omega) hiv
      have bad : ¬ (b < e.1 ∧ e.1 < m ∧ 1 ≤ e.2 ∧ e.2 ≤ 1000) → Q (.bl false) H' := fun c => by
        have z : (decide (b < e.1) && decide (e.1 < m) && decide (1 ≤ e.2) && decide (e.2 ≤ 1000) && endsB m e.1 (es.drop (i + 1))) = false := by
          by_cases c1 : b < e.1
          · by_cases c2 : e.1 < m
            · by_cases c3 : 1 ≤ e.2
              · by_cases c4 : e.2 ≤ 1000
                · exact absurd ⟨c1, c2, c3, c4⟩ c
                · rw [decide_eq_false c4, Bool.and_false, Bool.false_and]
              · rw [decide_eq_false c3, Bool.and_false, Bool.false_and, Bool.false_and]
            · rw [decide_eq_false c2, Bool.and_false, Bool.false_and, Bool.false_and, Bool.false_and]
          · rw [decide_eq_false c1, Bool.false_and, Bool.false_and, Bool.false_and, Bool.false_and]
        rw [he, z] at k
        exact k
      walk_at "rd"
      refine r_ixT sa at1 ?_
      walk_at "rd"
      refine r_ixT se (v := .int e.1) rfl ?_
      walk_at "rd"
      refine r_if (fun c3 => ?_) (fun c3 => ?_)
      · walk_at "rd"
        exact bad fun z => by omega
      walk_at "rd"
      refine r_ixT sa at1 ?_
      walk_at "rd"
      refine r_ixT se (v := .int e.1) rfl ?_
      walk_at "rd"
      refine r_if (fun c4 => ?_) (fun c4 => ?_)
      · walk_at "rd"
        exact bad fun z => by omega
      walk_at "rd"
      refine r_ixT sa at1 ?_
      walk_at "rd"
      refine r_ixT se (v := .int e.2) rfl ?_
      walk_at "rd"
      refine r_if (fun c5 => ?_) (fun c5 => ?_)
      · walk_at "rd"
        exact bad fun z => by omega
      walk_at "rd"
      refine r_ixT sa at1 ?_
      walk_at "rd"
      refine r_ixT se (v := .int e.2) rfl ?_
      walk_at "rd"
      refine r_if (fun c6 => ?_) (fun c6 => ?_)
      · walk_at "rd"
        exact bad fun z => by omega
      walk_at "rd"
      have good : b < e.1 → endsB m (-1) es = endsB m e.1 (es.drop (i + 1)) := fun c => by
        rw [he, decide_eq_true c, decide_eq_true (by omega : e.1 < m), decide_eq_true (by omega : 1 ≤ e.2), decide_eq_true (by omega : e.2 ≤ 1000)]
        rfl
      refine r_if (fun c7 => ?_) (fun c7 => ?_)
      · walk_at "rd"
        obtain ⟨e', hei', eb⟩ := hpre (by omega)
        obtain ⟨v', hv', hd'⟩ := dpa_of da hei'
        obtain ⟨ae', rfl, se'⟩ := dp_E hd'
        refine r_ixT sa at1 ?_
        walk_at "rd"
        refine r_ixT se (v := .int e.1) rfl ?_
        walk_at "rd"
        refine r_ixT sa (at_of (j := i - 1) (by omega) hv') ?_
        walk_at "rd"
        refine r_ixT se' (v := .int e'.1) rfl ?_
        walk_at "rd"
        refine r_if (fun c8 => ?_) (fun c8 => ?_)
        · walk_at "rd"
          exact bad fun z => by omega
        · walk_at "rd"
          exact ⟨e.1, _, rfl, good (by omega), by omega, fun _ => ⟨e, by simpa using hei, rfl⟩, fun z => by omega, rfl⟩
      · walk_at "rd"
        have hi0 : i = 0 := by omega
        have := hz hi0
        exact ⟨e.1, _, rfl, good (by omega), by omega, fun _ => ⟨e, by simpa using hei, rfl⟩, fun z => by omega, rfl⟩
    · rintro σ H' ⟨b, v2, rfl, he, hb, hpre, hz, rfl⟩
      walk_at "rd"
      rw [drop_end lx] at he
      rw [he] at k
      exact k
def sp_l_due (K : PySem.W.Frag) : Sp := fun vs H Q _ => ∃ (v : V) (y : List (List Cho)), vs = [v] ∧ Dp K H v (eY y) ∧ Sz y ∧
  ∀ (u : V) (H' : Hp), Same H H' → Dp K H' u (faultD y) → Q u H'
theorem sc_l_due : FnScope ["system", "state", "number", "cost", "ends"] ["system"] (defScope s_l_due) := ⟨rfl, rfl, rfl, by decide +kernel, rfl, by decide +kernel, by decide +kernel⟩
theorem ok_l_due {P : Program} {w : World} {K : PySem.W.Frag} {mg : Str → Option Value} {base : Heap} (T : Env K mg) : FnOk P w K mg base CX0 2 T.a_l_due T.d_l_due ["system"] (sp_l_due K) := by
  refine T.F_l_due.ok sc_l_due (fun vs H Q E h => ?_) (fun cdv A outer s H vs Q E hr h => ?_)
  · obtain ⟨v, y, rfl, _⟩ := h
    rfl
  · obtain ⟨v, y, rfl, hv, ⟨hz1, hz2⟩, k⟩ := h
    have G_l_fits := ok_l_fits (P := P) (w := w) (base := base) T
    have hr_l_fits : Room 1 _ := hr.mono (by decide)
    refine ⟨_, (pss_cons (ps_if (PW.pt (pw_or (pt_cmpR op_lt (pe_callB call_len_seq (by rfl) T.z_len (by decide +kernel) (pa_cons (pv 0) pa_nil)) pe_int (nomark _)) (pw_or1 (pt_cmpR op_gt (pe_callB call_len_seq (by rfl) T.z_len (by decide +kernel) (pa_cons (pv 0) pa_nil)) pe_int (nomark _))))) (pss_one (ps_ret (pe_tup (pa_cons pe_str pa_nil)))) pss_nil)
      (pss_cons (ps_for PassesOwn.never rfl (pi_range1 (by rfl) T.z_range (pa_cons (pe_callB call_len_seq (by rfl) T.z_len (by decide +kernel) (pa_cons (pv 0) pa_nil)) pa_nil)) (pg_name (i := 1) sc_l_due.nd rfl (Or.inl rfl)) (pss_cons (ps_if (PW.pt (pw_or (pt_cmpR op_lt (pe_callB call_len_seq (by rfl) T.z_len (by decide +kernel) (pa_cons (pe_ix ix_tup (pv 0) (pv 1) (fun _ _ => rfl)) pa_nil)) pe_int (nomark _)) (pw_or1 (pt_cmpR op_gt (pe_callB call_len_seq (by rfl) T.z_len (by decide +kernel) (pa_cons (pe_ix ix_tup (pv 0) (pv 1) (fun _ _ => rfl)) pa_nil)) pe_int (nomark _))))) (pss_one (ps_ret (pe_tup (pa_cons pe_str (pa_cons (pv 1) pa_nil))))) pss_nil)
      (pss_one (ps_for PassesOwn.never rfl (pi_range1 (by rfl) T.z_range (pa_cons (pe_callB call_len_seq (by rfl) T.z_len (by decide +kernel) (pa_cons (pe_ix ix_tup (pv 0) (pv 1) (fun _ _ => rfl)) pa_nil)) pa_nil)) (pg_name (i := 2) sc_l_due.nd rfl (Or.inl rfl)) (pss_cons (ps_asg (pe_ix ix_tup (pe_ix ix_tup (pv 0) (pv 1) (fun _ _ => rfl)) (pv 2) (fun _ _ => rfl)) (pg_tup (by rfl) (pgs_cons (pg_name (i := 3) sc_l_due.nd rfl (Or.inl rfl)) (pgs_cons (pg_name (i := 4) sc_l_due.nd rfl (Or.inl rfl)) pgs_nil))))
      (pss_cons (ps_if (PW.pt (pw_or (pt_cmpR op_lt (pv 3) pe_int (nomark _)) (pw_or1 (pt_cmpR op_gt (pv 3) pe_int (nomark _))))) (pss_one (ps_ret (pe_tup (pa_cons pe_str (pa_cons (pv 1) (pa_cons (pv 2) pa_nil)))))) pss_nil)
      (pss_one (ps_if (pt_not (pt_val (pe_call G_l_fits hr_l_fits (by rfl) T.g_l_fits T.F_l_fits.kp T.b_l_fits .nil pass0 (pa_cons (pv 4) (pa_cons (pe_callB call_len_seq (by rfl) T.z_len (by decide +kernel) (pa_cons (pv 0) pa_nil)) pa_nil))))) (pss_one (ps_ret (pe_tup (pa_cons pe_str (pa_cons (pv 1) (pa_cons (pv 2) pa_nil)))))) pss_nil))))))))
      (pss_one (ps_ret pe_non)))), ?_⟩
    obtain ⟨a, xs, rfl, sa, da⟩ := dp_tup hv
    have lx : xs.length = y.length := by
      have := dpa_len da
      rw [List.length_map] at this
      exact this
    have bad : ¬ (1 ≤ (xs.length : Int) ∧ (xs.length : Int) ≤ 20) → ∀ p, H p = none → Q (.ref p) (upd H p (.tup [.str "states"])) := fun c p hp => by
      refine k _ _ (sm_new hp) ?_
      unfold faultD
      rw [if_neg (by rw [← lx]; exact c)]
      exact .tup (SqT.of upd_same) (.cons (.str _) .nil)
    walk_at "rd"
    refine ⟨a, xs, rfl, .inr sa, ?_⟩
    walk_at "rd"
    refine r_if (fun c1 => ?_) (fun c1 => ?_)
    · walk_at "rd"
      exact ⟨(by show 1 ≤ sizeLine; decide), bad fun z => by omega⟩
    walk_at "rd"
    refine ⟨a, xs, rfl, .inr sa, ?_⟩
    walk_at "rd"
    refine r_if (fun c2 => ?_) (fun c2 => ?_)
    · walk_at "rd"
      exact ⟨(by show 1 ≤ sizeLine; decide), bad fun z => by omega⟩
    have eq1 : faultD y = yF y.length 0 y := if_pos (by rw [← lx]; omega)
    rw [eq1] at k
    walk_at "rd"
    refine ⟨a, xs, rfl, .inr sa, ?_⟩
    walk_at "rd"
    refine ⟨by omega, by omega, ?_⟩
    refine for_range (n := xs.length) (fun i σ H' => ∃ (v1 v2 v3 v4 : Option V), σ = [some (.ref a), v1, v2, v3, v4] ∧ yF y.length 0 y = yF y.length i (y.drop i) ∧ Same H H')
      ⟨none, none, none, none, rfl, rfl, Same.refl _⟩ ?_ ?_
    · rintro i σ H' hi ⟨v1, v2, v3, v4, rfl, he, s1⟩
      obtain ⟨v, hiv⟩ : ∃ v, xs[i]? = some v := ⟨_, List.getElem?_eq_getElem hi⟩
      obtain ⟨st, hst, hvs⟩ := dpa_at da hiv
      obtain ⟨as, us, rfl, ss, ds⟩ := dp_tup hvs
      have lu : us.length = st.length := by
        have := dpa_len ds
        rw [List.length_map] at this
        exact this
      obtain ⟨hs1, hs2⟩ := hz2 st (List.mem_of_getElem? hst)
      rw [drop_at hst] at he
      have at1 : atI xs (0 + (i : Int)) = some (.ref as) := at_of (j := i) (by omega) hiv
      have i0 : (0 + (i : Int)) = (i : Nat) := by omega
      have bads : ¬ (1 ≤ (us.length : Int) ∧ (us.length : Int) ≤ 6) → ∀ p, H' p = none → Q (.ref p) (upd H' p (.tup [.str "choices", .int (0 + (i : Int))])) := fun c p hp => by
        refine k _ _ (s1.trans (sm_new hp)) ?_
        have e1 : stF y.length (i : Nat) st = tS1 "choices" (i : Nat) := if_neg (by rw [← lu]; exact c)
        rw [he, yF_some (by rw [e1]; exact fun z => (nomatch z)), e1, i0]
        exact .tup (SqT.of upd_same) (.cons (.str _) (.cons (.int _) .nil))
      walk_at "rd"
      refine r_ixT (sm_t s1 sa) at1 ?_
      walk_at "rd"
      refine ⟨as, us, rfl, .inr (sm_t s1 ss), ?_⟩
      walk_at "rd"
      refine r_if (fun c3 => ?_) (fun c3 => ?_)
      · walk_at "rd"
        exact ⟨(by show 2 ≤ sizeLine; decide), bads fun z => by omega⟩
      walk_at "rd"
      refine r_ixT (sm_t s1 sa) at1 ?_
      walk_at "rd"
      refine ⟨as, us, rfl, .inr (sm_t s1 ss), ?_⟩
      walk_at "rd"
      refine r_if (fun c4 => ?_) (fun c4 => ?_)
      · walk_at "rd"
        exact ⟨(by show 2 ≤ sizeLine; decide), bads fun z => by omega⟩
      have e2 : stF y.length (i : Nat) st = chF y.length (i : Nat) 0 st := if_pos (by rw [← lu]; omega)
      walk_at "rd"
      refine r_ixT (sm_t s1 sa) at1 ?_
      walk_at "rd"
      refine ⟨as, us, rfl, .inr (sm_t s1 ss), ?_⟩
      walk_at "rd"
      refine ⟨by omega, by omega, ?_⟩
      refine for_range (n := us.length) (fun j σ H2 => ∃ (v2 v3 v4 : Option V), σ = [some (.ref a), some (.int (0 + (i : Int))), v2, v3, v4] ∧ chF y.length (i : Nat) 0 st = chF y.length (i : Nat) j (st.drop j) ∧ Same H H2)
        ⟨_, _, _, rfl, rfl, s1⟩ ?_ ?_
      · rintro j σ H2 hj ⟨v2, v3, v4, rfl, hc, s2⟩
        obtain ⟨v, hjv⟩ : ∃ v, us[j]? = some v := ⟨_, List.getElem?_eq_getElem hj⟩
        obtain ⟨c, hcj, hvc⟩ := dpa_at ds hjv
        obtain ⟨ac, ae, es, rfl, sc, se, de⟩ := dp_C hvc
        have hes := hs2 c (List.mem_of_getElem? hcj)
        rw [drop_at hcj, chF_cons] at hc
        have j0 : (0 + (j : Int)) = (j : Nat) := by omega
        have fin : ∀ (x : String) (p : Addr), H2 p = none → chF y.length (i : Nat) 0 st = tS2 x (i : Nat) (j : Nat) → Q (.ref p) (upd H2 p (.tup [.str (Str.ofString x), .int (0 + (i : Int)), .int (0 + (j : Int))])) := fun x p hp e => by
          refine k _ _ (s2.trans (sm_new hp)) ?_
          rw [he, yF_some (by rw [e2, e]; exact fun z => (nomatch z)), e2, e, i0, j0]
          exact .tup (SqT.of upd_same) (.cons (.str _) (.cons (.int _) (.cons (.int _) .nil)))
        walk_at "rd"
        refine r_ixT (sm_t s2 sa) at1 ?_
        walk_at "rd"
        refine r_ixT (sm_t s2 ss) (at_of (j := j) (by omega) hjv) ?_
        refine r_gtup2 (sm_t s2 sc) ?_
        walk_at "rd"
        refine r_if (fun c5 => ?_) (fun c5 => ?_)
        · walk_at "rd"
          exact ⟨(by show 3 ≤ sizeLine; decide), fun p hp => fin "cost" p hp (by rw [hc, if_neg (by omega)])⟩
        walk_at "rd"
        refine r_if (fun c6 => ?_) (fun c6 => ?_)
        · walk_at "rd"
          exact ⟨(by show 3 ≤ sizeLine; decide), fun p hp => fin "cost" p hp (by rw [hc, if_neg (by omega)])⟩
        rw [if_pos (by omega)] at hc
        walk_at "rd"
        refine ⟨a, xs, rfl, .inr (sm_t s2 sa), ?_⟩
        walk_at "rd"
        refine ⟨_, .ref ae, c.2, rfl, dp_mono s2 (.tup se de), hes, ?_⟩
        rw [lx]
        walk_at "rd"
        cases hb : areE y.length c.2 with
        | true =>
          rw [hb, if_pos rfl] at hc
          walk_at "rd"
          exact ⟨_, _, _, rfl, hc, s2⟩
        | false =>
          rw [hb, if_neg Bool.false_ne_true] at hc
          walk_at "rd"
          exact ⟨(by show 3 ≤ sizeLine; decide), fun p hp => fin "ends" p hp hc⟩
      · rintro σ H2 ⟨v2, v3, v4, rfl, hc, s2⟩
        rw [drop_end lu] at hc
        rw [yF_none (by rw [e2, hc]; rfl)] at he
        exact ⟨_, _, _, _, rfl, he, s2⟩
    · rintro σ H' ⟨v1, v2, v3, v4, rfl, he, s1⟩
      walk_at "rd"
      rw [drop_end lx] at he
      refine k _ _ s1 ?_
      rw [he]
      exact .non
/-! ### the law's changes: what comes out is some system of no great size -/
def SzN (N : Nat) (y : List (List Cho)) : Prop := ∀ s ∈ y, s.length ≤ 7 ∧ ∀ c ∈ s, c.2.length ≤ N
def StN (N : Nat) (s : List Cho) : Prop := s.length ≤ 7 ∧ ∀ c ∈ s, c.2.length ≤ N
theorem one_dp {K : PySem.W.Frag} {H : Hp} {q : Addr} {v : V} {d : PyData} (h : H q = some (.tup [v])) (hd : Dp K H v d) : SqT K H q [v] ∧ DpAll K H [v] [d] := ⟨SqT.of h, .cons hd .nil⟩
/-- the law's range(7) of ends -/
theorem sz_put {N : Nat} {y : List (List Cho)} {i : Nat} {s : List Cho} (h : SzN N y) (hs : StN (N + 1) s) (hi : i < y.length) : (y.take i ++ [s] ++ y.drop (i + 1)).length = y.length ∧ SzN (N + 1) (y.take i ++ [s] ++ y.drop (i + 1)) := by
  refine ⟨?_, fun x hx => ?_⟩
  · rw [List.length_append, List.length_append, List.length_take, List.length_drop]
    simp
    omega
  · rcases List.mem_append.mp hx with hx | hx
    · rcases List.mem_append.mp hx with hx | hx
      · have := h x (List.mem_of_mem_take hx)
        exact ⟨this.1, fun c hc => Nat.le_succ_of_le (this.2 c hc)⟩
      · rw [List.mem_singleton.mp hx]
        exact hs
    · have := h x (List.mem_of_mem_drop hx)
      exact ⟨this.1, fun c hc => Nat.le_succ_of_le (this.2 c hc)⟩
def sp_l_changed (K : PySem.W.Frag) : Sp := fun vs H Q _ => ∃ (p t : Addr) (ts : List Int) (n : Int) (v : V) (y : List (List Cho)) (N : Nat), vs = [.ref p, v] ∧ Tp H p t ts n ∧ n ≤ 2 ^ 38 ∧ Dp K H v (eY y) ∧ y.length ≤ 20 ∧ SzN N y ∧ 7 ≤ N ∧ N ≤ 500 ∧
  ∀ (v' : V) (y' : List (List Cho)) (H' : Hp), Dp K H' v' (eY y') → y'.length = y.length → SzN (N + 1) y' → Tp H' p t ts (n + 10) → Fm p H H' → Q v' H'
theorem sc_l_changed : FnScope ["state", "system", "at", "choices", "way", "number", "cost", "ends", "place", "weight", "k"] ["state", "system"] (defScope s_l_changed) := ⟨rfl, rfl, rfl, by decide +kernel, rfl, by decide +kernel, by decide +kernel⟩
set_option maxHeartbeats 4000000 in
theorem ok_l_changed {P : Program} {w : World} {K : PySem.W.Frag} {mg : Str → Option Value} {base : Heap} (T : Env K mg) : FnOk P w K mg base CX0 3 T.a_l_changed T.d_l_changed ["state", "system"] (sp_l_changed K) := by
  refine T.F_l_changed.ok sc_l_changed (fun vs H Q E h => ?_) (fun cdv A outer s H vs Q E hr h => ?_)
  · obtain ⟨p, t, ts, n, v, y, N, rfl, _⟩ := h
    rfl
  · obtain ⟨p, t, ts, n, v, y, N, rfl, T0, hn, hv, hy20, hsz, hN7, hN, k⟩ := h
    have G_l_take := ok_l_take (P := P) (w := w) (base := base) T
    have hr_l_take : Room 2 _ := hr.mono (by decide)
    refine ⟨_, (pss_cons (ps_if (pt_cmpR op_eq (pe_callB call_len_seq (by rfl) T.z_len (by decide +kernel) (pa_cons (pv 1) pa_nil)) pe_int (nomark _)) (pss_one (ps_ret (pv 1))) pss_nil)
      (pss_cons (ps_set (i := 2) sc_l_changed.nd rfl (Or.inl rfl) (pe_call G_l_take hr_l_take (by rfl) T.g_l_take T.F_l_take.kp T.b_l_take .nil pass0 (pa_cons (pv 0) (pa_cons (pe_callB call_len_seq (by rfl) T.z_len (by decide +kernel) (pa_cons (pv 1) pa_nil)) pa_nil))))
      (pss_cons (ps_set (i := 3) sc_l_changed.nd rfl (Or.inl rfl) (pe_ix ix_tup (pv 1) (pv 2) (fun _ _ => rfl)))
      (pss_cons (ps_set (i := 4) sc_l_changed.nd rfl (Or.inl rfl) (pe_call G_l_take hr_l_take (by rfl) T.g_l_take T.F_l_take.kp T.b_l_take .nil pass0 (pa_cons (pv 0) (pa_cons pe_int pa_nil))))
      (pss_cons (ps_if (PW.pt (pw_or (pt_cmpR op_eq (pv 4) pe_int (nomark _)) (pw_or1 (pt_cmpR op_eq (pe_callB call_len_seq (by rfl) T.z_len (by decide +kernel) (pa_cons (pv 3) pa_nil)) pe_int (nomark _))))) (pss_cons (ps_set (i := 3) sc_l_changed.nd rfl (Or.inl rfl) (pe_ix ix_list (pe_lst (pa_cons (pe_tup pa_nil) (pa_cons (pe_slice sl_tupA (pe_op op_repA (pv 3) pe_int) po_none (po_some pe_int)) (pa_cons (pe_slice sl_tupA (pe_op op_repA (pv 3) pe_int) po_none (po_some pe_int)) pa_nil)))) (pe_call G_l_take hr_l_take (by rfl) T.g_l_take T.F_l_take.kp T.b_l_take .nil pass0 (pa_cons (pv 0) (pa_cons pe_int pa_nil))) (fun _ _ => rfl)))
      (pss_one (ps_ret (pe_op op_catA (pe_op op_catA (pe_slice sl_tupA (pv 1) po_none (po_some (pv 2))) (pe_tup (pa_cons (pv 3) pa_nil))) (pe_slice sl_tupA (pv 1) (po_some (pe_op op_add (pv 2) pe_int)) po_none))))) pss_nil)
      (pss_cons (ps_set (i := 5) sc_l_changed.nd rfl (Or.inl rfl) (pe_call G_l_take hr_l_take (by rfl) T.g_l_take T.F_l_take.kp T.b_l_take .nil pass0 (pa_cons (pv 0) (pa_cons (pe_callB call_len_seq (by rfl) T.z_len (by decide +kernel) (pa_cons (pv 3) pa_nil)) pa_nil))))
      (pss_cons (ps_asg (pe_ix ix_tup (pv 3) (pv 5) (fun _ _ => rfl)) (pg_tup (by rfl) (pgs_cons (pg_name (i := 6) sc_l_changed.nd rfl (Or.inl rfl)) (pgs_cons (pg_name (i := 7) sc_l_changed.nd rfl (Or.inl rfl)) pgs_nil))))
      (C8.pss_cut (ps_if (pt_cmpR op_lt (pv 4) pe_int (nomark _)) (pss_one (ps_set (i := 6) sc_l_changed.nd rfl (Or.inl rfl) (pe_ix ix_list (pe_lst (pa_cons (pe_op op_sub pe_int pe_int) (pa_cons pe_int (pa_cons pe_int pa_nil)))) (pe_call G_l_take hr_l_take (by rfl) T.g_l_take T.F_l_take.kp T.b_l_take .nil pass0 (pa_cons (pv 0) (pa_cons pe_int pa_nil))) (fun _ _ => rfl)))) (pss_one (ps_if (pt_cmpR op_eq (pv 4) pe_int (nomark _)) (pss_one (ps_set (i := 7) sc_l_changed.nd rfl (Or.inl rfl) (pe_ix ix_list (pe_lst (pa_cons (pe_tup pa_nil) (pa_cons (pe_callTy call_tuple_of (by rfl) T.z_tuple (by decide +kernel) (pa_cons (pe_lc (own := [("k", 10)]) (g := gName 10) (by rfl) sc_l_changed.nd (pi_range1 (by rfl) T.z_range (pa_cons pe_int pa_nil)) (blkOk_by (own := [("k", 10)]) (N := ["state", "system", "at", "choices", "way", "number", "cost", "ends", "place", "weight", "k"]) (sc := defScope s_l_changed) (by decide +kernel)) (fun _ _ _ _ _ => (pg_name (i := 10) sc_l_changed.nd rfl (Or.inl rfl))) (fun _ _ _ _ _ => pts_nil) (fun _ _ _ _ _ => (pe_tup (pa_cons (pv 10) (pa_cons pe_int pa_nil))))) pa_nil)) (pa_cons (pe_revT (pv 7)) (pa_cons (pe_op op_catA (pv 7) (pe_slice sl_tupA (pv 7) (po_some (pe_un un_neg pe_int)) po_none)) pa_nil))))) (pe_call G_l_take hr_l_take (by rfl) T.g_l_take T.F_l_take.kp T.b_l_take .nil pass0 (pa_cons (pv 0) (pa_cons pe_int pa_nil))) (fun _ _ => rfl)))) (pss_one (ps_if (PW.pt (pw_and (pt_cmpR op_lt (pv 4) pe_int (nomark _)) (pw_and1 (pt_cmpR op_gt (pe_callB call_len_seq (by rfl) T.z_len (by decide +kernel) (pa_cons (pv 7) pa_nil)) pe_int (nomark _))))) (pss_one (ps_set (i := 7) sc_l_changed.nd rfl (Or.inl rfl) (pe_op op_catA (pe_slice sl_tupA (pv 7) po_none (po_some (pe_un un_neg pe_int))) (pe_tup (pa_cons (pe_tup (pa_cons (pe_ix ix_list (pe_lst (pa_cons (pe_callB call_len_seq (by rfl) T.z_len (by decide +kernel) (pa_cons (pv 1) pa_nil)) (pa_cons (pe_op op_sub (pe_callB call_len_seq (by rfl) T.z_len (by decide +kernel) (pa_cons (pv 1) pa_nil)) pe_int) (pa_cons (pe_op op_sub pe_int pe_int) pa_nil)))) (pe_call G_l_take hr_l_take (by rfl) T.g_l_take T.F_l_take.kp T.b_l_take .nil pass0 (pa_cons (pv 0) (pa_cons pe_int pa_nil))) (fun _ _ => rfl)) (pa_cons (pe_ix ix_tup (pe_ix ix_tup (pv 7) (pe_un un_neg pe_int) (fun _ _ => rfl)) pe_int (fun _ _ => rfl)) pa_nil))) pa_nil))))) (pss_one (ps_if (pt_cmpR op_gt (pe_callB call_len_seq (by rfl) T.z_len (by decide +kernel) (pa_cons (pv 7) pa_nil)) pe_int (nomark _)) (pss_cons (ps_set (i := 8) sc_l_changed.nd rfl (Or.inl rfl) (pe_call G_l_take hr_l_take (by rfl) T.g_l_take T.F_l_take.kp T.b_l_take .nil pass0 (pa_cons (pv 0) (pa_cons (pe_callB call_len_seq (by rfl) T.z_len (by decide +kernel) (pa_cons (pv 7) pa_nil)) pa_nil))))
      (pss_cons (ps_set (i := 9) sc_l_changed.nd rfl (Or.inl rfl) (pe_ix ix_list (pe_lst (pa_cons pe_int (pa_cons pe_int (pa_cons pe_int (pa_cons (pe_op op_sub pe_int pe_int) pa_nil))))) (pe_call G_l_take hr_l_take (by rfl) T.g_l_take T.F_l_take.kp T.b_l_take .nil pass0 (pa_cons (pv 0) (pa_cons pe_int pa_nil))) (fun _ _ => rfl)))
      (pss_one (ps_set (i := 7) sc_l_changed.nd rfl (Or.inl rfl) (pe_op op_catA (pe_op op_catA (pe_slice sl_tupA (pv 7) po_none (po_some (pv 8))) (pe_tup (pa_cons (pe_tup (pa_cons (pe_ix ix_tup (pe_ix ix_tup (pv 7) (pv 8) (fun _ _ => rfl)) pe_int (fun _ _ => rfl)) (pa_cons (pv 9) pa_nil))) pa_nil))) (pe_slice sl_tupA (pv 7) (po_some (pe_op op_add (pv 8) pe_int)) po_none)))))) pss_nil)))))))
      (pss_one (ps_ret (pe_op op_catA (pe_op op_catA (pe_slice sl_tupA (pv 1) po_none (po_some (pv 2))) (pe_tup (pa_cons (pe_op op_catA (pe_op op_catA (pe_slice sl_tupA (pv 3) po_none (po_some (pv 5))) (pe_tup (pa_cons (pe_tup (pa_cons (pv 6) (pa_cons (pv 7) pa_nil))) pa_nil))) (pe_slice sl_tupA (pv 3) (po_some (pe_op op_add (pv 5) pe_int)) po_none)) pa_nil))) (pe_slice sl_tupA (pv 1) (po_some (pe_op op_add (pv 2) pe_int)) po_none)))))))))))), ?_⟩
    obtain ⟨a, xs, rfl, sa, da⟩ := dp_tup hv
    have lx : xs.length = y.length := by
      have := dpa_len da
      rw [List.length_map] at this
      exact this
    walk_at "rd"
    refine ⟨a, xs, rfl, .inr sa, ?_⟩
    walk_at "rd"
    refine r_if (fun c1 => ?_) (fun c1 => ?_)
    · walk_at "rd"
      exact k _ y _ hv rfl (fun s hs => ⟨(hsz s hs).1, fun c hc => Nat.le_succ_of_le ((hsz s hs).2 c hc)⟩) (T0.mono (by omega)) Fm.refl
    walk_at "rd"
    refine ⟨a, xs, rfl, .inr sa, ?_⟩
    refine ⟨p, t, ts, n, _, rfl, T0, by omega, by omega, fun i H1 i0 i1 T1 e1 => ?_⟩
    obtain ⟨ii, rfl⟩ : ∃ ii : Nat, i = (ii : Int) := ⟨i.toNat, by omega⟩
    have hii : ii < xs.length := by omega
    obtain ⟨u, hu⟩ : ∃ u, xs[ii]? = some u := ⟨_, List.getElem?_eq_getElem hii⟩
    obtain ⟨st, hst, hvs⟩ := dpa_at da hu
    obtain ⟨as, us, rfl, ss, ds⟩ := dp_tup hvs
    have lu : us.length = st.length := by
      have := dpa_len ds
      rw [List.length_map] at this
      exact this
    obtain ⟨hst7, hstc⟩ := hsz st (List.mem_of_getElem? hst)
    have k1 : Tk H H1 := T0.tk (fm_off e1)
    walk_at "rd"
    refine r_ixT (tk_t k1 sa) (at_of (j := ii) rfl hu) ?_
    walk_at "rd"
    refine ⟨p, t, ts, _, 10, rfl, T1, by omega, by decide, fun way H2 w0 w1 T2 e2 => ?_⟩
    have k2 : Tk H H2 := k1.trans (T1.tk (fm_off e2))
    have F2 : Fm p H H2 := Fm.trans (fm_off e1) (fm_off e2)
    have sa2 := tk_t k2 sa
    have da2 := dpa_tk k2 (tu_map _ tu_S) da
    have ss2 := tk_t k2 ss
    have ds2 := dpa_tk k2 (tu_map _ tu_C) ds
    -- the system with another state at its place
    have put : ∀ (H3 : Hp) (b : Addr) (zs : List V) (cs : List Cho) (Hq : Hp), Fm p H Hq → Tp Hq p t ts (n + 10) → Same Hq H3 → SqT K H3 b zs → DpAll K H3 zs (((y.map eS).take ii ++ [eS cs]) ++ (y.map eS).drop (ii + 1)) → StN (N + 1) cs → Q (.ref b) H3 := fun H3 b zs cs Hq Fq Tq s3 hb hd hcs => by
      obtain ⟨l1, l2⟩ := sz_put hsz hcs (by omega : ii < y.length)
      refine k _ (y.take ii ++ [cs] ++ y.drop (ii + 1)) H3 (.tup hb ?_) l1 l2 (Tq.same s3) (Fq.trans (Same_fm s3))
      rw [List.map_append, List.map_append, List.map_take, List.map_drop]
      exact hd
    walk_at "rd"
    refine r_if (fun c => ?wa) (fun c => ?wb)
    case' wb =>
      walk_at "rd"
      refine ⟨as, us, rfl, .inr ss2, ?_⟩
      walk_at "rd"
      refine r_if (fun _ => ?wc) (fun c2 => ?wd)
    case wa | wc =>
      walk_at "rd"
      refine ⟨by decide, fun q1 hq1 => ?_⟩
      walk_at "rd"
      have s1 := sm_new hq1 (o := .tup [])
      refine t_rep (sm_t s1 ss2) (dpa_mono s1 ds2) (by decide) (by decide) (by rw [List.length_map]; omega) fun q2 zs2 H3 s2 hq2 hd2 => ?_
      walk_at "rd"
      refine t_sl hq2 hd2 fun q3 zs3 H4 s3 hq3 hd3 => ?_
      walk_at "rd"
      have s04 := s1.trans (s2.trans s3)
      refine t_rep (sm_t s04 ss2) (dpa_mono s04 ds2) (by decide) (by decide) (by rw [List.length_map]; omega) fun q4 zs4 H5 s5 hq4 hd4 => ?_
      walk_at "rd"
      refine t_sl hq4 hd4 fun q5 zs5 H6 s6 hq5 hd5 => ?_
      walk_at "rd"
      refine ⟨(by show 3 ≤ sizeLine; decide), fun L hL => ?_⟩
      walk_at "rd"
      have s06 := s04.trans (s5.trans s6)
      have T6 := (T2.same s06).same (sm_new hL (o := .lst [.ref q1, .ref q3, .ref q5]))
      obtain ⟨nLp, _⟩ := (T2.same s06).fresh hL
      refine ⟨p, t, ts, _, 3, rfl, T6, by omega, by decide, fun r H7 r0 r1 T7 e7 => ?_⟩
      have kL : Tk H6 H7 := (tk_new hL).trans (T6.tk (fm_off e7))
      have big : ∀ (z : Int) (zs : List V) (b : Addr) (Hz : Hp), 0 ≤ z → z ≤ 7 → SqT K Hz b zs → DpAll K Hz zs (cutL (List.replicate (Int.toNat 7) (st.map eC)).flatten none (some z)) → ∃ cs : List Cho, Dp K Hz (.ref b) (eS cs) ∧ StN (N + 1) cs := fun z zs b Hz z0 z7 hb hd => by
        have em : (List.replicate (Int.toNat 7) (st.map eC)).flatten = ((List.replicate (Int.toNat 7) st).flatten).map eC := by rw [List.map_flatten, List.map_replicate]
        rw [em, cut_map, cut_take z0] at hd
        refine ⟨_, .tup hb hd, ?_, fun c hc => ?_⟩
        · rw [List.length_take]
          omega
        · obtain ⟨l, hl, hcl⟩ := List.mem_flatten.mp (List.mem_of_mem_take hc)
          rw [(List.mem_replicate.mp hl).2] at hcl
          exact Nat.le_succ_of_le (hstc c hcl)
      obtain ⟨vv, ⟨cs, hcs1, hcs2⟩, hpick⟩ := pickV (K := K) (H := H7) (r := r) (fun v => ∃ cs : List Cho, Dp K H7 v (eS cs) ∧ StN (N + 1) cs) ((e7 L nLp).trans upd_same) r0 (by show r < 3; exact r1) fun v hv => by
        rcases List.mem_cons.mp hv with rfl | hv
        · refine ⟨[], dp_tk kL (tu_S _) (.tup (SqT.of ((s2.trans (s3.trans (s5.trans s6))) q1 (.tup []) upd_same)) .nil), by decide, fun c hc => by cases hc⟩
        · rcases List.mem_cons.mp hv with rfl | hv
          · obtain ⟨cs, h1, h2⟩ := big 6 zs3 q3 H4 (by decide) (by decide) hq3 hd3
            exact ⟨cs, dp_tk kL (tu_S _) (dp_mono (s5.trans s6) h1), h2⟩
          · rw [List.mem_singleton.mp hv]
            obtain ⟨cs, h1, h2⟩ := big 7 zs5 q5 H6 (by decide) (by decide) hq5 hd5
            exact ⟨cs, dp_tk kL (tu_S _) h1, h2⟩
      refine hpick _ ?_
      walk_at "rd"
      have k7 : Tk H2 H7 := (Same_tk s06).trans kL
      refine t_sl (tk_t k7 sa2) (dpa_tk k7 (tu_map _ tu_S) da2) fun b1 zs1 H8 s8 hb1 hd1 => ?_
      walk_at "rd"
      refine ⟨(by show 1 ≤ sizeLine; decide), fun b2 hb2 => ?_⟩
      have s9 := sm_new hb2 (o := .tup [vv])
      refine t_cat (sm_t s9 hb1) (dpa_mono s9 hd1) (SqT.of upd_same) (.cons (dp_mono (s8.trans s9) hcs1) .nil) ?_ fun b3 zs3 H9 s10 hb3 hd3 => ?_
      · have := cut_len (l := y.map eS) (lo := none) (hi := some (ii : Int))
        rw [List.length_map] at this
        show _ + 1 ≤ _
        omega
      walk_at "rd"
      have s89 := s8.trans (s9.trans s10)
      refine t_sl (sm_t s89 (tk_t k7 sa2)) (dpa_mono s89 (dpa_tk k7 (tu_map _ tu_S) da2)) fun b4 zs4 Ha s11 hb4 hd4 => ?_
      refine t_cat (sm_t s11 hb3) (dpa_mono s11 hd3) hb4 hd4 ?_ fun b5 zs5 Hb s12 hb5 hd5 => ?_
      · have := cut_len (l := y.map eS) (lo := none) (hi := some (ii : Int))
        have := cut_len (l := y.map eS) (lo := some ((ii : Int) + 1)) (hi := none)
        rw [List.length_append]
        rw [List.length_map] at *
        show _ + 1 + _ ≤ _
        omega
      rw [cut_take (by omega), cut_drop (by omega)] at hd5
      have et : ((ii : Int) + 1).toNat = ii + 1 := by omega
      rw [Int.toNat_natCast, et] at hd5
      exact put Hb b5 zs5 cs H7 (F2.trans ((Same_fm s06).trans ((fm_new hL).trans (fm_off e7)))) (T7.mono (by omega)) (s89.trans (s11.trans s12)) hb5 hd5 hcs2
    -- a choice is changed
    have lpos : 0 < us.length := by omega
    walk_at "rd"
    refine ⟨as, us, rfl, .inr ss2, ?_⟩
    refine ⟨p, t, ts, _, _, rfl, T2, by omega, by omega, fun j H3 j0 j1 T3 e3 => ?_⟩
    obtain ⟨jj, rfl⟩ : ∃ jj : Nat, j = (jj : Int) := ⟨j.toNat, by omega⟩
    have hjj : jj < us.length := by omega
    obtain ⟨uc, huc⟩ : ∃ u, us[jj]? = some u := ⟨_, List.getElem?_eq_getElem hjj⟩
    obtain ⟨ch, hch, hvc⟩ := dpa_at ds huc
    obtain ⟨ac, ae, ves, rfl, sc, se, de⟩ := dp_C hvc
    have le : ves.length = ch.2.length := by
      have := dpa_len de
      rw [List.length_map] at this
      exact this
    have hcN := hstc ch (List.mem_of_getElem? hch)
    have k3 : Tk H H3 := k2.trans (T2.tk (fm_off e3))
    have F3 : Fm p H H3 := F2.trans (fm_off e3)
    walk_at "rd"
    refine r_ixT (tk_t k3 ss) (at_of (j := jj) rfl huc) ?_
    refine r_gtup2 (tk_t k3 sc) ?_
    have se3 := tk_t k3 se
    have de3 := dpa_tk k3 (tu_map _ tu_E) de
    walk_at "rd"
    refine r_cut (fun σ' H4 => ∃ (z : Int) (v : V) (es : List (Int × Int)) (v8 v9 : Option V), σ' = [some (.ref p), some (.ref a), some (.int (ii : Int)), some (.ref as), some (.int way), some (.int (jj : Int)), some (.int z), some v, v8, v9, none] ∧
        Dp K H4 v (.tuple (es.map eE)) ∧ es.length ≤ N + 1 ∧ Tp H4 p t ts (n + 10) ∧ Fm p H H4) ?_ ?_
    · walk_at "rd"
      refine r_if (fun c3 => ?_) (fun c3 => ?_)
      · walk_at "rd"
        refine ⟨(by show 3 ≤ sizeLine; decide), fun L hL => ?_⟩
        walk_at "rd"
        have T3L := T3.same (sm_new hL (o := .lst [.int (0 - 1), .int 1000, .int 1001]))
        obtain ⟨nLp, _⟩ := T3.fresh hL
        refine ⟨p, t, ts, _, 3, rfl, T3L, by omega, by decide, fun r H4 r0 r1 T4 e4 => ?_⟩
        obtain ⟨vv, ⟨z, rfl⟩, hpick⟩ := pickV (K := K) (H := H4) (r := r) (fun v => ∃ z, v = V.int z) ((e4 L nLp).trans upd_same) r0 (by show r < 3; exact r1) fun v hv => by
          rcases List.mem_cons.mp hv with rfl | hv
          · exact ⟨_, rfl⟩
          · rcases List.mem_cons.mp hv with rfl | hv
            · exact ⟨_, rfl⟩
            · rw [List.mem_singleton.mp hv]
              exact ⟨_, rfl⟩
        refine hpick _ ?_
        walk_at "rd"
        exact ⟨z, .ref ae, ch.2, _, _, rfl, .tup (tk_t ((tk_new hL).trans (T3L.tk (fm_off e4))) se3) (dpa_tk ((tk_new hL).trans (T3L.tk (fm_off e4))) (tu_map _ tu_E) de3), Nat.le_succ_of_le hcN, T4.mono (by omega), F3.trans ((fm_new hL).trans (fm_off e4))⟩
      · walk_at "rd"
        refine r_if (fun c4 => ?_) (fun c4 => ?_)
        · walk_at "rd"
          refine ⟨by decide, fun q1 hq1 => ?_⟩
          walk_at "rd"
          unfold tLc
          walk_at "rd"
          intro D hD
          have s1 := sm_new hq1 (o := .tup [])
          refine lc_range (lo := 0) (n := 7) (fun i H' => Same (upd H3 q1 (.tup [])) H' ∧ ∃ (xs : List V) (es : List (Int × Int)), H' D = some (.lst xs) ∧ DpAll K H' xs (es.map eE) ∧ es.length = i) ⟨sm_new hD, [], [], upd_same, .nil, rfl⟩ ?_ ?_
          · rintro i H' hi ⟨s2, xs', es, hL, hd, hl⟩
            walk_at "rd"
            refine ⟨rfl, ?_⟩
            refine r_yes ?_
            walk_at "rd"
            refine ⟨(by show 2 ≤ sizeLine; decide), fun u hu => ?_⟩
            have nDu : D ≠ u := ne_of_none hL hu
            have hL2 : (upd H' u (.tup [.int (0 + (i : Int)), .int 1])) D = some (.lst xs') := by rw [upd_ne nDu]; exact hL
            have hxl : xs'.length ≤ 7 := by
              have := dpa_len hd
              rw [List.length_map] at this
              omega
            have kt : Tk H' (upd (upd H' u (.tup [.int (0 + (i : Int)), .int 1])) D (.lst (xs' ++ [.ref u]))) := (tk_new hu).trans (tk_lst hL2)
            refine ⟨xs', hL2, Nat.lt_of_le_of_lt hxl (by decide), same_mut (s2.trans (sm_new hu)) hD, xs' ++ [.ref u], es ++ [(0 + (i : Int), 1)], upd_same, ?_, by rw [List.length_append, hl]; rfl⟩
            rw [List.map_append]
            refine dpa_app (dpa_tk kt (tu_map _ tu_E) hd) (.cons (mk_E (SqT.of ?_)) .nil)
            rw [upd_ne nDu.symm, upd_same]
          · rintro H4 ⟨s2, xs', es, hL, hd, hl⟩
            walk_at "rd"
            refine ⟨D, _, rfl, .inl ⟨SqL.of hL, fun q2 hq2 => ?_⟩⟩
            walk_at "rd"
            refine r_revT ?_
            walk_at "rd"
            have s4 := s1.trans (s2.trans (sm_new hq2 (o := .tup xs')))
            refine ⟨ae, ves, rfl, sm_t s4 se3, fun q3 hq3n => ?_⟩
            have s5 := sm_new hq3n (o := .tup ves.reverse)
            have hq3 : SqT K (upd (upd H4 q2 (.tup xs')) q3 (.tup ves.reverse)) q3 ves.reverse := SqT.of upd_same
            have hd3 := dpa_mono s5 (dpa_rev (dpa_mono s4 de3))
            generalize upd (upd H4 q2 (.tup xs')) q3 (.tup ves.reverse) = H5 at s5 hq3 hd3 ⊢
            walk_at "rd"
            have s05 := s4.trans s5
            refine t_sl (sm_t s05 se3) (dpa_mono s05 de3) fun q4 zs4 H6 s6 hq4 hd4 => ?_
            have s06 := s05.trans s6
            refine t_cat (sm_t s06 se3) (dpa_mono s06 de3) hq4 hd4 ?_ fun q5 zs5 H7 s7 hq5 hd5 => ?_
            · have := cut_len (l := ch.2.map eE) (lo := some (-1)) (hi := none)
              rw [List.length_map] at *
              omega
            walk_at "rd"
            refine ⟨(by show 4 ≤ sizeLine; decide), fun L hL' => ?_⟩
            walk_at "rd"
            have s07 := s06.trans s7
            have TL := (T3.same s07).same (sm_new hL' (o := .lst [.ref q1, .ref q2, .ref q3, .ref q5]))
            obtain ⟨nLp, _⟩ := (T3.same s07).fresh hL'
            refine ⟨p, t, ts, _, 4, rfl, TL, by omega, by decide, fun r H8 r0 r1 T8 e8 => ?_⟩
            have kL : Tk H7 H8 := (tk_new hL').trans (TL.tk (fm_off e8))
            obtain ⟨vv, ⟨es', h1, h2⟩, hpick⟩ := pickV (K := K) (H := H8) (r := r) (fun v => ∃ es : List (Int × Int), Dp K H8 v (.tuple (es.map eE)) ∧ es.length ≤ N + 1) ((e8 L nLp).trans upd_same) r0 (by show r < 4; exact r1) fun v hv => by
              rcases List.mem_cons.mp hv with rfl | hv
              · exact ⟨[], dp_tk kL (.tup (tu_map _ tu_E)) (.tup (SqT.of ((s2.trans ((sm_new hq2).trans (s5.trans (s6.trans s7)))) q1 (.tup []) upd_same)) .nil), by show 0 ≤ _; omega⟩
              · rcases List.mem_cons.mp hv with rfl | hv
                · exact ⟨es, dp_tk kL (.tup (tu_map _ tu_E)) (.tup (SqT.of ((s5.trans (s6.trans s7)) q2 (.tup xs') upd_same)) (dpa_mono ((sm_new hq2).trans (s5.trans (s6.trans s7))) hd)), by omega⟩
                · rcases List.mem_cons.mp hv with rfl | hv
                  · refine ⟨ch.2.reverse, dp_tk kL (.tup (tu_map _ tu_E)) (.tup (sm_t (s6.trans s7) hq3) ?_), by rw [List.length_reverse]; omega⟩
                    rw [List.map_reverse]
                    exact dpa_mono (s6.trans s7) hd3
                  · rw [List.mem_singleton.mp hv]
                    rw [cut_map, ← List.map_append] at hd5
                    refine ⟨_, dp_tk kL (.tup (tu_map _ tu_E)) (.tup hq5 hd5), ?_⟩
                    have e1 : (cutL ch.2 (some (-1)) none).length ≤ 1 := by
                      unfold cutL
                      rw [List.length_take]
                      have e2 : HT.sIx ch.2.length ch.2.length none = ch.2.length := rfl
                      have e3 : HT.sIx ch.2.length 0 (some (-1)) = ((-1 : Int) + (ch.2.length : Int)).toNat := rfl
                      rw [e2, e3]
                      omega
                    rw [List.length_append]
                    omega
            refine hpick _ ?_
            walk_at "rd"
            exact ⟨_, vv, es', _, _, rfl, h1, h2, T8.mono (by omega), F3.trans ((Same_fm s07).trans ((fm_new hL').trans (fm_off e8)))⟩
        · walk_at "rd"
          have same4 : ∀ (v8 v9 : Option V), ∃ (z : Int) (v : V) (es : List (Int × Int)) (v8' v9' : Option V), [some (V.ref p), some (.ref a), some (.int (ii : Int)), some (.ref as), some (.int way), some (.int (jj : Int)), some (.int ch.1), some (.ref ae), v8, v9, none] = [some (.ref p), some (.ref a), some (.int (ii : Int)), some (.ref as), some (.int way), some (.int (jj : Int)), some (.int z), some v, v8', v9', none] ∧
              Dp K H3 v (.tuple (es.map eE)) ∧ es.length ≤ N + 1 ∧ Tp H3 p t ts (n + 10) ∧ Fm p H H3 := fun v8 v9 => ⟨_, _, ch.2, _, _, rfl, .tup se3 de3, Nat.le_succ_of_le hcN, T3.mono (by omega), F3⟩
          -- the last branch: a weight is changed
          have gplace : ∀ (v : V), True := fun _ => trivial
          refine r_if (fun c5 => ?wm) (fun c5 => ?wb2)
          case' wb2 =>
            walk_at "rd"
            refine ⟨ae, ves, rfl, .inr se3, ?_⟩
            walk_at "rd"
            refine r_if (fun c6 => ?wp1) (fun c6 => ?we1)
            case we1 =>
              walk_at "rd"
              exact same4 _ _
          case wm =>
            walk_at "rd"
            refine ⟨ae, ves, rfl, .inr se3, ?_⟩
            walk_at "rd"
            refine r_if (fun c6 => ?_) (fun c6 => ?wb3)
            case' wb3 =>
              walk_at "rd"
              refine ⟨ae, ves, rfl, .inr se3, ?_⟩
              walk_at "rd"
              refine r_if (fun c7 => absurd c7 c6) (fun c7 => ?_)
              walk_at "rd"
              exact same4 _ _
            · walk_at "rd"
              refine t_sl se3 de3 fun q4 zs4 H4 s4 hq4 hd4 => ?_
              walk_at "rd"
              refine ⟨a, xs, rfl, .inr (tk_t (k3.trans (Same_tk s4)) sa), ?_⟩
              walk_at "rd"
              refine ⟨a, xs, rfl, .inr (tk_t (k3.trans (Same_tk s4)) sa), ?_⟩
              walk_at "rd"
              refine ⟨(by show 3 ≤ sizeLine; decide), fun L hL => ?_⟩
              walk_at "rd"
              have T4 := T3.same s4
              have TL := T4.same (sm_new hL (o := .lst [.int xs.length, .int ((xs.length : Int) - 1), .int (0 - 1)]))
              obtain ⟨nLp, _⟩ := T4.fresh hL
              refine ⟨p, t, ts, _, 3, rfl, TL, by omega, by decide, fun r H5 r0 r1 T5 e5 => ?_⟩
              have kL : Tk H4 H5 := (tk_new hL).trans (TL.tk (fm_off e5))
              obtain ⟨vv, ⟨z, rfl⟩, hpick⟩ := pickV (K := K) (H := H5) (r := r) (fun v => ∃ z, v = V.int z) ((e5 L nLp).trans upd_same) r0 (by show r < 3; exact r1) fun v hv => by
                rcases List.mem_cons.mp hv with rfl | hv
                · exact ⟨_, rfl⟩
                · rcases List.mem_cons.mp hv with rfl | hv
                  · exact ⟨_, rfl⟩
                  · rw [List.mem_singleton.mp hv]
                    exact ⟨_, rfl⟩
              refine hpick _ ?_
              walk_at "rd"
              have k35 := (Same_tk s4).trans kL
              obtain ⟨ve, hve⟩ : ∃ v, ves[ves.length - 1]? = some v := ⟨_, List.getElem?_eq_getElem (by omega)⟩
              obtain ⟨e, hee, hde⟩ := dpa_at de hve
              obtain ⟨aee, rfl, see⟩ := dp_E hde
              refine r_ixT (tk_t (k3.trans k35) se) ((at_back (by omega)).trans hve) ?_
              walk_at "rd"
              refine r_ixT (tk_t (k3.trans k35) see) (v := .int e.2) rfl ?_
              walk_at "rd"
              refine ⟨(by show 2 ≤ sizeLine; decide), fun u hu => ?_⟩
              walk_at "rd"
              refine ⟨(by show 1 ≤ sizeLine; decide), fun u2 hu2 => ?_⟩
              have nuu : u ≠ u2 := ne_of_none upd_same hu2
              have s6 := (sm_new hu (o := .tup [.int z, .int e.2])).trans (sm_new hu2 (o := .tup [.ref u]))
              refine t_cat (sm_t s6 (tk_t kL hq4)) (dpa_mono s6 (dpa_tk kL (fun d hd => tu_map _ tu_E d (cut_mem d hd)) hd4)) (SqT.of upd_same) (.cons (mk_E (i := z) (j := e.2) (SqT.of (by rw [upd_ne nuu]; exact upd_same))) .nil) ?_ fun q7 zs7 H7 s7 hq7 hd7 => ?_
              · have := cut_len (l := ch.2.map eE) (lo := none) (hi := some (-1))
                rw [List.length_map] at this
                show _ + 1 ≤ _
                omega
              walk_at "rd"
              refine ⟨_, _, cutL ch.2 none (some (-1)) ++ [(z, e.2)], _, _, rfl, .tup hq7 ?_, ?_, (T5.same (s6.trans s7)).mono (by omega), F3.trans ((Same_fm s4).trans ((fm_new hL).trans ((fm_off e5).trans (Same_fm (s6.trans s7)))))⟩
              · rw [cut_map] at hd7
                rw [List.map_append]
                exact hd7
              · have := cut_len (l := ch.2) (lo := none) (hi := some (-1))
                rw [List.length_append]
                show _ + 1 ≤ _
                omega
          case wb2 =>
            walk_at "rd"
            refine ⟨ae, ves, rfl, .inr se3, ?_⟩
            refine ⟨p, t, ts, _, _, rfl, T3, by omega, by omega, fun pl H4 p0 p1 T4 e4 => ?_⟩
            walk_at "rd"
            refine ⟨(by show 4 ≤ sizeLine; decide), fun L hL => ?_⟩
            walk_at "rd"
            have TL := T4.same (sm_new hL (o := .lst [.int 0, .int 1000, .int 1001, .int (0 - 1)]))
            obtain ⟨nLp, _⟩ := T4.fresh hL
            refine ⟨p, t, ts, _, 4, rfl, TL, by omega, by decide, fun r H5 r0 r1 T5 e5 => ?_⟩
            have k45 : Tk H3 H5 := (T3.tk (fm_off e4)).trans ((tk_new hL).trans (TL.tk (fm_off e5)))
            obtain ⟨vv, ⟨z, rfl⟩, hpick⟩ := pickV (K := K) (H := H5) (r := r) (fun v => ∃ z, v = V.int z) ((e5 L nLp).trans upd_same) r0 (by show r < 4; exact r1) fun v hv => by
              rcases List.mem_cons.mp hv with rfl | hv
              · exact ⟨_, rfl⟩
              · rcases List.mem_cons.mp hv with rfl | hv
                · exact ⟨_, rfl⟩
                · rcases List.mem_cons.mp hv with rfl | hv
                  · exact ⟨_, rfl⟩
                  · rw [List.mem_singleton.mp hv]
                    exact ⟨_, rfl⟩
            refine hpick _ ?_
            walk_at "rd"
            have se5 := tk_t k45 se3
            have de5 := dpa_tk k45 (tu_map _ tu_E) de3
            refine t_sl se5 de5 fun q6 zs6 H6 s6 hq6 hd6 => ?_
            walk_at "rd"
            obtain ⟨pp, rfl⟩ : ∃ pp : Nat, pl = (pp : Int) := ⟨pl.toNat, by omega⟩
            obtain ⟨ve, hve⟩ : ∃ v, ves[pp]? = some v := ⟨_, List.getElem?_eq_getElem (by omega)⟩
            obtain ⟨e, hee, hde⟩ := dpa_at de5 hve
            obtain ⟨aee, rfl, see⟩ := dp_E hde
            refine r_ixT (sm_t s6 se5) (at_of (j := pp) rfl hve) ?_
            walk_at "rd"
            refine r_ixT (sm_t s6 see) (v := .int e.1) rfl ?_
            walk_at "rd"
            refine ⟨(by show 2 ≤ sizeLine; decide), fun u hu => ?_⟩
            walk_at "rd"
            refine ⟨(by show 1 ≤ sizeLine; decide), fun u2 hu2 => ?_⟩
            have nuu : u ≠ u2 := ne_of_none upd_same hu2
            have s7 := (sm_new hu (o := .tup [.int e.1, .int z])).trans (sm_new hu2 (o := .tup [.ref u]))
            refine t_cat (sm_t s7 hq6) (dpa_mono s7 hd6) (SqT.of upd_same) (.cons (mk_E (i := e.1) (j := z) (SqT.of (by rw [upd_ne nuu]; exact upd_same))) .nil) ?_ fun q8 zs8 H8 s8 hq8 hd8 => ?_
            · have := cut_len (l := ch.2.map eE) (lo := none) (hi := some (pp : Int))
              rw [List.length_map] at this
              show _ + 1 ≤ _
              omega
            walk_at "rd"
            have s68 := s6.trans (s7.trans s8)
            refine t_sl (sm_t s68 se5) (dpa_mono s68 de5) fun q9 zs9 H9 s9 hq9 hd9 => ?_
            refine t_cat (sm_t s9 hq8) (dpa_mono s9 hd8) hq9 hd9 ?_ fun qa zsa Ha sa' hqa hda => ?_
            · have := cut_len (l := ch.2.map eE) (lo := none) (hi := some (pp : Int))
              have := cut_len (l := ch.2.map eE) (lo := some ((pp : Int) + 1)) (hi := none)
              rw [List.length_append]
              rw [List.length_map] at *
              show _ + 1 + _ ≤ _
              omega
            walk_at "rd"
            have et : ((pp : Int) + 1).toNat = pp + 1 := by omega
            rw [cut_take (by omega), cut_drop (by omega), Int.toNat_natCast, et] at hda
            refine ⟨_, _, ch.2.take pp ++ [(e.1, z)] ++ ch.2.drop (pp + 1), _, _, rfl, .tup hqa ?_, ?_, (T5.same (s68.trans (s9.trans sa'))).mono (by omega), F3.trans ((fm_off e4).trans ((fm_new hL).trans ((fm_off e5).trans (Same_fm (s68.trans (s9.trans sa'))))))⟩
            · rw [List.map_append, List.map_append, List.map_take, List.map_drop]
              exact hda
            · rw [List.length_append, List.length_append, List.length_take, List.length_drop]
              show _ + 1 + _ ≤ _
              omega
    · rintro σ' H4 ⟨z, v, es, v8, v9, rfl, hvd, hel, T4, F4⟩
      have k4 : Tk H H4 := T0.tk F4
      have ss4 := tk_t k4 ss
      have ds4 := dpa_tk k4 (tu_map _ tu_C) ds
      have sa4 := tk_t k4 sa
      have da4 := dpa_tk k4 (tu_map _ tu_S) da
      walk_at "rd"
      refine t_sl sa4 da4 fun b1 zs1 H5 s5 hb1 hd1 => ?_
      walk_at "rd"
      refine t_sl (sm_t s5 ss4) (dpa_mono s5 ds4) fun b2 zs2 H6 s6 hb2 hd2 => ?_
      walk_at "rd"
      refine ⟨(by show 2 ≤ sizeLine; decide), fun u hu => ?_⟩
      walk_at "rd"
      refine ⟨(by show 1 ≤ sizeLine; decide), fun u2 hu2 => ?_⟩
      have nuu : u ≠ u2 := ne_of_none upd_same hu2
      have s7 := (sm_new hu (o := .tup [.int z, v])).trans (sm_new hu2 (o := .tup [.ref u]))
      have s57 := s5.trans (s6.trans s7)
      refine t_cat (sm_t s7 hb2) (dpa_mono s7 hd2) (SqT.of upd_same) (.cons (mk_C (v := v) (i := z) (es := es) (SqT.of (by rw [upd_ne nuu]; exact upd_same)) (dp_mono s57 hvd)) .nil) ?_ fun b3 zs3 H8 s8 hb3 hd3 => ?_
      · have := cut_len (l := st.map eC) (lo := none) (hi := some (jj : Int))
        rw [List.length_map] at this
        show _ + 1 ≤ _
        omega
      walk_at "rd"
      have s58 := s57.trans s8
      refine t_sl (sm_t s58 ss4) (dpa_mono s58 ds4) fun b4 zs4 H9 s9 hb4 hd4 => ?_
      refine t_cat (sm_t s9 hb3) (dpa_mono s9 hd3) hb4 hd4 ?_ fun b5 zs5 Ha sa' hb5 hd5 => ?_
      · have := cut_len (l := st.map eC) (lo := none) (hi := some (jj : Int))
        have := cut_len (l := st.map eC) (lo := some ((jj : Int) + 1)) (hi := none)
        rw [List.length_append]
        rw [List.length_map] at *
        show _ + 1 + _ ≤ _
        omega
      have et : ((jj : Int) + 1).toNat = jj + 1 := by omega
      rw [cut_take (by omega), cut_drop (by omega), Int.toNat_natCast, et] at hd5
      have hd5' : DpAll K Ha zs5 ((st.take jj ++ [(z, es)] ++ st.drop (jj + 1)).map eC) := by
        rw [List.map_append, List.map_append, List.map_take, List.map_drop]
        exact hd5
      have hcs : StN (N + 1) (st.take jj ++ [(z, es)] ++ st.drop (jj + 1)) := by
        refine ⟨?_, fun c hc => ?_⟩
        · rw [List.length_append, List.length_append, List.length_take, List.length_drop]
          show _ + 1 + _ ≤ _
          omega
        · rcases List.mem_append.mp hc with hc | hc
          · rcases List.mem_append.mp hc with hc | hc
            · exact Nat.le_succ_of_le (hstc c (List.mem_of_mem_take hc))
            · rw [List.mem_singleton.mp hc]
              exact hel
          · exact Nat.le_succ_of_le (hstc c (List.mem_of_mem_drop hc))
      walk_at "rd"
      refine ⟨(by show 1 ≤ sizeLine; decide), fun w1 hw1 => ?_⟩
      have sb := sm_new hw1 (o := .tup [.ref b5])
      have s5b := s6.trans (s7.trans (s8.trans (s9.trans (sa'.trans sb))))
      refine t_cat (sm_t s5b hb1) (dpa_mono s5b hd1) (SqT.of upd_same) (.cons (dp_mono sb (.tup hb5 hd5')) .nil) ?_ fun b6 zs6 Hb sb2 hb6 hd6 => ?_
      · have := cut_len (l := y.map eS) (lo := none) (hi := some (ii : Int))
        rw [List.length_map] at this
        show _ + 1 ≤ _
        omega
      walk_at "rd"
      have sall := s5.trans (s5b.trans sb2)
      refine t_sl (sm_t sall sa4) (dpa_mono sall da4) fun b7 zs7 Hc sc' hb7 hd7 => ?_
      refine t_cat (sm_t sc' hb6) (dpa_mono sc' hd6) hb7 hd7 ?_ fun b8 zs8 Hd sd hb8 hd8 => ?_
      · have := cut_len (l := y.map eS) (lo := none) (hi := some (ii : Int))
        have := cut_len (l := y.map eS) (lo := some ((ii : Int) + 1)) (hi := none)
        rw [List.length_append]
        rw [List.length_map] at *
        show _ + 1 + _ ≤ _
        omega
      have et2 : ((ii : Int) + 1).toNat = ii + 1 := by omega
      rw [cut_take (by omega), cut_drop (by omega), Int.toNat_natCast, et2] at hd8
      exact put Hd b8 zs8 _ H4 F4 T4 (sall.trans (sc'.trans sd)) hb8 hd8 hcs
/-! ### the law -/
theorem endsB_ok {m : Int} : ∀ (es : List (Int × Int)) (b : Int), (∀ e ∈ es, b < e.1 ∧ e.1 < m ∧ 1 ≤ e.2 ∧ e.2 ≤ 1000) → es.Pairwise (fun a b => a.1 < b.1) → endsB m b es = true
  | [], _, _, _ => rfl
  | e :: r, b, h, p => by
    obtain ⟨h1, h2, h3, h4⟩ := h e (List.mem_cons_self ..)
    obtain ⟨p1, p2⟩ := List.pairwise_cons.mp p
    rw [endsB_cons, decide_eq_true h1, decide_eq_true h2, decide_eq_true h3, decide_eq_true h4, endsB_ok r e.1 (fun x hx => ⟨p1 x hx, (h x (List.mem_cons_of_mem _ hx)).2⟩) p2]
    rfl
theorem areE_ok {m : Int} {es : List (Int × Int)} (hm : m ≤ 6) (h : EndsOk m es) : areE m es = true := by
  obtain ⟨h1, h2, h3, h4⟩ := h
  have l : 0 < es.length := List.length_pos_iff.mpr h1
  unfold areE
  rw [decide_eq_true (by omega), decide_eq_true (by omega), endsB_ok es (-1) (fun e he => ⟨by have := (h3 e he).1; omega, (h3 e he).2.1, (h3 e he).2.2⟩) h4]
  rfl
theorem chF_ok {m s : Int} (hm : m ≤ 6) : ∀ (i : Nat) (cs : List Cho), (∀ c ∈ cs, ChoOk m c) → chF m s i cs = .none
  | _, [], _ => rfl
  | i, c :: r, h => by
    obtain ⟨h1, h2, h3⟩ := h c (List.mem_cons_self ..)
    rw [chF_cons, if_pos ⟨h1, h2⟩, areE_ok hm h3, if_pos rfl]
    exact chF_ok hm (i + 1) r fun x hx => h x (List.mem_cons_of_mem _ hx)
theorem yF_ok {m : Int} (hm : m ≤ 6) : ∀ (i : Nat) (y : List (List Cho)), (∀ s ∈ y, StOk m 3 s) → yF m i y = .none
  | _, [], _ => rfl
  | i, s :: r, h => by
    obtain ⟨h1, h2, h3⟩ := h s (List.mem_cons_self ..)
    have l : 0 < s.length := List.length_pos_iff.mpr h1
    have e : stF m (i : Nat) s = .none := by
      unfold stF
      rw [if_pos (by omega)]
      exact chF_ok hm 0 s h3
    rw [yF_none e]
    exact yF_ok hm (i + 1) r fun x hx => h x (List.mem_cons_of_mem _ hx)
theorem fault_ok {y : List (List Cho)} (h : SysOk 4 y) : faultD y = .none := by
  obtain ⟨h1, h2, h3⟩ := h
  have l : 0 < y.length := List.length_pos_iff.mpr h1
  unfold faultD
  rw [if_pos (by omega)]
  exact yF_ok (by omega) 0 y h3
theorem dn_tS (n : Nat) (x : String) : Dn (n + 1) (tS x) := .tup (by show 1 ≤ 100000; decide) fun d hd => by
  rcases List.mem_cons.mp hd with rfl | hd
  · exact .str _ _
  · cases hd
theorem dn_tS1 (n : Nat) (x : String) (i : Int) : Dn (n + 1) (tS1 x i) := .tup (by show 2 ≤ 100000; decide) fun d hd => by
  rcases List.mem_cons.mp hd with rfl | hd
  · exact .str _ _
  · rcases List.mem_cons.mp hd with rfl | hd
    · exact .int _ _
    · cases hd
theorem dn_tS2 (n : Nat) (x : String) (i j : Int) : Dn (n + 1) (tS2 x i j) := .tup (by show 3 ≤ 100000; decide) fun d hd => by
  rcases List.mem_cons.mp hd with rfl | hd
  · exact .str _ _
  · rcases List.mem_cons.mp hd with rfl | hd
    · exact .int _ _
    · rcases List.mem_cons.mp hd with rfl | hd
      · exact .int _ _
      · cases hd
theorem dn_chF (n : Nat) (m s : Int) : ∀ (i : Nat) (cs : List Cho), Dn (n + 1) (chF m s i cs)
  | _, [] => .non _
  | i, c :: r => by
    rw [chF_cons]
    split
    · split
      · exact dn_chF n m s (i + 1) r
      · exact dn_tS2 _ _ _ _
    · exact dn_tS2 _ _ _ _
theorem dn_stF (n : Nat) (m s : Int) (cs : List Cho) : Dn (n + 1) (stF m s cs) := by
  unfold stF
  split
  · exact dn_chF n m s 0 cs
  · exact dn_tS1 _ _ _
theorem dn_yF (n : Nat) (m : Int) : ∀ (i : Nat) (y : List (List Cho)), Dn (n + 1) (yF m i y)
  | _, [] => .non _
  | i, s :: r => by
    by_cases e : stF m (i : Nat) s = .none
    · rw [yF_none e]
      exact dn_yF n m (i + 1) r
    · rw [yF_some e]
      exact dn_stF n m _ s
theorem dn_fault (n : Nat) (y : List (List Cho)) : Dn (n + 1) (faultD y) := by
  unfold faultD
  split
  · exact dn_yF n _ 0 y
  · exact dn_tS _ _
theorem dpa_set {K : PySem.W.Frag} {H : Hp} {v : V} {d : PyData} (hv : Dp K H v d) : ∀ {vs : List V} {ds : List PyData} (i : Nat), DpAll K H vs ds → DpAll K H (vs.set i v) (ds.set i d)
  | _, _, _, .nil => .nil
  | _, _, 0, .cons _ t => .cons hv t
  | _, _, i + 1, .cons h t => .cons h (dpa_set hv i t)
def onesE (n : Nat) : List (Int × Int) := (List.range n).map fun k => (((k : Nat) : Int), (1 : Int))
theorem onesE_succ (n : Nat) : onesE (n + 1) = onesE n ++ [((n : Int), 1)] := by
  unfold onesE
  rw [List.range_succ, List.map_append]
  rfl
theorem onesE_len (n : Nat) : (onesE n).length = n := by
  unfold onesE
  rw [List.length_map, List.length_range]
def wideY : List (List Cho) := List.replicate 7 (List.replicate 6 ((0 : Int), onesE 6))
theorem wide_ok : faultD wideY = .none := rfl
def Ck (K : PySem.W.Frag) (H : Hp) (v : V) : Prop := ∃ y : List (List Cho), Dp K H v (eY y) ∧ Sz y
theorem Ck.mono {K : PySem.W.Frag} {H H' : Hp} {v : V} (e : Same H H') (h : Ck K H v) : Ck K H' v := by
  obtain ⟨y, h1, h2⟩ := h
  exact ⟨y, dp_mono e h1, h2⟩
theorem sz_of {N : Nat} {y : List (List Cho)} (hy : y.length ≤ 20) (hN : N ≤ 500) (h : SzN N y) : Sz y :=
  ⟨by omega, fun s hs => ⟨by have := (h s hs).1; omega, fun c hc => by have := (h s hs).2 c hc; omega⟩⟩
theorem sz_rep {n k : Nat} {y : List (List Cho)} (hk : k ≤ 1000) (h : ∀ s ∈ y, s.length ≤ 1000 ∧ ∀ c ∈ s, c.2.length ≤ 1000) : Sz ((List.replicate n y).flatten.take k) := by
  refine ⟨by rw [List.length_take]; omega, fun s hs => ?_⟩
  obtain ⟨l, hl, hcl⟩ := List.mem_flatten.mp (List.mem_of_mem_take hs)
  rw [(List.mem_replicate.mp hl).2] at hcl
  exact h s hcl
theorem rep_map {α : Type} {f : α → PyData} (n : Nat) (l : List α) : (List.replicate n (l.map f)).flatten = ((List.replicate n l).flatten).map f := by
  rw [List.map_flatten, List.map_replicate]
theorem dpa_cutV {K : PySem.W.Frag} {H : Hp} {α : Type} {f : α → PyData} {vs : List V} {l : List α} (lo hi : Option Int) (h : DpAll K H vs (l.map f)) : ∃ l' : List α, DpAll K H (cutV vs lo hi) (l'.map f) ∧ l'.length ≤ l.length :=
  ⟨(l.drop (HT.sIx vs.length 0 lo)).take (HT.sIx vs.length vs.length hi - HT.sIx vs.length 0 lo), by rw [List.map_take, List.map_drop]; exact dpa_take _ (dpa_drop _ h), by rw [List.length_take, List.length_drop]; omega⟩
def rowS : List Cho := [(3, [(0, 1), (7, 2)])]
def sp_law (K : PySem.W.Frag) : Sp := fun vs H Q _ => ∃ (a : Addr) (ns : List Int), vs = [.ref a] ∧ SqL K H a (ns.map V.int) ∧ ns.length ≤ 63 ∧ ∀ H', Q (.bl true) H'
theorem sc_law : FnScope ["script", "state", "system", "turn", "long", "wide", "at", "ends", "row", "seven", "other", "k"] ["script"] (defScope s_law) := ⟨rfl, rfl, rfl, by decide +kernel, rfl, by decide +kernel, by decide +kernel⟩
set_option maxHeartbeats 4000000 in
theorem ok_law {P : Program} {w : World} {K : PySem.W.Frag} {mg : Str → Option Value} {base : Heap} (T : Env K mg) : FnOk P w K mg base CX0 6 T.a_law T.d_law ["script"] (sp_law K) := by
  refine T.F_law.ok sc_law (fun vs H Q E h => ?_) (fun cdv A outer s H vs Q E hr h => ?_)
  · obtain ⟨a, ns, rfl, _⟩ := h
    rfl
  · obtain ⟨a, ns, rfl, hS, hlen, k⟩ := h
    have G_l_system := ok_l_system (P := P) (w := w) (base := base) T
    have hr_l_system : Room 5 _ := hr.mono (by decide)
    have G_l_take := ok_l_take (P := P) (w := w) (base := base) T
    have hr_l_take : Room 2 _ := hr.mono (by decide)
    have G_l_tape := ok_l_tape (P := P) (w := w) (base := base) T
    have hr_l_tape : Room 1 _ := hr.mono (by decide)
    have G_l_equal := ok_l_equal (P := P) (w := w) (base := base) T
    have hr_l_equal : Room 4 _ := hr.mono (by decide)
    have G_fault := ok_fault (P := P) (w := w) (base := base) T
    have hr_fault : Room 3 _ := hr.mono (by decide)
    have G_l_due := ok_l_due (P := P) (w := w) (base := base) T
    have hr_l_due : Room 2 _ := hr.mono (by decide)
    have G_l_changed := ok_l_changed (P := P) (w := w) (base := base) T
    have hr_l_changed : Room 3 _ := hr.mono (by decide)
    refine ⟨_, (pss_cons (ps_set (i := 1) sc_law.nd rfl (Or.inr rfl) (pe_lst (pa_cons (pe_call G_l_tape hr_l_tape (by rfl) T.g_l_tape T.F_l_tape.kp T.b_l_tape .nil pass0 (pa_cons (pv 0) pa_nil)) (pa_cons pe_int pa_nil))))
      (pss_cons (ps_set (i := 2) sc_law.nd rfl (Or.inl rfl) (pe_call G_l_system hr_l_system (by rfl) T.g_l_system T.F_l_system.kp T.b_l_system .nil pass0 (pa_cons (pv 1) (pa_cons pe_int pa_nil))))
      (pss_cons (ps_if (PW.pt (pw_or (pt_cmpR op_notN (pe_call G_fault hr_fault (by rfl) T.g_fault T.F_fault.kp T.b_fault .nil pass0 (pa_cons (pv 2) pa_nil)) pe_non (nomark _)) (pw_or1 (pt_cmpR op_notN (pe_call G_l_due hr_l_due (by rfl) T.g_l_due T.F_l_due.kp T.b_l_due .nil pass0 (pa_cons (pv 2) pa_nil)) pe_non (nomark _))))) (pss_one (ps_ret pe_bl)) pss_nil)
      (pss_cons (ps_for PassesOwn.never rfl (pi_range1 (by rfl) T.z_range (pa_cons pe_int pa_nil)) (pg_name (i := 3) sc_law.nd rfl (Or.inl rfl)) (pss_cons (ps_set (i := 10) sc_law.nd rfl (Or.inl rfl) (pv 2))
      (pss_cons (ps_for PassesOwn.never rfl (pi_range1 (by rfl) T.z_range (pa_cons (pe_op op_add pe_int (pe_call G_l_take hr_l_take (by rfl) T.g_l_take T.F_l_take.kp T.b_l_take .nil pass0 (pa_cons (pv 1) (pa_cons pe_int pa_nil)))) pa_nil)) (pg_name (i := 11) sc_law.nd rfl (Or.inl rfl)) (pss_one (ps_set (i := 10) sc_law.nd rfl (Or.inl rfl) (pe_call G_l_changed hr_l_changed (by rfl) T.g_l_changed T.F_l_changed.kp T.b_l_changed .nil pass0 (pa_cons (pv 1) (pa_cons (pv 10) pa_nil))))))
      (pss_one (ps_if (pt_not (pt_val (pe_call G_l_equal hr_l_equal (by rfl) T.g_l_equal T.F_l_equal.kp T.b_l_equal .nil pass0 (pa_cons (pe_call G_fault hr_fault (by rfl) T.g_fault T.F_fault.kp T.b_fault .nil pass0 (pa_cons (pv 10) pa_nil)) (pa_cons (pe_call G_l_due hr_l_due (by rfl) T.g_l_due T.F_l_due.kp T.b_l_due .nil pass0 (pa_cons (pv 10) pa_nil)) pa_nil))))) (pss_one (ps_ret pe_bl)) pss_nil)))))
      (pss_cons (ps_set (i := 4) sc_law.nd rfl (Or.inl rfl) (pe_slice sl_tupA (pe_op op_repA (pv 2) pe_int) po_none (po_some (pe_op op_add pe_int (pe_call G_l_take hr_l_take (by rfl) T.g_l_take T.F_l_take.kp T.b_l_take .nil pass0 (pa_cons (pv 1) (pa_cons pe_int pa_nil)))))))
      (pss_cons (ps_set (i := 5) sc_law.nd rfl (Or.inl rfl) (pe_op op_repA (pe_tup (pa_cons (pe_op op_repA (pe_tup (pa_cons (pe_tup (pa_cons pe_int (pa_cons (pe_callTy call_tuple_of (by rfl) T.z_tuple (by decide +kernel) (pa_cons (pe_lc (own := [("k", 11)]) (g := gName 11) (by rfl) sc_law.nd (pi_range1 (by rfl) T.z_range (pa_cons pe_int pa_nil)) (blkOk_by (own := [("k", 11)]) (N := ["script", "state", "system", "turn", "long", "wide", "at", "ends", "row", "seven", "other", "k"]) (sc := defScope s_law) (by decide +kernel)) (fun _ _ _ _ _ => (pg_name (i := 11) sc_law.nd rfl (Or.inl rfl))) (fun _ _ _ _ _ => pts_nil) (fun _ _ _ _ _ => (pe_tup (pa_cons (pv 11) (pa_cons pe_int pa_nil))))) pa_nil)) pa_nil))) pa_nil)) pe_int) pa_nil)) pe_int))
      (pss_cons (ps_set (i := 6) sc_law.nd rfl (Or.inl rfl) (pe_call G_l_take hr_l_take (by rfl) T.g_l_take T.F_l_take.kp T.b_l_take .nil pass0 (pa_cons (pv 1) (pa_cons pe_int pa_nil))))
      (pss_cons (ps_set (i := 7) sc_law.nd rfl (Or.inl rfl) (pe_callTy call_tuple_of (by rfl) T.z_tuple (by decide +kernel) (pa_cons (pe_slice sl_list (pe_lc (own := [("k", 11)]) (g := gName 11) (by rfl) sc_law.nd (pi_range1 (by rfl) T.z_range (pa_cons pe_int pa_nil)) (blkOk_by (own := [("k", 11)]) (N := ["script", "state", "system", "turn", "long", "wide", "at", "ends", "row", "seven", "other", "k"]) (sc := defScope s_law) (by decide +kernel)) (fun _ _ _ _ _ => (pg_name (i := 11) sc_law.nd rfl (Or.inl rfl))) (fun _ _ _ _ _ => (pts_one (PW.pt (pw_or (pt_cmpR op_ne (pv 11) (pe_call G_l_take hr_l_take (by rfl) T.g_l_take T.F_l_take.kp T.b_l_take .nil pass0 (pa_cons (pv 1) (pa_cons pe_int pa_nil))) (nomark _)) (pw_or1 (pt_cmpR op_gt (pv 11) pe_int (nomark _))))))) (fun _ _ _ _ _ => (pe_tup (pa_cons (pv 11) (pa_cons (pe_op op_add pe_int (pe_call G_l_take hr_l_take (by rfl) T.g_l_take T.F_l_take.kp T.b_l_take .nil pass0 (pa_cons (pv 1) (pa_cons pe_int pa_nil)))) pa_nil))))) po_none (po_some pe_int)) pa_nil)))
      (pss_cons (ps_setLc (i := 8) (own := [("k", 11)]) (g := gName 11) (by rfl) sc_law.nd rfl rfl (sw_true rfl rfl rfl (by decide +kernel)) (pi_range1 (by rfl) T.z_range (pa_cons pe_int pa_nil)) (blkOk_by (own := [("k", 11)]) (N := ["script", "state", "system", "turn", "long", "wide", "at", "ends", "row", "seven", "other", "k"]) (sc := defScope s_law) (by decide +kernel)) (fun _ _ _ _ _ => (pg_name (i := 11) sc_law.nd rfl (Or.inl rfl))) (fun _ _ _ _ _ => pts_nil) (fun _ _ _ _ _ => (pe_tup (pa_cons (pe_tup (pa_cons pe_int (pa_cons (pe_tup (pa_cons (pe_tup (pa_cons pe_int (pa_cons pe_int pa_nil))) (pa_cons (pe_tup (pa_cons pe_int (pa_cons pe_int pa_nil))) pa_nil))) pa_nil))) pa_nil))))
      (pss_cons (ps_asg (pe_op op_catA (pe_ix ix_list (pv 8) (pv 6) (fun _ _ => rfl)) (pe_tup (pa_cons (pe_tup (pa_cons pe_int (pa_cons (pv 7) pa_nil))) pa_nil))) (pg_sub (pv 8) (pv 6) set_list))
      (pss_cons (ps_set (i := 9) sc_law.nd rfl (Or.inl rfl) (pe_op op_catA (pe_slice sl_tupA (pv 5) po_none (po_some pe_int)) (pe_tup (pa_cons (pe_tup (pa_cons (pe_tup (pa_cons pe_int (pa_cons (pe_callTy call_tuple_of (by rfl) T.z_tuple (by decide +kernel) (pa_cons (pe_lc (own := [("k", 11)]) (g := gName 11) (by rfl) sc_law.nd (pi_range1 (by rfl) T.z_range (pa_cons pe_int pa_nil)) (blkOk_by (own := [("k", 11)]) (N := ["script", "state", "system", "turn", "long", "wide", "at", "ends", "row", "seven", "other", "k"]) (sc := defScope s_law) (by decide +kernel)) (fun _ _ _ _ _ => (pg_name (i := 11) sc_law.nd rfl (Or.inl rfl))) (fun _ _ _ _ _ => pts_nil) (fun _ _ _ _ _ => (pe_tup (pa_cons (pv 11) (pa_cons pe_int pa_nil))))) pa_nil)) pa_nil))) pa_nil)) pa_nil))))
      (pss_cons (ps_for PassesOwn.never rfl (pi_list (pe_lst (pa_cons (pe_callTy call_tuple_of (by rfl) T.z_tuple (by decide +kernel) (pa_cons (pv 8) pa_nil)) (pa_cons (pe_slice sl_tupA (pe_op op_repA (pv 10) pe_int) po_none (po_some pe_int)) (pa_cons (pe_slice sl_tupA (pe_op op_repA (pv 10) pe_int) po_none (po_some pe_int)) (pa_cons (pv 9) pa_nil)))))) (pg_name (i := 10) sc_law.nd rfl (Or.inl rfl)) (pss_one (ps_if (pt_not (pt_val (pe_call G_l_equal hr_l_equal (by rfl) T.g_l_equal T.F_l_equal.kp T.b_l_equal .nil pass0 (pa_cons (pe_call G_fault hr_fault (by rfl) T.g_fault T.F_fault.kp T.b_fault .nil pass0 (pa_cons (pv 10) pa_nil)) (pa_cons (pe_call G_l_due hr_l_due (by rfl) T.g_l_due T.F_l_due.kp T.b_l_due .nil pass0 (pa_cons (pv 10) pa_nil)) pa_nil))))) (pss_one (ps_ret pe_bl)) pss_nil)))
      (pss_one (ps_ret (pe_and (pe_call G_l_equal hr_l_equal (by rfl) T.g_l_equal T.F_l_equal.kp T.b_l_equal .nil pass0 (pa_cons (pe_call G_fault hr_fault (by rfl) T.g_fault T.F_fault.kp T.b_fault .nil pass0 (pa_cons (pv 4) pa_nil)) (pa_cons (pe_call G_l_due hr_l_due (by rfl) T.g_l_due T.F_l_due.kp T.b_l_due .nil pass0 (pa_cons (pv 4) pa_nil)) pa_nil))) (pe_and (pe_call G_l_equal hr_l_equal (by rfl) T.g_l_equal T.F_l_equal.kp T.b_l_equal .nil pass0 (pa_cons (pe_call G_fault hr_fault (by rfl) T.g_fault T.F_fault.kp T.b_fault .nil pass0 (pa_cons (pe_tup pa_nil) pa_nil)) (pa_cons (pe_tup (pa_cons pe_str pa_nil)) pa_nil))) (pe_one (pe_cmpR op_isN (pe_call G_fault hr_fault (by rfl) T.g_fault T.F_fault.kp T.b_fault .nil pass0 (pa_cons (pv 5) pa_nil)) pe_non (nomark _))))))))))))))))))), ?_⟩
    walk_at "rd"
    refine ⟨a, ns, rfl, hS, hlen, fun t ts H1 s1 ht0 ht ok => ?_⟩
    walk_at "rd"
    refine ⟨(by show 2 ≤ sizeLine; decide), fun p hp => ?_⟩
    walk_at "rd"
    have ntp : t ≠ p := ne_of_none ht hp
    have T0 : Tp (upd H1 p (.lst [.ref t, .int 0])) p t ts 0 := ⟨⟨0, upd_same, by decide, by decide⟩, by rw [upd_ne ntp]; exact ht, ntp, ok⟩
    refine ⟨p, t, ts, 0, 4, rfl, T0, by omega, by omega, by omega, fun v y H2 hy hv T2 F2 => ?_⟩
    have hf := fault_ok hy
    have hy4 : y.length ≤ 4 := by have := hy.2.1; omega
    have hzN : SzN 7 y := fun s hs => by
      obtain ⟨h1, h2, h3⟩ := hy.2.2 s hs
      exact ⟨by omega, fun c hc => by have := (h3 c hc).2.2.2.1; omega⟩
    have hz : Sz y := sz_of (by omega) (by decide) hzN
    walk_at "rd"
    refine ⟨v, y, rfl, hv, fun u H3 s3 hu => ?_⟩
    walk_at "rd"
    refine r_ifN (fun c => absurd ((dp_none hu).mpr hf) c) (fun _ => ?_)
    walk_at "rd"
    refine ⟨v, y, rfl, dp_mono s3 hv, hz, fun u H4 s4 hu => ?_⟩
    walk_at "rd"
    refine r_ifN (fun c => absurd ((dp_none hu).mpr hf) c) (fun _ => ?_)
    walk_at "rd"
    have s34 := s3.trans s4
    unfold tLc
    refine for_range (n := Int.toNat 5) (fun i σ H5 => ∃ (v10 : Option V) (x3 x11 : Option V), σ = [some (.ref a), some (.ref p), some v, x3, none, none, none, none, none, none, v10, x11] ∧ Tp H5 p t ts (10000 + 40 * i) ∧ Dp K H5 v (eY y) ∧
        (0 < i → ∃ vo yo, v10 = some vo ∧ Dp K H5 vo (eY yo) ∧ yo.length = y.length ∧ SzN 20 yo)) ⟨_, _, _, rfl, (T2.same s34).mono (by omega), dp_mono s34 hv, fun z => absurd z (by decide)⟩ ?_ ?_
    · rintro i σ H5 hi ⟨v10, x3, x11, rfl, T5, hv5, _⟩
      walk_at "rd"
      refine ⟨p, t, ts, _, 3, rfl, T5, by omega, by decide, fun r H6 r0 r1 T6 e6 => ?_⟩
      walk_at "rd"
      refine ⟨by omega, by omega, ?_⟩
      refine for_range (n := (1 + r).toNat) (fun j σ H7 => ∃ (vo : V) (yo : List (List Cho)) (x11 : Option V), σ = [some (.ref a), some (.ref p), some v, some (.int (0 + (i : Int))), none, none, none, none, none, none, some vo, x11] ∧
          Tp H7 p t ts (10000 + 40 * i + 1 + 10 * j) ∧ Dp K H7 v (eY y) ∧ Dp K H7 vo (eY yo) ∧ yo.length = y.length ∧ SzN (7 + j) yo)
        ⟨_, y, _, rfl, T6.mono (by omega), dp_tk (T5.tk (fm_off e6)) (tu_Y _) hv5, dp_tk (T5.tk (fm_off e6)) (tu_Y _) hv5, rfl, hzN⟩ ?_ ?_
      · rintro j σ H7 hj ⟨vo, yo, x11, rfl, T7, hv7, ho7, hl7, hs7⟩
        walk_at "rd"
        refine ⟨p, t, ts, _, vo, yo, 7 + j, rfl, T7, by omega, ho7, by omega, hs7, by omega, by omega, fun v' y' H8 hd8 hl8 hs8 T8 F8 => ?_⟩
        walk_at "rd"
        exact ⟨v', y', _, rfl, T8.mono (by omega), dp_tk (T7.tk F8) (tu_Y _) hv7, hd8, by omega, hs8⟩
      · rintro σ H7 ⟨vo, yo, x11, rfl, T7, hv7, ho7, hl7, hs7⟩
        walk_at "rd"
        have hs20 : SzN 20 yo := fun s hs => ⟨(hs7 s hs).1, fun c hc => by have := (hs7 s hs).2 c hc; omega⟩
        refine ⟨vo, yo, rfl, ho7, fun u1 H8 s8 hu1 => ?_⟩
        walk_at "rd"
        refine ⟨vo, yo, rfl, dp_mono s8 ho7, sz_of (by omega) (by decide) hs20, fun u2 H9 s9 hu2 => ?_⟩
        walk_at "rd"
        refine ⟨u1, u2, _, rfl, dp_mono s9 hu1, hu2, dn_fault 1 yo, ?_⟩
        walk_at "rd"
        exact ⟨_, _, _, rfl, (T7.same (s8.trans s9)).mono (by omega), dp_mono (s8.trans s9) hv7, fun _ => ⟨vo, yo, rfl, dp_mono (s8.trans s9) ho7, hl7, hs20⟩⟩
    · rintro σ H5 ⟨v10, x3, x11, rfl, T5, hv5, ho⟩
      obtain ⟨vo, yo, rfl, ho5, hlo, hso⟩ := ho (by decide)
      obtain ⟨ay, ys, rfl, sy, dy⟩ := dp_tup hv5
      obtain ⟨ao, os, rfl, so, do_⟩ := dp_tup ho5
      walk_at "rd"
      refine t_rep sy dy (by decide) (by decide) (by rw [List.length_map]; omega) fun q1 zs1 H6 s6 hq1 hd1 => ?_
      walk_at "rd"
      refine ⟨p, t, ts, _, 2, rfl, T5.same s6, by omega, by decide, fun r H7 r0 r1 T7 e7 => ?_⟩
      walk_at "rd"
      have k67 := ((T5.same s6).tk (fm_off e7))
      rw [rep_map] at hd1
      refine t_sl (tk_t k67 hq1) (dpa_tk k67 (tu_map _ tu_S) hd1) fun q2 zs2 H8 s8 hq2 hd2 => ?_
      rw [cut_map, cut_take (by omega)] at hd2
      have hlong : Dp K H8 (.ref q2) (eY ((List.replicate (Int.toNat 21) y).flatten.take (20 + r).toNat)) := .tup hq2 hd2
      have zlong : Sz ((List.replicate (Int.toNat 21) y).flatten.take (20 + r).toNat) := sz_rep (by omega) hz.2
      generalize (List.replicate (Int.toNat 21) y).flatten.take (20 + r).toNat = yl at hlong zlong
      have ho8 := dpa_tk (k67.trans (Same_tk s8)) (tu_map _ tu_S) (dpa_mono s6 do_)
      have so8 := tk_t (k67.trans (Same_tk s8)) (sm_t s6 so)
      have T8 := T7.same s8
      walk_at "rd"
      intro D hD
      refine lc_range (lo := 0) (n := 6) (fun i H' => Same H8 H' ∧ ∃ (xs : List V), H' D = some (.lst xs) ∧ DpAll K H' xs ((onesE i).map eE)) ⟨sm_new hD, [], upd_same, .nil⟩ ?_ ?_
      · rintro i H' hi ⟨s2, xs', hL, hd⟩
        walk_at "rd"
        refine ⟨rfl, ?_⟩
        refine r_yes ?_
        walk_at "rd"
        refine ⟨(by show 2 ≤ sizeLine; decide), fun u hu => ?_⟩
        have nDu : D ≠ u := ne_of_none hL hu
        have hL2 : (upd H' u (.tup [.int (0 + (i : Int)), .int 1])) D = some (.lst xs') := by rw [upd_ne nDu]; exact hL
        have hxl : xs'.length ≤ 7 := by
          have := dpa_len hd
          rw [List.length_map, onesE_len] at this
          omega
        have kt : Tk H' (upd (upd H' u (.tup [.int (0 + (i : Int)), .int 1])) D (.lst (xs' ++ [.ref u]))) := (tk_new hu).trans (tk_lst hL2)
        refine ⟨xs', hL2, Nat.lt_of_le_of_lt hxl (by decide), same_mut (s2.trans (sm_new hu)) hD, xs' ++ [.ref u], upd_same, ?_⟩
        rw [onesE_succ, List.map_append]
        refine dpa_app (dpa_tk kt (tu_map _ tu_E) hd) (.cons (mk_E (SqT.of ?_)) .nil)
        rw [upd_ne nDu.symm, upd_same, Int.zero_add]
      · rintro H9 ⟨s9, xs', hL, hd⟩
        walk_at "rd"
        refine ⟨D, _, rfl, .inl ⟨SqL.of hL, fun q3 hq3 => ?_⟩⟩
        walk_at "rd"
        refine ⟨(by show 2 ≤ sizeLine; decide), fun q4 hq4 => ?_⟩
        walk_at "rd"
        refine ⟨(by show 1 ≤ sizeLine; decide), fun q5 hq5 => ?_⟩
        walk_at "rd"
        have s345 := (sm_new hq3 (o := .tup xs')).trans ((sm_new hq4 (o := .tup [.int 0, .ref q3])).trans (sm_new hq5 (o := .tup [.ref q4])))
        have d3 : Dp K (upd (upd (upd H9 q3 (.tup xs')) q4 (.tup [.int 0, .ref q3])) q5 (.tup [.ref q4])) (.ref q3) (.tuple ((onesE 6).map eE)) := .tup (SqT.of (((sm_new hq4).trans (sm_new hq5)) q3 (.tup xs') upd_same)) (dpa_mono s345 hd)
        have d4 : Dp K (upd (upd (upd H9 q3 (.tup xs')) q4 (.tup [.int 0, .ref q3])) q5 (.tup [.ref q4])) (.ref q4) (eC (0, onesE 6)) := mk_C (SqT.of (sm_new hq5 q4 (.tup [.int 0, .ref q3]) upd_same)) d3
        refine t_rep (SqT.of upd_same) (.cons d4 .nil) (by decide) (by decide) (by decide) fun q6 zs6 Ha sa hq6 hd6 => ?_
        have hd6' : DpAll K Ha zs6 ((List.replicate 6 ((0 : Int), onesE 6)).map eC) := hd6
        walk_at "rd"
        refine ⟨(by show 1 ≤ sizeLine; decide), fun q7 hq7 => ?_⟩
        walk_at "rd"
        have d6 : DpAll K (upd Ha q7 (.tup [.ref q6])) [.ref q6] [eS (List.replicate 6 ((0 : Int), onesE 6))] := .cons (dp_mono (sm_new hq7) (.tup hq6 hd6')) .nil
        refine t_rep (SqT.of upd_same) d6 (by decide) (by decide) (by decide) fun q8 zs8 Hb sb hq8 hd8 => ?_
        have hwA : DpAll K Hb zs8 (wideY.map eS) := hd8
        have s8b : Same H8 Hb := s9.trans (s345.trans (sa.trans ((sm_new hq7).trans sb)))
        walk_at "rd"
        refine ⟨p, t, ts, _, 8, rfl, T8.same s8b, by omega, by decide, fun at_ Hc a0 a1 Tc ec => ?_⟩
        walk_at "rd"
        intro D2 hD2
        obtain ⟨nDp, nDt⟩ := Tc.fresh hD2
        refine lc_range (lo := 0) (n := 8) (fun i H' => Tp H' p t ts (11000 + 2 * i) ∧ Fm p Hc H' ∧ ∃ (xs : List V) (es : List (Int × Int)), H' D2 = some (.lst xs) ∧ DpAll K H' xs (es.map eE) ∧ es.length ≤ i) ⟨(Tc.same (sm_new hD2)).mono (by omega), fm_new hD2, [], [], upd_same, .nil, by decide⟩ ?_ ?_
        · rintro i H' hi ⟨T', F', xs2, es, hL2, hd2, hl2⟩
          walk_at "rd"
          refine ⟨rfl, ?_⟩
          walk_at "rd"
          have hxl : xs2.length ≤ 8 := by
            have := dpa_len hd2
            rw [List.length_map] at this
            omega
          refine ⟨p, t, ts, _, 8, rfl, T', by omega, by decide, fun r2 H2 _ _ T2' e2 => ?_⟩
          walk_at "rd"
          refine r_ifN (fun _ => ?yes) (fun _ => ?more)
          case' more =>
            walk_at "rd"
            refine r_if (fun _ => ?yes2) (fun _ => ?no)
          case no =>
            walk_at "rd"
            exact ⟨T2'.mono (by omega), F'.trans (fm_off e2), xs2, es, (e2 D2 nDp).trans hL2, dpa_tk (T'.tk (fm_off e2)) (tu_map _ tu_E) hd2, by omega⟩
          all_goals
            walk_at "rd"
            refine ⟨p, t, ts, _, 9, rfl, T2', by omega, by decide, fun r3 H3 _ _ T3' e3 => ?_⟩
            walk_at "rd"
            refine ⟨(by show 2 ≤ sizeLine; decide), fun u hu => ?_⟩
            have hL3 := (e3 D2 nDp).trans ((e2 D2 nDp).trans hL2)
            have nDu : D2 ≠ u := ne_of_none hL3 hu
            have hL4 : (upd H3 u (.tup [.int (0 + (i : Int)), .int (1 + r3)])) D2 = some (.lst xs2) := by rw [upd_ne nDu]; exact hL3
            have kt : Tk H' (upd (upd H3 u (.tup [.int (0 + (i : Int)), .int (1 + r3)])) D2 (.lst (xs2 ++ [.ref u]))) := (T'.tk (fm_off e2)).trans ((T2'.tk (fm_off e3)).trans ((tk_new hu).trans (tk_lst hL4)))
            refine ⟨xs2, hL4, Nat.lt_of_le_of_lt hxl (by decide), ((T3'.same (sm_new hu)).other ⟨nDp, nDt⟩).mono (by omega), (F'.trans ((fm_off e2).trans ((fm_off e3).trans (fm_new hu)))).mut hD2, xs2 ++ [.ref u], es ++ [(0 + (i : Int), 1 + r3)], upd_same, ?_, by rw [List.length_append]; show _ + 1 ≤ _; omega⟩
            rw [List.map_append]
            refine dpa_app (dpa_tk kt (tu_map _ tu_E) hd2) (.cons (mk_E (SqT.of ?_)) .nil)
            rw [upd_ne nDu.symm, upd_same]
        · rintro Hd ⟨Td, Fd, xs2, es, hL2, hd2, hl2⟩
          walk_at "rd"
          refine ⟨D2, xs2, rfl, SqL.of hL2, fun q9 hq9 => ?_⟩
          walk_at "rd"
          refine ⟨q9, _, rfl, .inl ⟨SqL.of upd_same, fun q10 hq10 => ?_⟩⟩
          walk_at "rd"
          have s9' := (sm_new hq9 (o := .lst (cutV xs2 none (some 7)))).trans (sm_new hq10 (o := .tup (cutV xs2 none (some 7))))
          obtain ⟨es', hd2', hl2'⟩ := dpa_cutV none (some 7) hd2
          have de : Dp K (upd (upd Hd q9 (.lst (cutV xs2 none (some 7)))) q10 (.tup (cutV xs2 none (some 7)))) (.ref q10) (.tuple (es'.map eE)) := .tup (SqT.of upd_same) (dpa_mono s9' hd2')
          generalize upd (upd Hd q9 (.lst (cutV xs2 none (some 7)))) q10 (.tup (cutV xs2 none (some 7))) = He at s9' de ⊢
          intro D3 hD3
          refine lc_range (lo := 0) (n := 8) (fun i H' => Same He H' ∧ ∃ (xs : List V), H' D3 = some (.lst xs) ∧ DpAll K H' xs ((List.replicate i rowS).map eS)) ⟨sm_new hD3, [], upd_same, .nil⟩ ?_ ?_
          · rintro i H' hi ⟨s2, xs', hL, hd⟩
            walk_at "rd"
            refine ⟨rfl, ?_⟩
            refine r_yes ?_
            walk_at "rd"
            refine ⟨(by show 2 ≤ sizeLine; decide), fun u1 hu1 => ?_⟩
            walk_at "rd"
            refine ⟨(by show 2 ≤ sizeLine; decide), fun u2 hu2 => ?_⟩
            walk_at "rd"
            refine ⟨(by show 2 ≤ sizeLine; decide), fun u3 hu3 => ?_⟩
            walk_at "rd"
            refine ⟨(by show 2 ≤ sizeLine; decide), fun u4 hu4 => ?_⟩
            walk_at "rd"
            refine ⟨(by show 1 ≤ sizeLine; decide), fun u5 hu5 => ?_⟩
            have z5 := sm_new hu5 (o := .tup [.ref u4])
            have z45 := (sm_new hu4 (o := .tup [.int 3, .ref u3])).trans z5
            have z35 := (sm_new hu3 (o := .tup [.ref u1, .ref u2])).trans z45
            have z25 := (sm_new hu2 (o := .tup [.int 7, .int 2])).trans z35
            have z15 := (sm_new hu1 (o := .tup [.int 0, .int 1])).trans z25
            have hL2 := z15 D3 (.lst xs') hL
            have hxl : xs'.length ≤ 8 := by
              have := dpa_len hd
              rw [List.length_map, List.length_replicate] at this
              omega
            have d1 := mk_E (K := K) (i := 0) (j := 1) (SqT.of (z25 u1 (.tup [.int 0, .int 1]) upd_same))
            have d2 := mk_E (K := K) (i := 7) (j := 2) (SqT.of (z35 u2 (.tup [.int 7, .int 2]) upd_same))
            have d3 : Dp K _ (.ref u3) (.tuple ([((0 : Int), (1 : Int)), (7, 2)].map eE)) := .tup (SqT.of (z45 u3 (.tup [.ref u1, .ref u2]) upd_same)) (.cons d1 (.cons d2 .nil))
            have d4 : Dp K _ (.ref u4) (eC (3, [(0, 1), (7, 2)])) := mk_C (SqT.of (z5 u4 (.tup [.int 3, .ref u3]) upd_same)) d3
            have d5 : Dp K _ (.ref u5) (eS rowS) := .tup (SqT.of upd_same) (.cons d4 .nil)
            refine ⟨xs', hL2, Nat.lt_of_le_of_lt hxl (by decide), same_mut (s2.trans z15) hD3, xs' ++ [.ref u5], upd_same, ?_⟩
            rw [List.replicate_succ', List.map_append]
            exact dpa_app (dpa_tk ((Same_tk z15).trans (tk_lst hL2)) (tu_map _ tu_S) hd) (.cons (dp_tk (tk_lst hL2) (tu_S _) d5) .nil)
          · rintro Hf ⟨sf, xs3, hL3, hd3⟩
            walk_at "rd"
            obtain ⟨jj, rfl⟩ : ∃ jj : Nat, at_ = (jj : Int) := ⟨at_.toNat, by omega⟩
            have lx3 : xs3.length = 8 := by
              have := dpa_len hd3
              rw [List.length_map, List.length_replicate] at this
              exact this
            obtain ⟨vr, hvr⟩ : ∃ v, xs3[jj]? = some v := ⟨_, List.getElem?_eq_getElem (by omega)⟩
            obtain ⟨sx, hsx, dsx⟩ := dpa_at hd3 hvr
            obtain rfl : sx = rowS := (List.mem_replicate.mp (List.mem_of_getElem? hsx)).2
            obtain ⟨ar, ur, rfl, sr, dr⟩ := dp_tup dsx
            refine r_ixL (SqL.of hL3) (at_of (j := jj) rfl hvr) ?_
            walk_at "rd"
            refine ⟨(by show 2 ≤ sizeLine; decide), fun w1 hw1 => ?_⟩
            walk_at "rd"
            refine ⟨(by show 1 ≤ sizeLine; decide), fun w2 hw2 => ?_⟩
            have y12 := (sm_new hw1 (o := .tup [.int 1, .ref q10])).trans (sm_new hw2 (o := .tup [.ref w1]))
            have dw : Dp K (upd (upd Hf w1 (.tup [.int 1, .ref q10])) w2 (.tup [.ref w1])) (.ref w1) (eC (1, es')) := mk_C (SqT.of (sm_new hw2 w1 (.tup [.int 1, .ref q10]) upd_same)) (dp_mono (sf.trans y12) de)
            refine t_cat (sm_t y12 sr) (dpa_mono y12 dr) (SqT.of upd_same) (.cons dw .nil) (by show 1 + 1 ≤ 100000; decide) fun c zc Hg sg hc hdc => ?_
            walk_at "rd"
            have hL3g : Hg D3 = some (.lst xs3) := sg _ _ (y12 _ _ hL3)
            refine r_setL hL3g (j := jj) (by unfold ixN; rw [if_pos (by omega)]; show (if _ then _ else _) = _; rw [if_pos (by omega)]; simp) ?_
            walk_at "rd"
            have dcs : Dp K Hg (.ref c) (eS (rowS ++ [(1, es')])) := .tup hc (by rw [List.map_append]; exact hdc)
            have drow := dpa_set dcs jj (dpa_mono (y12.trans sg) hd3)
            have eset : ((List.replicate 8 rowS).map eS).set jj (eS (rowS ++ [(1, es')])) = ((List.replicate 8 rowS).set jj (rowS ++ [(1, es')])).map eS := (List.map_set).symm
            rw [eset] at drow
            have kG : Tk Hg (upd Hg D3 (.lst (xs3.set jj (.ref c)))) := tk_lst hL3g
            have drow' := dpa_tk kG (tu_map _ tu_S) drow
            have zrow : Sz ((List.replicate 8 rowS).set jj (rowS ++ [(1, es')])) := by
              refine ⟨by rw [List.length_set, List.length_replicate]; decide, fun st hst => ?_⟩
              rcases List.mem_or_eq_of_mem_set hst with hst | rfl
              · rw [(List.mem_replicate.mp hst).2]
                exact ⟨by decide, fun c hc => by rw [List.mem_singleton.mp hc]; decide⟩
              · refine ⟨by show 1 + 1 ≤ 1000; decide, fun c hc => ?_⟩
                rcases List.mem_append.mp hc with hc | hc
                · rw [List.mem_singleton.mp hc]
                  decide
                · rw [List.mem_singleton.mp hc]
                  show es'.length ≤ 1000
                  omega
            have kbh : Tk Hb (upd Hg D3 (.lst (xs3.set jj (.ref c)))) := ((T8.same s8b).tk (fm_off ec)).trans ((Tc.tk Fd).trans ((Same_tk (s9'.trans (sf.trans (y12.trans sg)))).trans kG))
            have hrowL : (upd Hg D3 (.lst (xs3.set jj (.ref c)))) D3 = some (.lst (xs3.set jj (.ref c))) := upd_same
            generalize upd Hg D3 (.lst (xs3.set jj (.ref c))) = Hh at kbh hrowL drow' ⊢
            clear drow eset kG
            have k8h := (Same_tk s8b).trans kbh
            have hwh := dpa_tk kbh (tu_map _ tu_S) hwA
            have hq8h := tk_t kbh hq8
            have hlongh := dp_tk k8h (tu_Y _) hlong
            have hoh := dpa_tk k8h (tu_map _ tu_S) ho8
            have soh := tk_t k8h so8
            generalize (List.replicate 8 rowS).set jj (rowS ++ [(1, es')]) = yrow at drow' zrow
            generalize xs3.set jj (.ref c) = xsr at hrowL drow' ⊢
            walk_at "rd"
            refine t_sl hq8h hwh fun q11 zs11 Hi si hq11 hd11 => ?_
            walk_at "rd"
            intro D4 hD4
            refine lc_range (lo := 0) (n := 7) (fun i H' => Same Hi H' ∧ ∃ (xs : List V), H' D4 = some (.lst xs) ∧ DpAll K H' xs ((onesE i).map eE)) ⟨sm_new hD4, [], upd_same, .nil⟩ ?_ ?_
            · rintro i H' hi ⟨s2, xs', hL, hd⟩
              walk_at "rd"
              refine ⟨rfl, ?_⟩
              refine r_yes ?_
              walk_at "rd"
              refine ⟨(by show 2 ≤ sizeLine; decide), fun u hu => ?_⟩
              have nDu : D4 ≠ u := ne_of_none hL hu
              have hL2 : (upd H' u (.tup [.int (0 + (i : Int)), .int 1])) D4 = some (.lst xs') := by rw [upd_ne nDu]; exact hL
              have hxl : xs'.length ≤ 7 := by
                have := dpa_len hd
                rw [List.length_map, onesE_len] at this
                omega
              have kt : Tk H' (upd (upd H' u (.tup [.int (0 + (i : Int)), .int 1])) D4 (.lst (xs' ++ [.ref u]))) := (tk_new hu).trans (tk_lst hL2)
              refine ⟨xs', hL2, Nat.lt_of_le_of_lt hxl (by decide), same_mut (s2.trans (sm_new hu)) hD4, xs' ++ [.ref u], upd_same, ?_⟩
              rw [onesE_succ, List.map_append]
              refine dpa_app (dpa_tk kt (tu_map _ tu_E) hd) (.cons (mk_E (SqT.of ?_)) .nil)
              rw [upd_ne nDu.symm, upd_same, Int.zero_add]
            · rintro Hj ⟨sj, xs7, hL7, hd7⟩
              walk_at "rd"
              refine ⟨D4, _, rfl, .inl ⟨SqL.of hL7, fun q12 hq12 => ?_⟩⟩
              walk_at "rd"
              refine ⟨(by show 2 ≤ sizeLine; decide), fun q13 hq13 => ?_⟩
              walk_at "rd"
              refine ⟨(by show 1 ≤ sizeLine; decide), fun q14 hq14 => ?_⟩
              walk_at "rd"
              refine ⟨(by show 1 ≤ sizeLine; decide), fun q15 hq15 => ?_⟩
              have x15 := sm_new hq15 (o := .tup [.ref q14])
              have x45 := (sm_new hq14 (o := .tup [.ref q13])).trans x15
              have x35 := (sm_new hq13 (o := .tup [.int 0, .ref q12])).trans x45
              have x25 := (sm_new hq12 (o := .tup xs7)).trans x35
              have d12 : Dp K _ (.ref q12) (.tuple ((onesE 7).map eE)) := .tup (SqT.of (x35 q12 (.tup xs7) upd_same)) (dpa_mono x25 hd7)
              have d13 : Dp K _ (.ref q13) (eC (0, onesE 7)) := mk_C (SqT.of (x45 q13 (.tup [.int 0, .ref q12]) upd_same)) d12
              have d14 : Dp K _ (.ref q14) (eS [(0, onesE 7)]) := .tup (SqT.of (x15 q14 (.tup [.ref q13]) upd_same)) (.cons d13 .nil)
              walk_at "rd"
              rw [cut_map, cut_take (by decide)] at hd11
              refine t_cat (sm_t (sj.trans x25) hq11) (dpa_mono (sj.trans x25) hd11) (SqT.of upd_same) (.cons d14 .nil) (by decide) fun q16 zs16 Hk sk hq16 hd16 => ?_
              have dseven : Dp K Hk (.ref q16) (eY (wideY.take 6 ++ [[(0, onesE 7)]])) := .tup hq16 (by rw [List.map_append]; exact hd16)
              have zseven : Sz (wideY.take 6 ++ [[(0, onesE 7)]]) := by unfold Sz; decide +kernel
              generalize wideY.take 6 ++ [[(0, onesE 7)]] = yseven at dseven zseven
              have shk : Same Hh Hk := si.trans (sj.trans (x25.trans sk))
              walk_at "rd"
              refine ⟨D3, _, rfl, .inl ⟨SqL.of (shk _ _ hrowL), fun v1 hv1 => ?_⟩⟩
              walk_at "rd"
              have sv1 := shk.trans (sm_new hv1 (o := .tup xsr))
              have c1 : Ck K (upd Hk v1 (.tup xsr)) (.ref v1) := ⟨yrow, .tup (SqT.of upd_same) (dpa_mono sv1 drow'), zrow⟩
              refine t_rep (sm_t sv1 soh) (dpa_mono sv1 hoh) (by decide) (by decide) (by rw [List.length_map]; omega) fun v2 zv2 Hl sl hv2 hdv2 => ?_
              walk_at "rd"
              rw [rep_map] at hdv2
              refine t_sl hv2 hdv2 fun v3 zv3 Hm sm hv3 hdv3 => ?_
              rw [cut_map, cut_take (by decide)] at hdv3
              have zo := (sz_of (N := 20) (y := yo) (by omega) (by decide) hso).2
              have c3 : Ck K Hm (.ref v3) := ⟨_, .tup hv3 hdv3, sz_rep (by decide) zo⟩
              walk_at "rd"
              have svm := sv1.trans (sl.trans sm)
              refine t_rep (sm_t svm soh) (dpa_mono svm hoh) (by decide) (by decide) (by rw [List.length_map]; omega) fun v4 zv4 Hn sn hv4 hdv4 => ?_
              walk_at "rd"
              rw [rep_map] at hdv4
              refine t_sl hv4 hdv4 fun v5 zv5 Ho so' hv5' hdv5 => ?_
              rw [cut_map, cut_take (by decide)] at hdv5
              have c5 : Ck K Ho (.ref v5) := ⟨_, .tup hv5' hdv5, sz_rep (by decide) zo⟩
              walk_at "rd"
              refine ⟨(by show 4 ≤ sizeLine; decide), fun L hL => ?_⟩
              walk_at "rd"
              have sL := sm_new hL (o := .lst [.ref v1, .ref v3, .ref v5, .ref q16])
              have sn5 := sn.trans so'
              have shL : Same Hh (upd Ho L (.lst [.ref v1, .ref v3, .ref v5, .ref q16])) := svm.trans (sn5.trans sL)
              have all : ∀ u ∈ [V.ref v1, .ref v3, .ref v5, .ref q16], Ck K (upd Ho L (.lst [.ref v1, .ref v3, .ref v5, .ref q16])) u := fun u hu => by
                rcases List.mem_cons.mp hu with rfl | hu
                · exact c1.mono (sl.trans (sm.trans (sn5.trans sL)))
                rcases List.mem_cons.mp hu with rfl | hu
                · exact c3.mono (sn5.trans sL)
                rcases List.mem_cons.mp hu with rfl | hu
                · exact c5.mono sL
                · rw [List.mem_singleton.mp hu]
                  exact Ck.mono ((sm_new hv1).trans (sl.trans (sm.trans (sn5.trans sL)))) ⟨yseven, dseven, zseven⟩
              have hLs : (upd Ho L (.lst [.ref v1, .ref v3, .ref v5, .ref q16])) L = some (.lst [.ref v1, .ref v3, .ref v5, .ref q16]) := upd_same
              generalize upd Ho L (.lst [.ref v1, .ref v3, .ref v5, .ref q16]) = Hz at shL all hLs ⊢
              refine ⟨L, rfl, ⟨_, SqL.of hLs⟩, for_list (K := K) (a := L) (xs := [.ref v1, .ref v3, .ref v5, .ref q16]) (fun i σ H' => ∃ (x10 x11 : Option V), σ = [some (.ref a), some (.ref p), some (.ref ay), x3, some (.ref q2), some (.ref q8), some (.int jj), some (.ref q10), some (.ref D3), some (.ref q16), x10, x11] ∧ Same Hz H')
                ⟨_, _, rfl, Same.refl _⟩ (fun i σ H' _ ⟨_, _, _, e⟩ => sm_l e (SqL.of hLs)) ?_ ?_⟩
              · rintro i v σ H' hi ⟨x10, x11', rfl, sx⟩
                obtain ⟨yy, dyy, zyy⟩ := (all v (List.mem_of_getElem? hi)).mono sx
                walk_at "rd"
                refine ⟨v, yy, rfl, dyy, fun u1 Hp1 t1 hu1 => ?_⟩
                walk_at "rd"
                refine ⟨v, yy, rfl, dp_mono t1 dyy, zyy, fun u2 Hp2 t2 hu2 => ?_⟩
                walk_at "rd"
                refine ⟨u1, u2, _, rfl, dp_mono t2 hu1, hu2, dn_fault 1 yy, ?_⟩
                walk_at "rd"
                exact ⟨_, _, rfl, sx.trans (t1.trans t2)⟩
              · rintro σ H' ⟨x10, x11', rfl, sx⟩
                have shx := shL.trans sx
                have dl := dp_mono shx hlongh
                walk_at "rd"
                refine ⟨_, yl, rfl, dl, fun u1 Hp1 t1 hu1 => ?_⟩
                walk_at "rd"
                refine ⟨_, yl, rfl, dp_mono t1 dl, zlong, fun u2 Hp2 t2 hu2 => ?_⟩
                walk_at "rd"
                refine ⟨u1, u2, _, rfl, dp_mono t2 hu1, hu2, dn_fault 1 yl, ?_⟩
                walk_at "rd"
                refine ⟨by decide, fun z1 hz1 => ?_⟩
                walk_at "rd"
                refine ⟨.ref z1, [], rfl, .tup (SqT.of upd_same) .nil, fun u3 Hp3 t3 hu3 => ?_⟩
                walk_at "rd"
                refine ⟨(by show 1 ≤ sizeLine; decide), fun z2 hz2 => ?_⟩
                walk_at "rd"
                refine ⟨u3, .ref z2, tS "states", rfl, dp_mono (sm_new hz2) hu3, .tup (SqT.of upd_same) (.cons (.str _) .nil), dn_tS 1 _, ?_⟩
                walk_at "rd"
                refine ⟨.ref q8, wideY, rfl, dp_mono (shx.trans ((t1.trans t2).trans ((sm_new hz1).trans (t3.trans (sm_new hz2))))) (.tup hq8h hwh), fun u4 Hp4 t4 hu4 => ?_⟩
                walk_at "rd"
                have e4 : u4 = .non := (dp_none hu4).mpr wide_ok
                rw [decide_eq_true e4]
                exact k _
theorem all_mk {l : PySem.W.OpenLaw} {w : World} {K : PySem.W.Frag} {h : Heap} {mg : Str → Option Value} {fa f0 f1 f2 f3 f4 f5 f6 f7 f8 f9 f10 f11 f12 f13 : Addr} (X : K.In h) (G : h.Ns mainGlobals mg) (hfa : mg "law" = some (.ref fa))
    {od0 an0 : Option Addr} {sl0 : Array (Option Value)} {oc0 kV0 dc0 pm0 cd0 ct0 : Value}
    {od1 an1 : Option Addr} {sl1 : Array (Option Value)} {oc1 kV1 dc1 pm1 cd1 ct1 : Value}
    {od2 an2 : Option Addr} {sl2 : Array (Option Value)} {oc2 kV2 dc2 pm2 cd2 ct2 : Value}
    {od3 an3 : Option Addr} {sl3 : Array (Option Value)} {oc3 kV3 dc3 pm3 cd3 ct3 : Value}
    {od4 an4 : Option Addr} {sl4 : Array (Option Value)} {oc4 kV4 dc4 pm4 cd4 ct4 : Value}
    {od5 an5 : Option Addr} {sl5 : Array (Option Value)} {oc5 kV5 dc5 pm5 cd5 ct5 : Value}
    {od6 an6 : Option Addr} {sl6 : Array (Option Value)} {oc6 kV6 dc6 pm6 cd6 ct6 : Value}
    {od7 an7 : Option Addr} {sl7 : Array (Option Value)} {oc7 kV7 dc7 pm7 cd7 ct7 : Value}
    {od8 an8 : Option Addr} {sl8 : Array (Option Value)} {oc8 kV8 dc8 pm8 cd8 ct8 : Value}
    {od9 an9 : Option Addr} {sl9 : Array (Option Value)} {oc9 kV9 dc9 pm9 cd9 ct9 : Value}
    {od10 an10 : Option Addr} {sl10 : Array (Option Value)} {oc10 kV10 dc10 pm10 cd10 ct10 : Value}
    {od11 an11 : Option Addr} {sl11 : Array (Option Value)} {oc11 kV11 dc11 pm11 cd11 ct11 : Value}
    {od12 an12 : Option Addr} {sl12 : Array (Option Value)} {oc12 kV12 dc12 pm12 cd12 ct12 : Value}
    {od13 an13 : Option Addr} {sl13 : Array (Option Value)} {oc13 kV13 dc13 pm13 cd13 ct13 : Value}
    (a0 : PySem.W.nsIn K mainGlobals "are_ends" = some (some (.ref f0))) (l0 : K.lookup f0 = some ⟨oc0, od0, .func (PySem.W.fnOf "are_ends" "are_ends" (defArgs s_are_ends) (defBody s_are_ends) (defScope s_are_ends) .none kV0 dc0 pm0 an0 cd0 ct0), sl0⟩) (c0 : PySem.W.codeIn K cd0 "are_ends" = true) (k0 : PySem.W.keepIn K (.ref f0) = true)
    (a1 : PySem.W.nsIn K mainGlobals "fault_in_state" = some (some (.ref f1))) (l1 : K.lookup f1 = some ⟨oc1, od1, .func (PySem.W.fnOf "fault_in_state" "fault_in_state" (defArgs s_fault_in_state) (defBody s_fault_in_state) (defScope s_fault_in_state) .none kV1 dc1 pm1 an1 cd1 ct1), sl1⟩) (c1 : PySem.W.codeIn K cd1 "fault_in_state" = true) (k1 : PySem.W.keepIn K (.ref f1) = true)
    (a2 : PySem.W.nsIn K mainGlobals "fault" = some (some (.ref f2))) (l2 : K.lookup f2 = some ⟨oc2, od2, .func (PySem.W.fnOf "fault" "fault" (defArgs s_fault) (defBody s_fault) (defScope s_fault) .none kV2 dc2 pm2 an2 cd2 ct2), sl2⟩) (c2 : PySem.W.codeIn K cd2 "fault" = true) (k2 : PySem.W.keepIn K (.ref f2) = true)
    (a3 : PySem.W.nsIn K mainGlobals "_law_tape" = some (some (.ref f3))) (l3 : K.lookup f3 = some ⟨oc3, od3, .func (PySem.W.fnOf "_law_tape" "_law_tape" (defArgs s_l_tape) (defBody s_l_tape) (defScope s_l_tape) .none kV3 dc3 pm3 an3 cd3 ct3), sl3⟩) (c3 : PySem.W.codeIn K cd3 "_law_tape" = true) (k3 : PySem.W.keepIn K (.ref f3) = true)
    (a4 : PySem.W.nsIn K mainGlobals "_law_draw" = some (some (.ref f4))) (l4 : K.lookup f4 = some ⟨oc4, od4, .func (PySem.W.fnOf "_law_draw" "_law_draw" (defArgs s_l_draw) (defBody s_l_draw) (defScope s_l_draw) .none kV4 dc4 pm4 an4 cd4 ct4), sl4⟩) (c4 : PySem.W.codeIn K cd4 "_law_draw" = true) (k4 : PySem.W.keepIn K (.ref f4) = true)
    (a5 : PySem.W.nsIn K mainGlobals "_law_equal" = some (some (.ref f5))) (l5 : K.lookup f5 = some ⟨oc5, od5, .func (PySem.W.fnOf "_law_equal" "_law_equal" (defArgs s_l_equal) (defBody s_l_equal) (defScope s_l_equal) .none kV5 dc5 pm5 an5 cd5 ct5), sl5⟩) (c5 : PySem.W.codeIn K cd5 "_law_equal" = true) (k5 : PySem.W.keepIn K (.ref f5) = true)
    (a6 : PySem.W.nsIn K mainGlobals "_law_take" = some (some (.ref f6))) (l6 : K.lookup f6 = some ⟨oc6, od6, .func (PySem.W.fnOf "_law_take" "_law_take" (defArgs s_l_take) (defBody s_l_take) (defScope s_l_take) .none kV6 dc6 pm6 an6 cd6 ct6), sl6⟩) (c6 : PySem.W.codeIn K cd6 "_law_take" = true) (k6 : PySem.W.keepIn K (.ref f6) = true)
    (a7 : PySem.W.nsIn K mainGlobals "_law_ends" = some (some (.ref f7))) (l7 : K.lookup f7 = some ⟨oc7, od7, .func (PySem.W.fnOf "_law_ends" "_law_ends" (defArgs s_l_ends) (defBody s_l_ends) (defScope s_l_ends) .none kV7 dc7 pm7 an7 cd7 ct7), sl7⟩) (c7 : PySem.W.codeIn K cd7 "_law_ends" = true) (k7 : PySem.W.keepIn K (.ref f7) = true)
    (a8 : PySem.W.nsIn K mainGlobals "_law_choices" = some (some (.ref f8))) (l8 : K.lookup f8 = some ⟨oc8, od8, .func (PySem.W.fnOf "_law_choices" "_law_choices" (defArgs s_l_choices) (defBody s_l_choices) (defScope s_l_choices) .none kV8 dc8 pm8 an8 cd8 ct8), sl8⟩) (c8 : PySem.W.codeIn K cd8 "_law_choices" = true) (k8 : PySem.W.keepIn K (.ref f8) = true)
    (a9 : PySem.W.nsIn K mainGlobals "_law_system" = some (some (.ref f9))) (l9 : K.lookup f9 = some ⟨oc9, od9, .func (PySem.W.fnOf "_law_system" "_law_system" (defArgs s_l_system) (defBody s_l_system) (defScope s_l_system) .none kV9 dc9 pm9 an9 cd9 ct9), sl9⟩) (c9 : PySem.W.codeIn K cd9 "_law_system" = true) (k9 : PySem.W.keepIn K (.ref f9) = true)
    (a10 : PySem.W.nsIn K mainGlobals "_law_fits" = some (some (.ref f10))) (l10 : K.lookup f10 = some ⟨oc10, od10, .func (PySem.W.fnOf "_law_fits" "_law_fits" (defArgs s_l_fits) (defBody s_l_fits) (defScope s_l_fits) .none kV10 dc10 pm10 an10 cd10 ct10), sl10⟩) (c10 : PySem.W.codeIn K cd10 "_law_fits" = true) (k10 : PySem.W.keepIn K (.ref f10) = true)
    (a11 : PySem.W.nsIn K mainGlobals "_law_due" = some (some (.ref f11))) (l11 : K.lookup f11 = some ⟨oc11, od11, .func (PySem.W.fnOf "_law_due" "_law_due" (defArgs s_l_due) (defBody s_l_due) (defScope s_l_due) .none kV11 dc11 pm11 an11 cd11 ct11), sl11⟩) (c11 : PySem.W.codeIn K cd11 "_law_due" = true) (k11 : PySem.W.keepIn K (.ref f11) = true)
    (a12 : PySem.W.nsIn K mainGlobals "_law_changed" = some (some (.ref f12))) (l12 : K.lookup f12 = some ⟨oc12, od12, .func (PySem.W.fnOf "_law_changed" "_law_changed" (defArgs s_l_changed) (defBody s_l_changed) (defScope s_l_changed) .none kV12 dc12 pm12 an12 cd12 ct12), sl12⟩) (c12 : PySem.W.codeIn K cd12 "_law_changed" = true) (k12 : PySem.W.keepIn K (.ref f12) = true)
    (a13 : PySem.W.nsIn K mainGlobals "law" = some (some (.ref f13))) (l13 : K.lookup f13 = some ⟨oc13, od13, .func (PySem.W.fnOf "law" "law" (defArgs s_law) (defBody s_law) (defScope s_law) .none kV13 dc13 pm13 an13 cd13 ct13), sl13⟩) (c13 : PySem.W.codeIn K cd13 "law" = true) (k13 : PySem.W.keepIn K (.ref f13) = true)
    (z_bool : PySem.W.nsIn K mainGlobals "bool" = some none)
    (z_enumerate : PySem.W.nsIn K mainGlobals "enumerate" = some none)
    (z_int : PySem.W.nsIn K mainGlobals "int" = some none)
    (z_isinstance : PySem.W.nsIn K mainGlobals "isinstance" = some none)
    (z_len : PySem.W.nsIn K mainGlobals "len" = some none)
    (z_list : PySem.W.nsIn K mainGlobals "list" = some none)
    (z_range : PySem.W.nsIn K mainGlobals "range" = some none)
    (z_str : PySem.W.nsIn K mainGlobals "str" = some none)
    (z_tuple : PySem.W.nsIn K mainGlobals "tuple" = some none)
    {t_MOST_CHOICES : Tok} (z_MOST_CHOICES : PySem.W.nsIn K mainGlobals "MOST_CHOICES" = some (some (.int 6 t_MOST_CHOICES)))
    {t_MOST_COST : Tok} (z_MOST_COST : PySem.W.nsIn K mainGlobals "MOST_COST" = some (some (.int 1000 t_MOST_COST)))
    {t_MOST_ENDS : Tok} (z_MOST_ENDS : PySem.W.nsIn K mainGlobals "MOST_ENDS" = some (some (.int 6 t_MOST_ENDS)))
    {t_MOST_STATES : Tok} (z_MOST_STATES : PySem.W.nsIn K mainGlobals "MOST_STATES" = some (some (.int 20 t_MOST_STATES)))
    {t_MOST_WEIGHT : Tok} (z_MOST_WEIGHT : PySem.W.nsIn K mainGlobals "MOST_WEIGHT" = some (some (.int 1000 t_MOST_WEIGHT)))
    : ∃ fd : FuncData, (∀ (s : Shared) (v : Value), BindsTo s fd ⟨[v], []⟩ [("script", v)]) ∧ ∀ base : Heap, K.In base → base.Ns mainGlobals mg → FnOk l.prog w K mg base CX0 6 fa fd ["script"] (sp_law K) := by
  have e := hfa.symm.trans (PySem.W.mg_of X G a13)
  cases e
  have F0 := fun_mk (st := s_are_ends) l0 c0 k0
  have b0 := F0.binds (ps := ["many", "ends"]) fun _ _ _ _ _ _ us hl => match us, hl with | [_, _], _ => rfl
  have F1 := fun_mk (st := s_fault_in_state) l1 c1 k1
  have b1 := F1.binds (ps := ["many", "state", "choices"]) fun _ _ _ _ _ _ us hl => match us, hl with | [_, _, _], _ => rfl
  have F2 := fun_mk (st := s_fault) l2 c2 k2
  have b2 := F2.binds (ps := ["system"]) fun _ _ _ _ _ _ us hl => match us, hl with | [_], _ => rfl
  have F3 := fun_mk (st := s_l_tape) l3 c3 k3
  have b3 := F3.binds (ps := ["script"]) fun _ _ _ _ _ _ us hl => match us, hl with | [_], _ => rfl
  have F4 := fun_mk (st := s_l_draw) l4 c4 k4
  have b4 := F4.binds (ps := ["tape", "at", "many"]) fun _ _ _ _ _ _ us hl => match us, hl with | [_, _, _], _ => rfl
  have F5 := fun_mk (st := s_l_equal) l5 c5 k5
  have b5 := F5.binds (ps := ["actual", "due"]) fun _ _ _ _ _ _ us hl => match us, hl with | [_, _], _ => rfl
  have F6 := fun_mk (st := s_l_take) l6 c6 k6
  have b6 := F6.binds (ps := ["state", "many"]) fun _ _ _ _ _ _ us hl => match us, hl with | [_, _], _ => rfl
  have F7 := fun_mk (st := s_l_ends) l7 c7 k7
  have b7 := F7.binds (ps := ["state", "many"]) fun _ _ _ _ _ _ us hl => match us, hl with | [_, _], _ => rfl
  have F8 := fun_mk (st := s_l_choices) l8 c8 k8
  have b8 := F8.binds (ps := ["state", "many", "most"]) fun _ _ _ _ _ _ us hl => match us, hl with | [_, _, _], _ => rfl
  have F9 := fun_mk (st := s_l_system) l9 c9 k9
  have b9 := F9.binds (ps := ["state", "most"]) fun _ _ _ _ _ _ us hl => match us, hl with | [_, _], _ => rfl
  have F10 := fun_mk (st := s_l_fits) l10 c10 k10
  have b10 := F10.binds (ps := ["ends", "many"]) fun _ _ _ _ _ _ us hl => match us, hl with | [_, _], _ => rfl
  have F11 := fun_mk (st := s_l_due) l11 c11 k11
  have b11 := F11.binds (ps := ["system"]) fun _ _ _ _ _ _ us hl => match us, hl with | [_], _ => rfl
  have F12 := fun_mk (st := s_l_changed) l12 c12 k12
  have b12 := F12.binds (ps := ["state", "system"]) fun _ _ _ _ _ _ us hl => match us, hl with | [_, _], _ => rfl
  have F13 := fun_mk (st := s_law) l13 c13 k13
  have b13 := F13.binds (ps := ["script"]) fun _ _ _ _ _ _ us hl => match us, hl with | [_], _ => rfl
  let T : Env K mg := { a_are_ends := _, d_are_ends := _, F_are_ends := F0, b_are_ends := b0, g_are_ends := PySem.W.mg_of X G a0, a_fault_in_state := _, d_fault_in_state := _, F_fault_in_state := F1, b_fault_in_state := b1, g_fault_in_state := PySem.W.mg_of X G a1, a_fault := _, d_fault := _, F_fault := F2, b_fault := b2, g_fault := PySem.W.mg_of X G a2, a_l_tape := _, d_l_tape := _, F_l_tape := F3, b_l_tape := b3, g_l_tape := PySem.W.mg_of X G a3, a_l_draw := _, d_l_draw := _, F_l_draw := F4, b_l_draw := b4, g_l_draw := PySem.W.mg_of X G a4, a_l_equal := _, d_l_equal := _, F_l_equal := F5, b_l_equal := b5, g_l_equal := PySem.W.mg_of X G a5, a_l_take := _, d_l_take := _, F_l_take := F6, b_l_take := b6, g_l_take := PySem.W.mg_of X G a6, a_l_ends := _, d_l_ends := _, F_l_ends := F7, b_l_ends := b7, g_l_ends := PySem.W.mg_of X G a7, a_l_choices := _, d_l_choices := _, F_l_choices := F8, b_l_choices := b8, g_l_choices := PySem.W.mg_of X G a8, a_l_system := _, d_l_system := _, F_l_system := F9, b_l_system := b9, g_l_system := PySem.W.mg_of X G a9, a_l_fits := _, d_l_fits := _, F_l_fits := F10, b_l_fits := b10, g_l_fits := PySem.W.mg_of X G a10, a_l_due := _, d_l_due := _, F_l_due := F11, b_l_due := b11, g_l_due := PySem.W.mg_of X G a11, a_l_changed := _, d_l_changed := _, F_l_changed := F12, b_l_changed := b12, g_l_changed := PySem.W.mg_of X G a12, a_law := _, d_law := _, F_law := F13, b_law := b13, g_law := PySem.W.mg_of X G a13, z_bool := PySem.W.mg_none_of X G z_bool, z_enumerate := PySem.W.mg_none_of X G z_enumerate, z_int := PySem.W.mg_none_of X G z_int, z_isinstance := PySem.W.mg_none_of X G z_isinstance, z_len := PySem.W.mg_none_of X G z_len, z_list := PySem.W.mg_none_of X G z_list, z_range := PySem.W.mg_none_of X G z_range, z_str := PySem.W.mg_none_of X G z_str, z_tuple := PySem.W.mg_none_of X G z_tuple, k_MOST_CHOICES := t_MOST_CHOICES, c_MOST_CHOICES := PySem.W.mg_of X G z_MOST_CHOICES, k_MOST_COST := t_MOST_COST, c_MOST_COST := PySem.W.mg_of X G z_MOST_COST, k_MOST_ENDS := t_MOST_ENDS, c_MOST_ENDS := PySem.W.mg_of X G z_MOST_ENDS, k_MOST_STATES := t_MOST_STATES, c_MOST_STATES := PySem.W.mg_of X G z_MOST_STATES, k_MOST_WEIGHT := t_MOST_WEIGHT, c_MOST_WEIGHT := PySem.W.mg_of X G z_MOST_WEIGHT }
  exact ⟨PySem.W.fnOf "law" "law" (defArgs s_law) (defBody s_law) (defScope s_law) .none kV13 dc13 pm13 an13 cd13 ct13, fun s v => .of_eq rfl, fun base _ _ => ok_law T⟩
end Bo
open PySem PySem.W PyProof.Rows
set_option maxRecDepth 100000 in
set_option maxHeartbeats 0 in
theorem PySem.Challenge.cw_bestodds_k03_faults_of_systems_holds : PySem.Challenge.rw_bestodds_k03_faults_of_systems.Holds := by
  w_on; o_law; k_head; (case hw => w_witness2)
  k_fill
  refine L2.walk_of (l := PySem.Challenge.rw_bestodds_k03_faults_of_systems) (n := 63) (k := 6) (x := "script") (CX := fun _ => L2.CX0) (sp := fun w => Bo.sp_law _) rfl (by decide) rfl ⟨rfl, by decide, by decide⟩ (fun w h Y => PySem.W.kIn_of Y) ?F (fun _ _ a ns hl _ hS => ⟨a, ns, rfl, hS, hl, fun _ => rfl⟩) (fun _ _ _ _ _ h => h)
  case F =>
    intro w mg fa h KX G hmg
    refine' Bo.all_mk KX G hmg ?a0 ?l0 ?c0 ?k0 ?a1 ?l1 ?c1 ?k1 ?a2 ?l2 ?c2 ?k2 ?a3 ?l3 ?c3 ?k3 ?a4 ?l4 ?c4 ?k4 ?a5 ?l5 ?c5 ?k5 ?a6 ?l6 ?c6 ?k6 ?a7 ?l7 ?c7 ?k7 ?a8 ?l8 ?c8 ?k8 ?a9 ?l9 ?c9 ?k9 ?a10 ?l10 ?c10 ?k10 ?a11 ?l11 ?c11 ?k11 ?a12 ?l12 ?c12 ?k12 ?a13 ?l13 ?c13 ?k13 ?z_bool ?z_enumerate ?z_int ?z_isinstance ?z_len ?z_list ?z_range ?z_str ?z_tuple ?z_MOST_CHOICES ?z_MOST_COST ?z_MOST_ENDS ?z_MOST_STATES ?z_MOST_WEIGHT
    (case a0 => k_is)
    (case l0 => k_is)
    (case c0 => k_is)
    (case k0 => k_is)
    (case a1 => k_is)
    (case l1 => k_is)
    (case c1 => k_is)
    (case k1 => k_is)
    (case a2 => k_is)
    (case l2 => k_is)
    (case c2 => k_is)
    (case k2 => k_is)
    (case a3 => k_is)
    (case l3 => k_is)
    (case c3 => k_is)
    (case k3 => k_is)
    (case a4 => k_is)
    (case l4 => k_is)
    (case c4 => k_is)
    (case k4 => k_is)
    (case a5 => k_is)
    (case l5 => k_is)
    (case c5 => k_is)
    (case k5 => k_is)
    (case a6 => k_is)
    (case l6 => k_is)
    (case c6 => k_is)
    (case k6 => k_is)
    (case a7 => k_is)
    (case l7 => k_is)
    (case c7 => k_is)
    (case k7 => k_is)
    (case a8 => k_is)
    (case l8 => k_is)
    (case c8 => k_is)
    (case k8 => k_is)
    (case a9 => k_is)
    (case l9 => k_is)
    (case c9 => k_is)
    (case k9 => k_is)
    (case a10 => k_is)
    (case l10 => k_is)
    (case c10 => k_is)
    (case k10 => k_is)
    (case a11 => k_is)
    (case l11 => k_is)
    (case c11 => k_is)
    (case k11 => k_is)
    (case a12 => k_is)
    (case l12 => k_is)
    (case c12 => k_is)
    (case k12 => k_is)
    (case a13 => k_is)
    (case l13 => k_is)
    (case c13 => k_is)
    (case k13 => k_is)
    (case z_bool => k_is)
    (case z_enumerate => k_is)
    (case z_int => k_is)
    (case z_isinstance => k_is)
    (case z_len => k_is)
    (case z_list => k_is)
    (case z_range => k_is)
    (case z_str => k_is)
    (case z_tuple => k_is)
    (case z_MOST_CHOICES => k_is)
    (case z_MOST_COST => k_is)
    (case z_MOST_ENDS => k_is)
    (case z_MOST_STATES => k_is)
    (case z_MOST_WEIGHT => k_is)

