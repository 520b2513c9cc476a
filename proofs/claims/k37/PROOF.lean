import PyProof.Rows.All
import Wide.All
import OpenK.AllK
import Wide.FinOn
import HandS.ForMost
import HandS.IsInst
import HandS.Wide
import HandS.Gcd
import HandS.Codes
import HandS.ExcInit
import HandS.ExcValue
import HandS.ExcField
import HandS.ExcIs
import KE.KExcIs
import PySem.Challenge.RW_bestodds_k37_errors
set_option Elab.async false
set_option linter.all false
set_option maxRecDepth 100000
set_option maxHeartbeats 4000000
namespace Bo
open PySem L2

/-! ### readings, step by step -/
section
variable {σ : L2.St} {H : Hp} {Q : VK} {D : Ends} {ta tb te : TE} {t u : TS} {tt tu : TT} {K : PySem.W.Frag}
theorem r_seq (h : t { D with nx := u D } σ H) : tSeq t u D σ H := h
theorem r_asg {g : TG} (h : te σ H fun x H1 => g x σ H1 D.nx) : tAsg te g D σ H := h
theorem r_name {i : Nat} {v : V} {R : L2.St → Hp → Prop} (h : R (σ.set i (some v)) H) : gName i v σ H R := h
theorem r_var {i : Nat} (h : ∃ v, σ[i]? = some (some v) ∧ Q v H) : tVar i σ H Q := h
theorem r_c {v : V} (h : Q v H) : tC v σ H Q := h
theorem r_op {r : R2} (h : ta σ H fun x H1 => tb σ H1 fun y H2 => r x y H2 Q) : tOp r ta tb σ H Q := h
theorem r_un {r : V → Hp → VK → Prop} (h : ta σ H fun x H1 => r x H1 Q) : tUn r ta σ H Q := h
theorem r_i0 {g : Int → Int → V} {i j : Int} (h : Q (g i j) H) : rI0 g (.int i) (.int j) H Q := ⟨i, j, rfl, rfl, h⟩
theorem r_iC {C : Int → Int → Prop} {g : Int → Int → V} {i j : Int} (c : C i j) (h : Q (g i j) H) : rI C g (.int i) (.int j) H Q := ⟨i, j, rfl, rfl, c, h⟩
theorem r_u {g : Int → V} {i : Int} (h : Q (g i) H) : rU g (.int i) H Q := ⟨i, rfl, h⟩
theorem r_eqI {i j : Int} (h : Q (.bl (decide (i = j))) H) : rEq (.int i) (.int j) H Q := by
  refine ⟨rfl, ?_⟩
  have e : decide (V.int i = V.int j) = decide (i = j) := by
    by_cases q : i = j
    · subst q; simp
    · rw [decide_eq_false q, decide_eq_false fun z => q (V.int.inj z)]
  rw [e]
  exact h
theorem r_neI {i j : Int} (h : Q (.bl (!decide (i = j))) H) : rNe (.int i) (.int j) H Q := by
  refine ⟨rfl, ?_⟩
  have e : decide (V.int i = V.int j) = decide (i = j) := by
    by_cases q : i = j
    · subst q; simp
    · rw [decide_eq_false q, decide_eq_false fun z => q (V.int.inj z)]
  rw [e]
  exact h
theorem r_eqS {i j : Str} (h : Q (.bl (decide (i = j))) H) : rEq (.str i) (.str j) H Q := by
  refine ⟨rfl, ?_⟩
  have e : decide (V.str i = V.str j) = decide (i = j) := by
    by_cases q : i = j
    · subst q; simp
    · rw [decide_eq_false q, decide_eq_false fun z => q (V.str.inj z)]
  rw [e]
  exact h
theorem r_eqB {i j : Bool} (h : Q (.bl (decide (i = j))) H) : rEq (.bl i) (.bl j) H Q := by
  refine ⟨rfl, ?_⟩
  have e : decide (V.bl i = V.bl j) = decide (i = j) := by
    by_cases q : i = j
    · subst q; simp
    · rw [decide_eq_false q, decide_eq_false fun z => q (V.bl.inj z)]
  rw [e]
  exact h
theorem r_tst {R : Bool → Hp → Prop} (h : te σ H fun x H' => ∃ k, x = .bl k ∧ R k H') : tTest te σ H R := h
theorem r_tB {R : Bool → Hp → Prop} (h : te σ H fun x H' => ∃ k, x = .bl k ∧ R k H') : tB te σ H R := h
theorem r_bl {b : Bool} {R : Bool → Prop} (h : R b) : ∃ k, V.bl b = .bl k ∧ R k := ⟨b, rfl, h⟩
theorem r_not {R : Bool → Hp → Prop} (h : tt σ H fun c H1 => R (!c) H1) : tNot tt σ H R := h
theorem r_and {R : Bool → Hp → Prop} (h : tt σ H fun c H1 => if c = true then tu σ H1 R else R false H1) : tAnd tt tu σ H R := h
theorem r_or {R : Bool → Hp → Prop} (h : tt σ H fun c H1 => if c = true then R true H1 else tu σ H1 R) : tOr tt tu σ H R := h
theorem r_andV (h : ta σ H fun x H1 => ∃ c, x = .bl c ∧ if c = true then tb σ H1 Q else Q (.bl false) H1) : tAndV ta tb σ H Q := h
theorem r_orV (h : ta σ H fun x H1 => ∃ c, x = .bl c ∧ if c = true then Q (.bl true) H1 else tb σ H1 Q) : tOrV ta tb σ H Q := h
theorem r_notV (h : ta σ H fun x H1 => ∃ c, x = .bl c ∧ Q (.bl (!c)) H1) : tNotV ta σ H Q := h
theorem r_ifs (h : tt σ H fun b H1 => if b = true then t D σ H1 else u D σ H1) : tIfS tt t u D σ H := h
theorem r_ifE (h : tt σ H fun c H1 => if c = true then ta σ H1 Q else tb σ H1 Q) : tIf tt ta tb σ H Q := h
theorem r_ret (h : te σ H D.rt) : tRet te D σ H := h
theorem r_retN (h : D.rt .non H) : tRetN D σ H := h
theorem r_next (h : D.nx σ H) : tNext D σ H := h
theorem r_brk (h : D.bk σ H) : tBreak D σ H := h
theorem r_cont (h : D.ct σ H) : tCont D σ H := h
theorem r_drop (h : te σ H fun _ H1 => D.nx σ H1) : tDrop te D σ H := h
theorem r_nil {R : List V → Hp → Prop} (h : R [] H) : tNil σ H R := h
theorem r_cons {tr : TA} {R : List V → Hp → Prop} (h : ta σ H fun x H1 => tr σ H1 fun xs H2 => R (x :: xs) H2) : tCons ta tr σ H R := h
theorem r_tup {tA : TA} (h : tA σ H fun xs H1 => xs.length ≤ sizeLine ∧ ∀ p, H1 p = none → Q (.ref p) (upd H1 p (.tup xs))) : tTup tA σ H Q := h
theorem r_lst {tA : TA} (h : tA σ H fun xs H1 => xs.length ≤ sizeLine ∧ ∀ p, H1 p = none → Q (.ref p) (upd H1 p (.lst xs))) : tLst tA σ H Q := h
theorem r_cb {r : List V → Hp → VK → Prop} {tA : TA} (h : tA σ H fun vs H1 => r vs H1 Q) : tCB r tA σ H Q := h
theorem r_call {sp : Sp} {E : XK} {tA : TA} (h : tA σ H fun vs H1 => sp (vs ++ []) H1 Q E) : tCall sp [] E tA σ H Q := h
theorem r_ixT {p : Addr} {xs : List V} {i : Int} {v : V} (s : SqT K H p xs) (a : atI xs i = some v) (h : Q v H) : rIxT K (.ref p) (.int i) H Q := ⟨p, xs, i, v, rfl, rfl, s, a, h⟩
theorem r_ixL {p : Addr} {xs : List V} {i : Int} {v : V} (s : SqL K H p xs) (a : atI xs i = some v) (h : Q v H) : rIxL K (.ref p) (.int i) H Q := ⟨p, xs, i, v, rfl, rfl, s, a, h⟩
theorem r_gsub {to ti : TE} {ts : TSet} {v : V} {R : L2.St → Hp → Prop} (h : to σ H fun o H1 => ti σ H1 fun i H2 => ts o i v H2 fun H3 => R σ H3) : gSub to ti ts v σ H R := h
theorem r_setL {p : Addr} {xs : List V} {k : Int} {j : Nat} {v : V} {R : Hp → Prop} (h : H p = some (.lst xs)) (e : ixN xs.length k = some j) (q : R (upd H p (.lst (xs.set j v)))) : rSetL (.ref p) (.int k) v H R := ⟨p, xs, k, j, rfl, rfl, h, e, q⟩
theorem r_ixQT {p : Addr} {xs : List V} {i : Int} {v : V} (s : SqT K H p xs) (a : atI xs i = some v) (h : Q v H) : rIx K (.ref p) (.int i) H Q := .inr (.inl ⟨p, xs, i, v, rfl, rfl, s, a, h⟩)
theorem r_ixQL {p : Addr} {xs : List V} {i : Int} {v : V} (s : SqL K H p xs) (a : atI xs i = some v) (h : Q v H) : rIx K (.ref p) (.int i) H Q := .inl ⟨p, xs, i, v, rfl, rfl, s, a, h⟩
theorem r_gtup2 {p : Addr} {x y : V} {i j : Nat} {R : L2.St → Hp → Prop} (s : SqT K H p [x, y]) (h : R ((σ.set i (some x)).set j (some y)) H) : gTup K 2 (gCons (gName i) (gCons (gName j) gNil)) (.ref p) σ H R := ⟨p, _, rfl, s, rfl, x, [y], rfl, y, [], rfl, rfl, h⟩
theorem r_app {p : Addr} {xs : List V} {y : V} (h : H p = some (.lst xs)) (l : xs.length < 100000) (q : Q .non (upd H p (.lst (xs ++ [y])))) : rAppend (.ref p) [y] H Q := ⟨p, xs, y, rfl, rfl, h, Nat.lt_of_lt_of_le l (by decide), q⟩
theorem r_bm {T : String} {r : V → List V → Hp → VK → Prop} {tA : TA} (h : ta σ H fun x H1 => tyV K T x H1 ∧ tA σ H1 fun xs H2 => r x xs H2 Q) : tBM K T r ta tA σ H Q := h
theorem r_bm0 {T : String} {r : V → List V → Hp → VK → Prop} (h : ta σ H fun x H1 => tyV K T x H1 ∧ r x [] H1 Q) : tBM0 K T r ta σ H Q := h
theorem r_tyL {p : Addr} {xs : List V} {P : Prop} (h : SqL K H p xs) (k : P) : tyV K "list" (.ref p) H ∧ P := ⟨.inl ⟨rfl, _, h⟩, k⟩
theorem r_tyD {p : Addr} {kvs : List (Key × V)} {P : Prop} (h : H p = some (.dK kvs)) (k : P) : tyV K "dict" (.ref p) H ∧ P := ⟨.inr (.inr (.inl ⟨rfl, .inl ⟨_, h⟩⟩)), k⟩
theorem r_dput {td ty : TE} (h : te σ H fun v H1 => td σ H1 fun x H2 => ty σ H2 fun y H3 => ∃ a H4, x = .ref a ∧ DPut H3 a y v H4 ∧ D.nx σ H4) : sDPut td ty te D σ H := h
theorem r_dnew (h : ∀ p, H p = none → Q (.ref p) (upd H p (.dK []))) : tDNewK σ H Q := h
theorem r_lenS {p : Addr} {xs : List V} (s : SqL K H p xs ∨ SqT K H p xs) (h : Q (.int xs.length) H) : ∃ q ys, [V.ref p] = [.ref q] ∧ (SqL K H q ys ∨ SqT K H q ys) ∧ Q (.int ys.length) H := ⟨p, xs, rfl, s, h⟩
theorem r_tupL {p : Addr} {xs : List V} (s : SqL K H p xs) (h : ∀ q, H q = none → Q (.ref q) (upd H q (.tup xs))) : ∃ q ys, [V.ref p] = [.ref q] ∧ ((SqL K H q ys ∧ ∀ l, H l = none → Q (.ref l) (upd H l (.tup ys))) ∨ (SqT K H q ys ∧ Q (.ref q) H)) := ⟨p, xs, rfl, .inl ⟨s, h⟩⟩
theorem r_yes {R : Bool → Hp → Prop} (h : R true H) : tYes σ H R := h
theorem r_chain {r r' : R2} {tc : TE} (h : ta σ H fun x H1 => tb σ H1 fun y H2 => r x y H2 fun z H3 => ∃ k, z = .bl k ∧ if k = true then tc σ H3 fun v H4 => r' y v H4 Q else Q (.bl false) H3) : tChain r r' ta tb tc σ H Q := h
theorem r_for {wi : TI} {g : TG} {b : TS} (h : wi σ H fun J H1 => ∃ W : Nat → Nat → L2.St → Hp → Prop, (∃ m, W 0 m σ H1) ∧ ∀ i m σ H, W i m σ H →
    (J.stop i H ∧ D.nx σ H) ∨ (J.go i H ∧ ∃ N : L2.St → Hp → Prop, (∀ σ' H', N σ' H' → ∃ m', m' < m ∧ W (i + 1) m' σ' H') ∧ ∀ x H', J.yld i H x H' → g x σ H' fun σ2 H2 => b { D with nx := N, ct := N, bk := D.nx } σ2 H2)) : tFor wi g b D σ H := h
theorem r_iList {R : It → Hp → Prop} (h : te σ H fun x H1 => ∃ a, x = .ref a ∧ (∃ xs, SqL K H1 a xs) ∧ R (Itl K a) H1) : iList K te σ H R := h
theorem r_iTup {R : It → Hp → Prop} (h : te σ H fun x H1 => ∃ a, x = .ref a ∧ (∃ xs, SqT K H1 a xs) ∧ R (Itt K a) H1) : iTup K te σ H R := h
theorem r_it {a : Addr} {P : Prop} {R : Addr → Prop} (p : P) (h : R a) : P ∧ R a := ⟨p, h⟩
theorem r_rng1 {tA : TA} {R : It → Hp → Prop} (h : tA σ H fun vs H1 => ∃ j : Int, vs = [.int j] ∧ -(2 ^ 62) ≤ j ∧ j < 2 ^ 62 ∧ R (Itr 0 j.toNat) H1) : iRng1 tA σ H R := h
theorem r_rng2 {tA : TA} {R : It → Hp → Prop} (h : tA σ H fun vs H1 => ∃ i j : Int, vs = [.int i, .int j] ∧ (-(2 ^ 62) ≤ i ∧ i < 2 ^ 62 ∧ -(2 ^ 62) ≤ j ∧ j < 2 ^ 62) ∧ R (Itr i (j - i).toNat) H1) : iRng2 tA σ H R := h
theorem r_int1 {i : Int} (h : Q (.int i) H) : (∃ j, [V.int i] = [.int j] ∧ Q (.int j) H) ∨ ∃ k, [V.int i] = [.bl k] ∧ Q (.int (if k then 1 else 0)) H := .inl ⟨i, rfl, h⟩
theorem r_if {c : Prop} [Decidable c] {A B : Prop} (h1 : c → A) (h2 : ¬ c → B) : if decide c = true then A else B := by
  by_cases h : c
  · rw [decide_eq_true h, if_pos rfl]
    exact h1 h
  · rw [decide_eq_false h, if_neg Bool.false_ne_true]
    exact h2 h
theorem r_ifN {c : Prop} [Decidable c] {A B : Prop} (h1 : ¬ c → A) (h2 : c → B) : if (!decide c) = true then A else B := by
  by_cases h : c
  · rw [decide_eq_true h]
    exact h2 h
  · rw [decide_eq_false h]
    exact h1 h
theorem r_ifT {A B : Prop} (h : A) : if true = true then A else B := h
theorem r_ifF {A B : Prop} (h : B) : if false = true then A else B := h
theorem r_ifNT {A B : Prop} (h : B) : if (!true) = true then A else B := h
theorem r_ifNF {A B : Prop} (h : A) : if (!false) = true then A else B := h
end

section
variable {σ : L2.St} {H : Hp} {D : Ends} {t u : TS}
theorem r_cut (Mid : L2.St → Hp → Prop) (h1 : t { D with nx := Mid } σ H) (h2 : ∀ σ' H', Mid σ' H' → u D σ' H') : C8.tCut t u D σ H := ⟨Mid, h1, h2⟩
end
/-! ### division by any int that is not nought -/
def CDivX (_ j : Int) : Prop := j ≠ 0 ∧ j.natAbs.log2 < 9000
theorem op_fdivX {X : Cx} : OpR X (binaryOp .FloorDiv) (rI CDivX fun i j => .int (i.fdiv j)) := opI fun _ _ _ _ _ _ _ hc q => PyProof.Rows.floordiv_int hc.1 q (.inl (PyProof.noPylong_of_log2 hc.2))

/-! ### heaps -/
section
variable {K : PySem.W.Frag} {H H' H1 : Hp} {a b p q : Addr} {xs ys : List V} {o : HO}
theorem sm_t (e : Same H H') (h : SqT K H a xs) : SqT K H' a xs := by
  rcases h with (h | ⟨o, h⟩) | h
  · exact .inl (.inl (e _ _ h))
  · exact .inl (.inr ⟨o, e _ _ h⟩)
  · exact .inr h
theorem sm_l (e : Same H H') (h : SqL K H a xs) : SqL K H' a xs := e.seq h
theorem sm_new (h : H p = none) : Same H (upd H p o) := fun b u e => by
  rw [upd_ne (ne_of_none e h)]
  exact e
def mn (H : Hp) (p : Addr) : Hp := fun b => if b = p then none else H b
theorem mn_same : mn H p p = none := if_pos rfl
theorem mn_ne (h : b ≠ p) : mn H p b = H b := if_neg h
theorem mn_le : Same (mn H p) H := fun b o e => by
  by_cases h : b = p
  · rw [h, mn_same] at e
    cases e
  · rw [mn_ne h] at e
    exact e
theorem mn_mono (e : Same H H') : Same (mn H p) (mn H' p) := fun b o h => by
  by_cases q : b = p
  · rw [q, mn_same] at h
    cases h
  · rw [mn_ne q] at h ⊢
    exact e _ _ h
theorem mn_upd : mn (upd H p o) p = mn H p := by
  funext b
  by_cases h : b = p
  · rw [h, mn_same, mn_same]
  · rw [mn_ne h, mn_ne h, upd_ne h]
/-- a tuple stands apart from a list -/
theorem mn_t (h : H p = some (.lst ys)) (s : SqT K H a xs) : SqT K (mn H p) a xs := by
  rcases s with (s | ⟨o, s⟩) | s
  · exact .inl (.inl (by rw [mn_ne (ne_of s h (fun z => by cases z))]; exact s))
  · exact .inl (.inr ⟨o, by rw [mn_ne (ne_of s h (fun z => by cases z))]; exact s⟩)
  · exact .inr s
/-- a list other than p -/
theorem mn_l (n : a ≠ p) (s : SqL K H a xs) : SqL K (mn H p) a xs := by
  rcases s with (s | ⟨o, s⟩) | s
  · exact .inl (.inl (by rw [mn_ne n]; exact s))
  · exact .inl (.inr ⟨o, by rw [mn_ne n]; exact s⟩)
  · exact .inr s
theorem mn_free (h : H a = none) : mn H p a = none := by
  by_cases q : a = p
  · rw [q, mn_same]
  · rw [mn_ne q]
    exact h
end

/-! ### rules whose reading names K outright (within a comprehension) -/
section
variable {X : Cx}
theorem ixT (K : PySem.W.Frag) (h : X.K = K := by rfl) : IxR X (rIxT K) := by
  subst h
  exact ix_tup
theorem ixL (K : PySem.W.Frag) (h : X.K = K := by rfl) : IxR X (rIxL K) := by
  subst h
  exact ix_list
theorem ixQ (K : PySem.W.Frag) (h : X.K = K := by rfl) : IxR X (rIx K) := by
  subst h
  exact ix_seq
end
/-! ### what is kept but for the list at p; tuples -/
def Fm (p : Addr) (H H' : Hp) : Prop := ∀ b o, b ≠ p → H b = some o → H' b = some o
section
variable {K : PySem.W.Frag} {H H' H1 : Hp} {a b p q : Addr} {xs ys : List V} {o : HO}
theorem Fm.refl : Fm p H H := fun _ _ _ h => h
theorem Fm.trans (e : Fm p H H1) (f : Fm p H1 H') : Fm p H H' := fun b o n h => f b o n (e b o n h)
theorem Same_fm (e : Same H H') : Fm p H H' := fun b o _ h => e b o h
theorem fm_of (e : Same (mn H p) (mn H' p)) : Fm p H H' := fun b o n h => by
  have := e b o (by rw [mn_ne n]; exact h)
  rw [mn_ne n] at this
  exact this
theorem Fm.mn (e : Fm p H H') : Same (mn H p) (mn H' p) := fun b o h => by
  by_cases q : b = p
  · rw [q, mn_same] at h
    cases h
  · rw [mn_ne q] at h ⊢
    exact e _ _ q h
theorem fm_new (h : H a = none) : Fm p H (upd H a o) := Same_fm (sm_new h)
theorem fm_upd : Fm p H (upd H p o) := fun b u n h => by
  rw [upd_ne n]
  exact h
/-- what stood free and is changed -/
theorem Fm.mut (e : Fm p H H') (h : H a = none) : Fm p H (upd H' a o) := fun b u n q => by
  rw [upd_ne (ne_of_none q h)]
  exact e b u n q
theorem Fm.free (e : Fm p H H') (n : a ≠ p) (h : H' a = none) : H a = none := by
  cases q : H a with
  | none => rfl
  | some u =>
    rw [e a u n q] at h
    cases h
/-- tuples are kept -/
def Tk (H H' : Hp) : Prop := ∀ b xs, (H b = some (.tup xs) → H' b = some (.tup xs)) ∧ ∀ o, H b = some (.frz o (.tup xs)) → H' b = some (.frz o (.tup xs))
theorem Tk.refl : Tk H H := fun _ _ => ⟨id, fun _ => id⟩
theorem Tk.trans (e : Tk H H1) (f : Tk H1 H') : Tk H H' := fun b xs => ⟨fun h => (f b xs).1 ((e b xs).1 h), fun o h => (f b xs).2 o ((e b xs).2 o h)⟩
theorem Same_tk (e : Same H H') : Tk H H' := fun b xs => ⟨e b _, fun _ => e b _⟩
theorem Fm.tk (e : Fm p H H') (h : H p = some (.lst ys)) : Tk H H' := fun b xs =>
  ⟨fun q => e b _ (ne_of q h (fun z => by cases z)) q, fun o q => e b _ (ne_of q h (fun z => by cases z)) q⟩
theorem tk_lst (h : H p = some (.lst ys)) : Tk H (upd H p o) := fun b xs =>
  ⟨fun q => by rw [upd_ne (ne_of q h (fun z => by cases z))]; exact q, fun o q => by rw [upd_ne (ne_of q h (fun z => by cases z))]; exact q⟩
theorem tk_dK {kvs : List (Key × V)} (h : H p = some (.dK kvs)) : Tk H (upd H p o) := fun b xs =>
  ⟨fun q => by rw [upd_ne (ne_of q h (fun z => by cases z))]; exact q, fun o q => by rw [upd_ne (ne_of q h (fun z => by cases z))]; exact q⟩
theorem tk_new (h : H p = none) : Tk H (upd H p o) := Same_tk (sm_new h)
theorem tk_t (e : Tk H H') (h : SqT K H a xs) : SqT K H' a xs := by
  rcases h with (h | ⟨o, h⟩) | h
  · exact .inl (.inl ((e _ _).1 h))
  · exact .inl (.inr ⟨o, (e _ _).2 o h⟩)
  · exact .inr h
end

/-! ### data -/
section
variable {K : PySem.W.Frag} {H H' : Hp}
mutual
theorem dp_mono (e : Same H H') : ∀ {v : V} {d : PyData}, Dp K H v d → Dp K H' v d
  | _, _, .non => .non
  | _, _, .bl b => .bl b
  | _, _, .int i => .int i
  | _, _, .str x => .str x
  | _, _, .lst s a => .lst (sm_l e s) (dpa_mono e a)
  | _, _, .tup s a => .tup (sm_t e s) (dpa_mono e a)
theorem dpa_mono (e : Same H H') : ∀ {vs : List V} {ds : List PyData}, DpAll K H vs ds → DpAll K H' vs ds
  | _, _, .nil => .nil
  | _, _, .cons h t => .cons (dp_mono e h) (dpa_mono e t)
end
theorem dpa_len : ∀ {vs : List V} {ds : List PyData}, DpAll K H vs ds → vs.length = ds.length
  | _, _, .nil => rfl
  | _, _, .cons _ t => congrArg (· + 1) (dpa_len t)
theorem dpa_get : ∀ {vs : List V} {ds : List PyData} {i : Nat} {d : PyData}, DpAll K H vs ds → ds[i]? = some d → ∃ v, vs[i]? = some v ∧ Dp K H v d
  | _, _, _, _, .nil, e => by simp at e
  | _, _, 0, _, .cons h _, e => by
    simp at e
    subst e
    exact ⟨_, rfl, h⟩
  | _, _, i + 1, d, .cons _ t, e => by
    obtain ⟨v, h1, h2⟩ := dpa_get (i := i) (d := d) t (by simpa using e)
    exact ⟨v, by simpa using h1, h2⟩
/-- data without lists -/
inductive Tu : PyData → Prop
  | non : Tu .none
  | bl (b : Bool) : Tu (.bool b)
  | int (i : Int) : Tu (.int i)
  | str (x : Str) : Tu (.str x)
  | tup {ds : List PyData} (h : ∀ d, d ∈ ds → Tu d) : Tu (.tuple ds)
mutual
theorem dp_tk (e : Tk H H') : ∀ {v : V} {d : PyData}, Tu d → Dp K H v d → Dp K H' v d
  | _, _, _, .non => .non
  | _, _, _, .bl b => .bl b
  | _, _, _, .int i => .int i
  | _, _, _, .str x => .str x
  | _, _, t, .lst s a => nomatch t
  | _, _, t, .tup s a => .tup (tk_t e s) (dpa_tk e (fun d hd => by cases t with | tup h => exact h d hd) a)
theorem dpa_tk (e : Tk H H') : ∀ {vs : List V} {ds : List PyData}, (∀ d, d ∈ ds → Tu d) → DpAll K H vs ds → DpAll K H' vs ds
  | _, _, _, .nil => .nil
  | _, _, t, .cons h r => .cons (dp_tk e (t _ (List.mem_cons_self ..)) h) (dpa_tk e (fun d hd => t d (List.mem_cons_of_mem _ hd)) r)
end
theorem dpa_app : ∀ {vs ws : List V} {ds es : List PyData}, DpAll K H vs ds → DpAll K H ws es → DpAll K H (vs ++ ws) (ds ++ es)
  | _, _, _, _, .nil, h => h
  | _, _, _, _, .cons a t, h => .cons a (dpa_app t h)
/-- the types of what is read -/
theorem tyx_t {a : Addr} {xs : List V} (s : SqT K H a xs) : TyX K H (.ref a) (.type "tuple") := by
  rcases s with (s | ⟨o, s⟩) | ⟨o, its, n, e, c, _⟩
  · exact .base (.tup s)
  · exact .fTuple s
  · exact .kTuple e c
theorem tyx_l {a : Addr} {xs : List V} (s : SqL K H a xs) : TyX K H (.ref a) (.type "list") := by
  rcases s with (s | ⟨o, s⟩) | ⟨o, its, n, e, c, _⟩
  · exact .base (.lst s)
  · exact .base (.frz s)
  · exact .kList e c
theorem r_isi {Q : VK} {x : V} {a c : String} (b : Bool) (ty : TyX K H x (.type a)) (e : kitB a c = some b) (h : Q (.bl b) H) : rIsi K [x, .ty c] H Q := ⟨x, .ty c, .type a, .type c, b, rfl, .ty c, ty, kit_ty e, h⟩
/-- data at most n deep -/
inductive Dn : Nat → PyData → Prop
  | non (n : Nat) : Dn n .none
  | bl (n : Nat) (b : Bool) : Dn n (.bool b)
  | int (n : Nat) (i : Int) : Dn n (.int i)
  | str (n : Nat) (x : Str) : Dn n (.str x)
  | tup {n : Nat} {ds : List PyData} (l : ds.length ≤ 100000) (h : ∀ d, d ∈ ds → Dn n d) : Dn (n + 1) (.tuple ds)
  | lst {n : Nat} {ds : List PyData} (l : ds.length ≤ 100000) (h : ∀ d, d ∈ ds → Dn n d) : Dn (n + 1) (.list ds)
theorem Dn.up : ∀ {n : Nat} {d : PyData}, Dn n d → Dn (n + 1) d
  | _, _, .non _ => .non _
  | _, _, .bl _ b => .bl _ b
  | _, _, .int _ i => .int _ i
  | _, _, .str _ x => .str _ x
  | _, _, .tup l h => .tup l fun d hd => (h d hd).up
  | _, _, .lst l h => .lst l fun d hd => (h d hd).up
end
end Bo

/-! ### errors as values: made, asked for their class, read -/
namespace Bo
open PySem PySem.Spec PyProof.Rows L2
/-- at a: an error of the class at C -/
def HasE (H : Hp) (a C : Addr) : Prop := (∃ d fs, H a = some (exo a C (some d)) ∧ H d = some (exd d fs)) ∨ H a = some (ExO (.ref C) a)
section
variable {X : Cx} {pins : List (Addr × Obj)} {σ : L2.St} {H H' : Hp} {s : Shared} {a D C : Addr} {e o : Expr} {es : List Expr} {te : TE} {ta : TA} {p pos : Pos} {n x : Str}
theorem HasE.same (k : Same H H') (h : HasE H a C) : HasE H' a C := by
  rcases h with ⟨d, fs, h1, h2⟩ | h
  · exact .inl ⟨d, fs, k _ _ h1, k _ _ h2⟩
  · exact .inr (k _ _ h)
theorem hasE_at (I : Inv X pins σ H s) (h : HasE H a D) : ∃ ox od, PySem.W.InstAt s.heap a ox D od := by
  rcases h with ⟨d, fs, h1, h2⟩ | h
  · obtain ⟨t1, g⟩ := exo_at I.hok h1
    obtain ⟨mA, hns, _⟩ := exd_at I.hok h2
    obtain ⟨od, ho, _⟩ := lookIn_ns hns
    exact ⟨_, some od, g, rfl, rfl, ho⟩
  · obtain ⟨⟨oe, vs, ho, hz, hd, _⟩, _, _⟩ := I.hok a _ h
    obtain ⟨c0, c1, c2, c3⟩ := oe
    obtain ⟨y1, y2⟩ := hz
    dsimp only at y1 y2 hd
    subst y1 y2 hd
    exact ⟨_, none, ho, rfl, rfl, trivial⟩
/-- isinstance(e, c) -/
def rIsV (K : PySem.W.Frag) : List V → Hp → VK → Prop := fun xs H Q => ∃ (a D : Addr) (c : V) (cv : Value) (b : Bool), xs = [.ref a, c] ∧ HasE H a D ∧ ExcC K D ∧ (∀ u, RelV c u → u = cv) ∧ PySem.W.kitOne K (.ref D) cv = some b ∧ Q (.bl b) H
theorem call_isV : CallR X (.builtin "isinstance") (rIsV X.K) := by
  intro pins s σ H xs us Q I r told
  obtain ⟨a, D, c, cv, b, rfl, he, C, hcv, e, q⟩ := told
  cases r with
  | cons rx rr =>
    cases rr with
    | cons rt rr =>
      cases rr
      cases rx
      have ec := hcv _ rt
      subst ec
      obtain ⟨ox, od, J⟩ := hasE_at I he
      obtain ⟨cdD, hcD, _⟩ := PySem.W.any_some C.hd
      exact PySem.W.kia_one (PySem.W.kitx_exc (by rw [hcD]; rfl) C.hg C.hk C.hs C.ha C.hn C.ht C.hm) I.kIn J e (fun z => nomatch z) fun tk => ⟨.bl b, H, I.kept (t' := tk) fun _ _ z => z, rfl, q⟩
/-- e.f -/
def tXv (K : PySem.W.Frag) (f : Str) (te : TE) : TE := fun σ H Q => te σ H fun x H1 => ∃ (a C d : Addr) (fs : List (Str × V)) (v : V), x = .ref a ∧ XfC K C ∧ PySem.W.findIn K (.ref C) f = some none ∧ H1 a = some (exo a C (some d)) ∧ H1 d = some (exd d fs) ∧ fs.lookup f = some v ∧ Q v H1
theorem pe_xv (he : PE X e te) (hb : attributeBase e n X.env (eval e X.env) = eval e X.env := by rfl) : PE X (.Attribute e n pos) (tXv X.K n te) := by
  refine ⟨fun pins s σ H Q I h => attr_of hb (thn (he.run pins s σ H _ I h) fun u s1 told => ?_)⟩
  obtain ⟨_, H1, I1, rx, a, C, d, fs, v, rfl, T, free, ea, ed, at_, q⟩ := told
  cases rx
  obtain ⟨_, g⟩ := exo_at I1.hok ea
  obtain ⟨mA, ns, rel⟩ := exd_at I1.hok ed
  obtain ⟨od, there, look⟩ := lookIn_ns ns
  have r0 : RelO (some v) (mA n) := by
    rw [← at_]
    exact rel n
  obtain ⟨w0, e0, r1⟩ := RelO.some_of r0
  have found : PySem.W.findObj X.K C (some od) n = some (.value w0) := PySem.W.findObj_own T.hdC free rfl (by rw [look, e0])
  exact HandSPX.exc_get I1.kIn (show PySem.W.InstAt s1.heap a _ C (some od) from ⟨g, rfl, rfl, there⟩) T.ga T.gg T.exC found (handed_of r1) ⟨v, H1, I1.tok _, r1, q⟩
/-- an error of the class at C as a value, its own maker keeping sp -/
def tMkV (C : Addr) (sp : Sp) (dvs : List V) (ta : TA) : TE := fun σ H Q => ta σ H fun vs H1 => vs.length ≤ 1000 ∧ ∀ a, H1 a = none → sp (.ref a :: (vs ++ dvs)) (upd H1 a (exo a C none)) (fun v H2 => v = .non ∧ Q (.ref a) H2) (fun _ _ _ => False)
theorem pe_mkV {CX : CXT} {fI : Addr} {m : Nat} {fd : FuncData} {ps : List Str} {sp : Sp} {ds : List Value} {dvs : List V} (T : OexC X.K C)
    (own : PySem.W.findIn X.K (.ref C) "__init__" = some (some (.ref fI))) (fn : PySem.W.typeIn X.K (.ref fI) = some (.type "function"))
    (G : FnOk X.prog X.w X.K X.mg X.base CX m fI fd ps sp) (room : Room (m + 1) X.A) (bi : Binds X.K fd ps ds) (dv : Vals dvs ds) (ps0 : Passes CX X (fun _ _ _ => False))
    (gl : Gl X x) (at_ : X.mg x = some (.ref C)) (args : PA X (e :: es) ta) (nd : (x == ("__debug__" : Str)) = false := by decide)
    (s1 : starEach (e :: es) X.env = (false, eval e X.env) :: starEach es X.env := by rfl) (s2 : (backTo pos (starEach es X.env)).any (·.1) = false := by rfl) :
    PE X (.Call (.Name x p) (e :: es) [] pos) (tMkV C sp dvs ta) := by
  refine ⟨fun pins s σ H Q I h => wpAny_Call_Name_kw (ld_glob I gl at_ ?_ nd)⟩
  obtain ⟨_, _, _, _, bm, _, _, _, _, _, _, _, _, _, _, hC, ve⟩ := T.cls
  refine PySem.W.callWith_K (h₀ := X.base) I.ok.mod.kin T.kC (thn (args.run pos pins s σ H _ I h) fun us q ⟨vs, H1, I1, rv, _, q1⟩ => ⟨I1.kIn, ?_⟩) s1 s2
  show wpAny _ _ (call (Value.ref C) us) _ _ _
  obtain ⟨g0, gs, dr, tk, os⟩ := q
  -- the new error's place, behind that of its arguments
  generalize ea : g0.objs.size + 1 = a
  generalize eg : (g0.push (PySem.W.kdv_tup us)).push (PySem.HandSPX.excO C g0.objs.size) = g1
  have keep : ∀ b u, g0.get? b = some u → g1.get? b = some u := by
    subst eg
    exact fun b u z => Heap.get?_push_of_some _ (Heap.get?_push_of_some _ z)
  have there : g1.get? a = some (PySem.HandSPX.excO C g0.objs.size) := by
    subst ea eg
    heap_get
  have big : g0.objs.size ≤ a := by omega
  have promise := q1 a (I1.hok.fresh big)
  have J : Inv X pins σ (upd H1 a (exo a C none)) ⟨g1, gs, dr, tk, os⟩ := I1.laid (t' := tk) keep big (exo_ok there)
  have vals : Vals (V.ref a :: (vs ++ dvs)) (Value.ref a :: (us ++ ds)) := .cons rfl (rv.append dv)
  have len : (Value.ref a :: us ++ ds).length = ps.length := ((G.len _ _ _ _ promise).symm.trans vals.length).symm
  have small : us.length ≤ sizeLine := by
    have e1 := Paired.length rv
    rw [sizeLine_eq]
    omega
  have run := G.run _ X.stack _ _ ⟨Value.ref a :: us, []⟩ (Value.ref a :: (us ++ ds)) _ _ (fun _ _ _ => False) (room.make C us []) (J.env0.make C us []) (bi _ (Value.ref a :: us) J.kIn len) vals promise
  subst ea eg
  refine wpAny_call (PySem.HandSPX.call_own F.excBase_ValueError (fun Y => PySem.HandSPX.refsVE_contains Y bm ve) (I1.kIn _ _ hC) (PySem.W.looks_findIn I1.kIn own) (fun self => PySem.W.bind_fn I1.kIn self fn) small (codeAny_mono run fun r s' z => ?_))
  rcases r with er | fl
  · exact ps0 pins σ _ _ er s' J z
  · cases fl with
    | ret u =>
      obtain ⟨v, H2, o2, bare2, un2, ok2, ru, ev, q2⟩ := z
      subst ev
      exact ⟨ru, .ref _, H2, J.call' (ch := []) o2 un2 ok2 bare2 (fun b y => absurd y (by simp)), rfl, q2⟩
    | _ => exact False.elim z
end
end Bo

set_option maxHeartbeats 1000000
namespace Bo
open PySem L2
def topS (i : Nat) : Stmt := PySem.Challenge.pw_bestodds_k37_errors.main.body.getD i (.Pass ⟨0, 0, 0, 0⟩)
abbrev s_l_draws : Stmt := topS 16
abbrev s_l_box : Stmt := topS 17
abbrev s_l_next : Stmt := topS 18
abbrev s_l_kinds : Stmt := topS 19
abbrev s_law : Stmt := topS 20
def clsDef (s : Stmt) : Stmt := match s with
  | .ClassDef _ _ _ b _ _ _ _ _ _ _ => b.getD 0 (.Pass ⟨0, 0, 0, 0⟩)
  | _ => .Pass ⟨0, 0, 0, 0⟩
abbrev s_InvalidLine : Stmt := clsDef (topS 3)
theorem sc_InvalidLine : FnScope ["self", "number"] ["self", "number"] (defScope s_InvalidLine) := ⟨rfl, rfl, rfl, by decide +kernel, rfl, by decide +kernel, by decide +kernel⟩
abbrev s_InvalidSystem : Stmt := clsDef (topS 4)
theorem sc_InvalidSystem : FnScope ["self", "fault"] ["self", "fault"] (defScope s_InvalidSystem) := ⟨rfl, rfl, rfl, by decide +kernel, rfl, by decide +kernel, by decide +kernel⟩
abbrev s_InvalidWord : Stmt := clsDef (topS 5)
theorem sc_InvalidWord : FnScope ["self", "number"] ["self", "number"] (defScope s_InvalidWord) := ⟨rfl, rfl, rfl, by decide +kernel, rfl, by decide +kernel, by decide +kernel⟩
abbrev s_NoSuchState : Stmt := clsDef (topS 9)
theorem sc_NoSuchState : FnScope ["self", "state"] ["self", "state"] (defScope s_NoSuchState) := ⟨rfl, rfl, rfl, by decide +kernel, rfl, by decide +kernel, by decide +kernel⟩
abbrev s_NoSuchChoice : Stmt := clsDef (topS 10)
theorem sc_NoSuchChoice : FnScope ["self", "number"] ["self", "number"] (defScope s_NoSuchChoice) := ⟨rfl, rfl, rfl, by decide +kernel, rfl, by decide +kernel, by decide +kernel⟩
abbrev s_InvalidName : Stmt := clsDef (topS 12)
theorem sc_InvalidName : FnScope ["self", "name"] ["self", "name"] (defScope s_InvalidName) := ⟨rfl, rfl, rfl, by decide +kernel, rfl, by decide +kernel, by decide +kernel⟩
abbrev s_UnknownName : Stmt := clsDef (topS 14)
theorem sc_UnknownName : FnScope ["self", "name"] ["self", "name"] (defScope s_UnknownName) := ⟨rfl, rfl, rfl, by decide +kernel, rfl, by decide +kernel, by decide +kernel⟩
/-! ### the classes -/
def kitB (K : PySem.W.Frag) (cs bs : List Addr) (i : Nat) : Bool :=
  let D := cs.getD i 0
  xfB K D && (decide (PySem.W.findIn K (.ref D) "__class__" = some (some (.builtin "object.__class__"))) && (decide (PySem.W.specialIn K (.builtin "object.__class__") "__get__" = some (some (.builtin "getset_descriptor.__get__"))) &&
    (decide (PySem.W.takesIn K (.builtin "object.__class__") = some true) && (decide (PySem.W.mroIn K D (.type "object") = some true) && (((List.range 12).all fun j => decide (PySem.W.kitOne K (.ref D) (.ref (cs.getD j 0)) = some (decide (i = j)))) &&
      (decide (PySem.W.kitOne K (.ref D) (.ref (bs.getD 0 0)) = some true) && (decide (PySem.W.kitOne K (.ref D) (.ref (bs.getD 1 0)) = some (decide (6 ≤ i))) && decide (PySem.W.kitOne K (.ref D) (.type "ValueError") = some true)))))))) 
def allK (K : PySem.W.Frag) (cs bs : List Addr) : Bool := (List.range 12).all fun i => kitB K cs bs i
structure Env (K : PySem.W.Frag) (mg : Str → Option Value) where
  a_l_draws : Addr
  d_l_draws : FuncData
  F_l_draws : Fun K "_law_draws" "_law_draws" s_l_draws a_l_draws d_l_draws
  b_l_draws : Binds K d_l_draws ["cell", "modulus", "count"] []
  g_l_draws : mg "_law_draws" = some (.ref a_l_draws)
  a_l_box : Addr
  d_l_box : FuncData
  F_l_box : Fun K "_law_box" "_law_box" s_l_box a_l_box d_l_box
  b_l_box : Binds K d_l_box ["script"] []
  g_l_box : mg "_law_box" = some (.ref a_l_box)
  a_l_next : Addr
  d_l_next : FuncData
  F_l_next : Fun K "_law_next" "_law_next" s_l_next a_l_next d_l_next
  b_l_next : Binds K d_l_next ["box", "modulus"] []
  g_l_next : mg "_law_next" = some (.ref a_l_next)
  a_l_kinds : Addr
  d_l_kinds : FuncData
  F_l_kinds : Fun K "_law_kinds" "_law_kinds" s_l_kinds a_l_kinds d_l_kinds
  b_l_kinds : Binds K d_l_kinds ["e"] []
  g_l_kinds : mg "_law_kinds" = some (.ref a_l_kinds)
  a_law : Addr
  d_law : FuncData
  F_law : Fun K "law" "law" s_law a_law d_law
  b_law : Binds K d_law ["script"] []
  g_law : mg "law" = some (.ref a_law)
  c_BestoddsError : Addr
  g_BestoddsError : mg "BestoddsError" = some (.ref c_BestoddsError)
  e_BestoddsError : PySem.W.excIn K c_BestoddsError [.type "ValueError", .type "Exception", .type "BaseException", .type "object"] "ValueError.__new__" = true
  k_BestoddsError : PySem.W.keepIn K (.ref c_BestoddsError) = true
  c_InvalidRatio : Addr
  g_InvalidRatio : mg "InvalidRatio" = some (.ref c_InvalidRatio)
  e_InvalidRatio : PySem.W.excIn K c_InvalidRatio [.type "ValueError", .type "Exception", .type "BaseException", .type "object"] "ValueError.__new__" = true
  k_InvalidRatio : PySem.W.keepIn K (.ref c_InvalidRatio) = true
  c_InvalidLine : Addr
  g_InvalidLine : mg "InvalidLine" = some (.ref c_InvalidLine)
  a_InvalidLine : Addr
  d_InvalidLine : FuncData
  o_InvalidLine : OexC K c_InvalidLine
  i_InvalidLine : PySem.W.findIn K (.ref c_InvalidLine) "__init__" = some (some (.ref a_InvalidLine))
  t_InvalidLine : PySem.W.typeIn K (.ref a_InvalidLine) = some (.type "function")
  F_InvalidLine : Fun K "__init__" "InvalidLine.__init__" s_InvalidLine a_InvalidLine d_InvalidLine
  b_InvalidLine : Binds K d_InvalidLine ["self", "number"] []
  n_InvalidLine : PySem.W.findIn K (.ref c_InvalidLine) "number" = some none
  c_InvalidSystem : Addr
  g_InvalidSystem : mg "InvalidSystem" = some (.ref c_InvalidSystem)
  a_InvalidSystem : Addr
  d_InvalidSystem : FuncData
  o_InvalidSystem : OexC K c_InvalidSystem
  i_InvalidSystem : PySem.W.findIn K (.ref c_InvalidSystem) "__init__" = some (some (.ref a_InvalidSystem))
  t_InvalidSystem : PySem.W.typeIn K (.ref a_InvalidSystem) = some (.type "function")
  F_InvalidSystem : Fun K "__init__" "InvalidSystem.__init__" s_InvalidSystem a_InvalidSystem d_InvalidSystem
  b_InvalidSystem : Binds K d_InvalidSystem ["self", "fault"] []
  n_InvalidSystem : PySem.W.findIn K (.ref c_InvalidSystem) "fault" = some none
  c_InvalidWord : Addr
  g_InvalidWord : mg "InvalidWord" = some (.ref c_InvalidWord)
  a_InvalidWord : Addr
  d_InvalidWord : FuncData
  o_InvalidWord : OexC K c_InvalidWord
  i_InvalidWord : PySem.W.findIn K (.ref c_InvalidWord) "__init__" = some (some (.ref a_InvalidWord))
  t_InvalidWord : PySem.W.typeIn K (.ref a_InvalidWord) = some (.type "function")
  F_InvalidWord : Fun K "__init__" "InvalidWord.__init__" s_InvalidWord a_InvalidWord d_InvalidWord
  b_InvalidWord : Binds K d_InvalidWord ["self", "number"] []
  n_InvalidWord : PySem.W.findIn K (.ref c_InvalidWord) "number" = some none
  c_SentenceTooLarge : Addr
  g_SentenceTooLarge : mg "SentenceTooLarge" = some (.ref c_SentenceTooLarge)
  e_SentenceTooLarge : PySem.W.excIn K c_SentenceTooLarge [.type "ValueError", .type "Exception", .type "BaseException", .type "object"] "ValueError.__new__" = true
  k_SentenceTooLarge : PySem.W.keepIn K (.ref c_SentenceTooLarge) = true
  c_WeightTooGreat : Addr
  g_WeightTooGreat : mg "WeightTooGreat" = some (.ref c_WeightTooGreat)
  e_WeightTooGreat : PySem.W.excIn K c_WeightTooGreat [.type "ValueError", .type "Exception", .type "BaseException", .type "object"] "ValueError.__new__" = true
  k_WeightTooGreat : PySem.W.keepIn K (.ref c_WeightTooGreat) = true
  c_BenchError : Addr
  g_BenchError : mg "BenchError" = some (.ref c_BenchError)
  e_BenchError : PySem.W.excIn K c_BenchError [.type "ValueError", .type "Exception", .type "BaseException", .type "object"] "ValueError.__new__" = true
  k_BenchError : PySem.W.keepIn K (.ref c_BenchError) = true
  c_NoSuchState : Addr
  g_NoSuchState : mg "NoSuchState" = some (.ref c_NoSuchState)
  a_NoSuchState : Addr
  d_NoSuchState : FuncData
  o_NoSuchState : OexC K c_NoSuchState
  i_NoSuchState : PySem.W.findIn K (.ref c_NoSuchState) "__init__" = some (some (.ref a_NoSuchState))
  t_NoSuchState : PySem.W.typeIn K (.ref a_NoSuchState) = some (.type "function")
  F_NoSuchState : Fun K "__init__" "NoSuchState.__init__" s_NoSuchState a_NoSuchState d_NoSuchState
  b_NoSuchState : Binds K d_NoSuchState ["self", "state"] []
  n_NoSuchState : PySem.W.findIn K (.ref c_NoSuchState) "state" = some none
  c_NoSuchChoice : Addr
  g_NoSuchChoice : mg "NoSuchChoice" = some (.ref c_NoSuchChoice)
  a_NoSuchChoice : Addr
  d_NoSuchChoice : FuncData
  o_NoSuchChoice : OexC K c_NoSuchChoice
  i_NoSuchChoice : PySem.W.findIn K (.ref c_NoSuchChoice) "__init__" = some (some (.ref a_NoSuchChoice))
  t_NoSuchChoice : PySem.W.typeIn K (.ref a_NoSuchChoice) = some (.type "function")
  F_NoSuchChoice : Fun K "__init__" "NoSuchChoice.__init__" s_NoSuchChoice a_NoSuchChoice d_NoSuchChoice
  b_NoSuchChoice : Binds K d_NoSuchChoice ["self", "number"] []
  n_NoSuchChoice : PySem.W.findIn K (.ref c_NoSuchChoice) "number" = some none
  c_TooManyChanges : Addr
  g_TooManyChanges : mg "TooManyChanges" = some (.ref c_TooManyChanges)
  e_TooManyChanges : PySem.W.excIn K c_TooManyChanges [.type "ValueError", .type "Exception", .type "BaseException", .type "object"] "ValueError.__new__" = true
  k_TooManyChanges : PySem.W.keepIn K (.ref c_TooManyChanges) = true
  c_InvalidName : Addr
  g_InvalidName : mg "InvalidName" = some (.ref c_InvalidName)
  a_InvalidName : Addr
  d_InvalidName : FuncData
  o_InvalidName : OexC K c_InvalidName
  i_InvalidName : PySem.W.findIn K (.ref c_InvalidName) "__init__" = some (some (.ref a_InvalidName))
  t_InvalidName : PySem.W.typeIn K (.ref a_InvalidName) = some (.type "function")
  F_InvalidName : Fun K "__init__" "InvalidName.__init__" s_InvalidName a_InvalidName d_InvalidName
  b_InvalidName : Binds K d_InvalidName ["self", "name"] []
  n_InvalidName : PySem.W.findIn K (.ref c_InvalidName) "name" = some none
  c_TooManyWishes : Addr
  g_TooManyWishes : mg "TooManyWishes" = some (.ref c_TooManyWishes)
  e_TooManyWishes : PySem.W.excIn K c_TooManyWishes [.type "ValueError", .type "Exception", .type "BaseException", .type "object"] "ValueError.__new__" = true
  k_TooManyWishes : PySem.W.keepIn K (.ref c_TooManyWishes) = true
  c_UnknownName : Addr
  g_UnknownName : mg "UnknownName" = some (.ref c_UnknownName)
  a_UnknownName : Addr
  d_UnknownName : FuncData
  o_UnknownName : OexC K c_UnknownName
  i_UnknownName : PySem.W.findIn K (.ref c_UnknownName) "__init__" = some (some (.ref a_UnknownName))
  t_UnknownName : PySem.W.typeIn K (.ref a_UnknownName) = some (.type "function")
  F_UnknownName : Fun K "__init__" "UnknownName.__init__" s_UnknownName a_UnknownName d_UnknownName
  b_UnknownName : Binds K d_UnknownName ["self", "name"] []
  n_UnknownName : PySem.W.findIn K (.ref c_UnknownName) "name" = some none
  kits : allK K [c_InvalidRatio, c_InvalidLine, c_InvalidSystem, c_InvalidWord, c_SentenceTooLarge, c_WeightTooGreat, c_NoSuchState, c_NoSuchChoice, c_TooManyChanges, c_InvalidName, c_TooManyWishes, c_UnknownName] [c_BestoddsError, c_BenchError] = true
  z_ValueError : mg "ValueError" = none
  z_int : mg "int" = none
  z_isinstance : mg "isinstance" = none
  z_len : mg "len" = none
  z_range : mg "range" = none
/-! ### steps of a reading -/
local macro_rules | `(tactic| walk_at "rd1") => `(tactic| (first
  | with_reducible refine r_seq ?_
  | with_reducible refine r_asg ?_
  | with_reducible refine r_name ?_
  | ((with_reducible refine r_var ?_); (refine ⟨_, rfl, ?_⟩))
  | with_reducible refine r_c ?_
  | with_reducible refine r_op ?_
  | with_reducible refine r_un ?_
  | with_reducible refine r_i0 ?_
  | with_reducible refine r_u ?_
  | with_reducible refine r_eqI ?_
  | with_reducible refine r_neI ?_
  | with_reducible refine r_eqS ?_
  | with_reducible refine r_eqB ?_
  | with_reducible refine r_tst ?_
  | with_reducible refine r_tB ?_
  | with_reducible refine r_bl ?_
  | with_reducible refine r_not ?_
  | with_reducible refine r_and ?_
  | with_reducible refine r_or ?_
  | with_reducible refine r_andV ?_
  | with_reducible refine r_orV ?_
  | with_reducible refine r_notV ?_
  | with_reducible refine r_ifs ?_
  | with_reducible refine r_ifE ?_
  | with_reducible refine r_ret ?_
  | with_reducible refine r_retN ?_
  | with_reducible refine r_next ?_
  | with_reducible refine r_brk ?_
  | with_reducible refine r_cont ?_
  | with_reducible refine r_drop ?_
  | with_reducible refine r_nil ?_
  | with_reducible refine r_cons ?_
  | with_reducible refine r_tup ?_
  | with_reducible refine r_lst ?_
  | with_reducible refine r_cb ?_
  | with_reducible refine r_call ?_
  | with_reducible refine r_chain ?_
  | ((with_reducible show V.non = V.non ∧ _); (refine ⟨rfl, ?_⟩))
  | with_reducible refine r_gsub ?_
  | with_reducible refine r_sl ?_
  | with_reducible refine r_nopart ?_
  | with_reducible refine r_part ?_
  | ((with_reducible show ∃ i, V.int _ = V.int i ∧ _); (refine ⟨_, rfl, ?_⟩))
  | with_reducible refine r_bm ?_
  | with_reducible refine r_bm0 ?_
  | with_reducible refine r_dput ?_
  | with_reducible refine r_dnew ?_
  | with_reducible refine r_for ?_
  | with_reducible refine r_iList ?_
  | with_reducible refine r_iTup ?_
  | with_reducible refine r_rng1 ?_
  | with_reducible refine r_rng2 ?_
  | ((with_reducible show (∃ j, [V.int _] = [V.int j] ∧ _) ∨ (∃ k, [V.int _] = [V.bl k] ∧ _)); (refine Or.inl ⟨_, rfl, ?_⟩))
  | ((with_reducible show ∃ j, [V.int _] = [V.int j] ∧ _); (refine ⟨_, rfl, ?_⟩))
  | ((with_reducible show (-(2 ^ 62) : Int) ≤ _ ∧ _ < (2 ^ 62 : Int) ∧ _); (refine ⟨by decide, by decide, ?_⟩))
  | with_reducible refine r_ifT ?_
  | with_reducible refine r_ifF ?_
  | with_reducible refine r_ifNT ?_
  | with_reducible refine r_ifNF ?_
  | (refine r_iC ?_ ?_; (first | exact Or.inl ⟨by decide, by decide⟩ | exact Or.inr ⟨by decide, by decide⟩ | exact ⟨by decide, by decide, by decide⟩ | exact ⟨by decide, by decide⟩ | (show (0 : Int) < _; decide)))))
local macro_rules | `(tactic| walk_at "rd") => `(tactic| repeat walk_at "rd1")
structure KitX1 (K : PySem.W.Frag) (cs bs : List Addr) (i : Nat) : Prop where
  x : XfC K (cs.getD i 0)
  c : ExcC K (cs.getD i 0)
  own : ∀ j, j < 12 → PySem.W.kitOne K (.ref (cs.getD i 0)) (.ref (cs.getD j 0)) = some (decide (i = j))
  all : PySem.W.kitOne K (.ref (cs.getD i 0)) (.ref (bs.getD 0 0)) = some true
  ben : PySem.W.kitOne K (.ref (cs.getD i 0)) (.ref (bs.getD 1 0)) = some (decide (6 ≤ i))
  val : PySem.W.kitOne K (.ref (cs.getD i 0)) (.type "ValueError") = some true
theorem kit_of_all {K : PySem.W.Frag} {cs bs : List Addr} (h : allK K cs bs = true) {i : Nat} (hi : i < 12) : KitX1 K cs bs i := by
  have e := List.all_eq_true.mp h i (List.mem_range.mpr hi)
  unfold kitB at e
  simp only [Bool.and_eq_true] at e
  obtain ⟨h0, h1, h2, h3, h4, h5, h6, h7, h8⟩ := e
  have X := xfB_ok h0
  exact ⟨X, ⟨X.ga, X.gg, X.exC, X.hdC, of_decide_eq_true h1, of_decide_eq_true h2, of_decide_eq_true h3, of_decide_eq_true h4⟩, fun j hj => of_decide_eq_true (List.all_eq_true.mp h5 j (List.mem_range.mpr hj)), of_decide_eq_true h6, of_decide_eq_true h7, of_decide_eq_true h8⟩
/-- an own __init__ that stores its argument -/
def sp_init (K : PySem.W.Frag) (f : Str) : Sp := fun vs H Q _ => ∃ (a C : Addr) (v : V), vs = [.ref a, v] ∧ H a = some (exo a C none) ∧ OexC K C ∧ PySem.W.findIn K (.ref C) f = some none ∧
  ∀ dx, H dx = none → dx ≠ a → Q .non (upd (upd H dx (exd dx [(f, v)])) a (exo a C (some dx)))
theorem iok_InvalidLine {P : Program} {w : World} {K : PySem.W.Frag} {mg : Str → Option Value} {base : Heap} (T : Env K mg) : FnOk P w K mg base CX0 1 T.a_InvalidLine T.d_InvalidLine ["self", "number"] (sp_init K "number") := by
  refine T.F_InvalidLine.ok sc_InvalidLine (fun vs H Q E h => ?_) (fun cdv A outer s H vs Q E hr h => ?_)
  · obtain ⟨a, C, v, rfl, _⟩ := h
    rfl
  · obtain ⟨a, C, v, rfl, ha, T, hf, k⟩ := h
    refine ⟨_, pss_one (ps_ost (pv 0) (pv 1)), ?_⟩
    exact ⟨_, rfl, _, rfl, a, C, rfl, T, hf, .inl ⟨ha, fun dx h1 h2 => k dx h1 h2⟩⟩
theorem iok_InvalidSystem {P : Program} {w : World} {K : PySem.W.Frag} {mg : Str → Option Value} {base : Heap} (T : Env K mg) : FnOk P w K mg base CX0 1 T.a_InvalidSystem T.d_InvalidSystem ["self", "fault"] (sp_init K "fault") := by
  refine T.F_InvalidSystem.ok sc_InvalidSystem (fun vs H Q E h => ?_) (fun cdv A outer s H vs Q E hr h => ?_)
  · obtain ⟨a, C, v, rfl, _⟩ := h
    rfl
  · obtain ⟨a, C, v, rfl, ha, T, hf, k⟩ := h
    refine ⟨_, pss_one (ps_ost (pv 0) (pv 1)), ?_⟩
    exact ⟨_, rfl, _, rfl, a, C, rfl, T, hf, .inl ⟨ha, fun dx h1 h2 => k dx h1 h2⟩⟩
theorem iok_InvalidWord {P : Program} {w : World} {K : PySem.W.Frag} {mg : Str → Option Value} {base : Heap} (T : Env K mg) : FnOk P w K mg base CX0 1 T.a_InvalidWord T.d_InvalidWord ["self", "number"] (sp_init K "number") := by
  refine T.F_InvalidWord.ok sc_InvalidWord (fun vs H Q E h => ?_) (fun cdv A outer s H vs Q E hr h => ?_)
  · obtain ⟨a, C, v, rfl, _⟩ := h
    rfl
  · obtain ⟨a, C, v, rfl, ha, T, hf, k⟩ := h
    refine ⟨_, pss_one (ps_ost (pv 0) (pv 1)), ?_⟩
    exact ⟨_, rfl, _, rfl, a, C, rfl, T, hf, .inl ⟨ha, fun dx h1 h2 => k dx h1 h2⟩⟩
theorem iok_NoSuchState {P : Program} {w : World} {K : PySem.W.Frag} {mg : Str → Option Value} {base : Heap} (T : Env K mg) : FnOk P w K mg base CX0 1 T.a_NoSuchState T.d_NoSuchState ["self", "state"] (sp_init K "state") := by
  refine T.F_NoSuchState.ok sc_NoSuchState (fun vs H Q E h => ?_) (fun cdv A outer s H vs Q E hr h => ?_)
  · obtain ⟨a, C, v, rfl, _⟩ := h
    rfl
  · obtain ⟨a, C, v, rfl, ha, T, hf, k⟩ := h
    refine ⟨_, pss_one (ps_ost (pv 0) (pv 1)), ?_⟩
    exact ⟨_, rfl, _, rfl, a, C, rfl, T, hf, .inl ⟨ha, fun dx h1 h2 => k dx h1 h2⟩⟩
theorem iok_NoSuchChoice {P : Program} {w : World} {K : PySem.W.Frag} {mg : Str → Option Value} {base : Heap} (T : Env K mg) : FnOk P w K mg base CX0 1 T.a_NoSuchChoice T.d_NoSuchChoice ["self", "number"] (sp_init K "number") := by
  refine T.F_NoSuchChoice.ok sc_NoSuchChoice (fun vs H Q E h => ?_) (fun cdv A outer s H vs Q E hr h => ?_)
  · obtain ⟨a, C, v, rfl, _⟩ := h
    rfl
  · obtain ⟨a, C, v, rfl, ha, T, hf, k⟩ := h
    refine ⟨_, pss_one (ps_ost (pv 0) (pv 1)), ?_⟩
    exact ⟨_, rfl, _, rfl, a, C, rfl, T, hf, .inl ⟨ha, fun dx h1 h2 => k dx h1 h2⟩⟩
theorem iok_InvalidName {P : Program} {w : World} {K : PySem.W.Frag} {mg : Str → Option Value} {base : Heap} (T : Env K mg) : FnOk P w K mg base CX0 1 T.a_InvalidName T.d_InvalidName ["self", "name"] (sp_init K "name") := by
  refine T.F_InvalidName.ok sc_InvalidName (fun vs H Q E h => ?_) (fun cdv A outer s H vs Q E hr h => ?_)
  · obtain ⟨a, C, v, rfl, _⟩ := h
    rfl
  · obtain ⟨a, C, v, rfl, ha, T, hf, k⟩ := h
    refine ⟨_, pss_one (ps_ost (pv 0) (pv 1)), ?_⟩
    exact ⟨_, rfl, _, rfl, a, C, rfl, T, hf, .inl ⟨ha, fun dx h1 h2 => k dx h1 h2⟩⟩
theorem iok_UnknownName {P : Program} {w : World} {K : PySem.W.Frag} {mg : Str → Option Value} {base : Heap} (T : Env K mg) : FnOk P w K mg base CX0 1 T.a_UnknownName T.d_UnknownName ["self", "name"] (sp_init K "name") := by
  refine T.F_UnknownName.ok sc_UnknownName (fun vs H Q E h => ?_) (fun cdv A outer s H vs Q E hr h => ?_)
  · obtain ⟨a, C, v, rfl, _⟩ := h
    rfl
  · obtain ⟨a, C, v, rfl, ha, T, hf, k⟩ := h
    refine ⟨_, pss_one (ps_ost (pv 0) (pv 1)), ?_⟩
    exact ⟨_, rfl, _, rfl, a, C, rfl, T, hf, .inl ⟨ha, fun dx h1 h2 => k dx h1 h2⟩⟩
def Env.cs {K : PySem.W.Frag} {mg : Str → Option Value} (T : Env K mg) : List Addr := [T.c_InvalidRatio, T.c_InvalidLine, T.c_InvalidSystem, T.c_InvalidWord, T.c_SentenceTooLarge, T.c_WeightTooGreat, T.c_NoSuchState, T.c_NoSuchChoice, T.c_TooManyChanges, T.c_InvalidName, T.c_TooManyWishes, T.c_UnknownName]
/-! ### draws -/
theorem same_mut {H H' : Hp} {t : Addr} {o : HO} (e : Same H H') (h : H t = none) : Same H (upd H' t o) := fun b u q => by
  rw [upd_ne (ne_of_none q h)]
  exact e b u q
theorem ap_int (ts : List Int) (z : Int) : ts.map V.int ++ [V.int z] = (ts ++ [z]).map V.int := by simp
theorem map_get {l : List Int} {i : Nat} {y : V} (h : (l.map V.int)[i]? = some y) : ∃ z, l[i]? = some z ∧ y = V.int z := by
  rw [List.getElem?_map] at h
  cases e : l[i]? with
  | none => rw [e] at h; cases h
  | some z => rw [e] at h; exact ⟨z, rfl, (Option.some.inj h).symm⟩
def DrOk (zs : List Int) : Prop := ∀ z ∈ zs, 0 ≤ z ∧ z < 1000003
theorem DrOk.app {zs ws : List Int} (h : DrOk zs) (k : DrOk ws) : DrOk (zs ++ ws) := fun z hz => by
  rcases List.mem_append.mp hz with q | q
  · exact h z q
  · exact k z q
theorem DrOk.one {z : Int} (h0 : 0 ≤ z) (h1 : z < 1000003) : DrOk [z] := fun y hy => by
  rw [List.mem_singleton.mp hy]
  exact ⟨h0, h1⟩
def sp_l_draws (K : PySem.W.Frag) : Sp := fun vs H Q _ => ∃ (c : Int), vs = [.int c, .int 1000003, .int 6] ∧
  ∀ (p : Addr) (zs : List Int) (H' : Hp), Same H H' → H' p = some (.lst (zs.map V.int)) → DrOk zs → zs.length ≤ 6 → Q (.ref p) H'
theorem sc_l_draws : FnScope ["cell", "modulus", "count", "number", "row", "k", "mixed"] ["cell", "modulus", "count"] (defScope s_l_draws) := ⟨rfl, rfl, rfl, by decide +kernel, rfl, by decide +kernel, by decide +kernel⟩
theorem ok_l_draws {P : Program} {w : World} {K : PySem.W.Frag} {mg : Str → Option Value} {base : Heap} (T : Env K mg) : FnOk P w K mg base CX0 1 T.a_l_draws T.d_l_draws ["cell", "modulus", "count"] (sp_l_draws K) := by
  refine T.F_l_draws.ok sc_l_draws (fun vs H Q E h => ?_) (fun cdv A outer s H vs Q E hr h => ?_)
  · obtain ⟨c, rfl, _⟩ := h
    rfl
  · obtain ⟨c, rfl, k⟩ := h
    refine ⟨_, (pss_cons (ps_set (i := 3) sc_l_draws.nd rfl (Or.inl rfl) (pv 0))
      (C8.pss_cut (ps_if (pt_cmpR op_lt (pv 3) pe_int (nomark _)) (pss_one (ps_set (i := 3) sc_l_draws.nd rfl (Or.inl rfl) (pe_op op_sub pe_int (pv 3)))) pss_nil)
      (pss_cons (ps_set (i := 4) sc_l_draws.nd rfl (Or.inl rfl) (pe_lst pa_nil))
      (pss_cons (ps_if (pt_cmpR op_ge (pv 3) (pe_op op_pow pe_int pe_int) (nomark _)) (pss_cons (ps_for PassesOwn.never rfl (pi_range1 (by rfl) T.z_range (pa_cons (pv 2) pa_nil)) (pg_name (i := 5) sc_l_draws.nd rfl (Or.inl rfl)) (pss_cons (ps_expr (pe_bm PySem.F.plainAttrs_list PySem.F.slot_list_append PySem.F.type_list_append mt_append (pv 4) (pa_cons (pe_op op_modN (pe_callTy call_int1 (by rfl) T.z_int (by decide +kernel) (pa_cons (pv 3) pa_nil)) (pv 1)) pa_nil)))
      (pss_one (ps_set (i := 3) sc_l_draws.nd rfl (Or.inl rfl) (pe_op op_fdivX (pv 3) (pv 1))))))
      (pss_one (ps_ret (pv 4)))) pss_nil)
      (pss_cons (ps_for PassesOwn.never rfl (pi_range1 (by rfl) T.z_range (pa_cons (pv 2) pa_nil)) (pg_name (i := 5) sc_l_draws.nd rfl (Or.inl rfl)) (pss_cons (ps_set (i := 6) sc_l_draws.nd rfl (Or.inl rfl) (pe_op op_mod (pe_callTy call_int1 (by rfl) T.z_int (by decide +kernel) (pa_cons (pe_op op_mul (pe_op op_add (pe_op op_add (pv 3) (pe_op op_mul pe_int (pv 5))) pe_int) pe_int) pa_nil)) pe_int))
      (pss_cons (ps_set (i := 6) sc_l_draws.nd rfl (Or.inl rfl) (pe_op op_mod (pe_callTy call_int1 (by rfl) T.z_int (by decide +kernel) (pa_cons (pe_op op_add (pe_op op_mul (pv 6) pe_int) (pe_op op_mul pe_int (pv 5))) pa_nil)) pe_int))
      (pss_one (ps_expr (pe_bm PySem.F.plainAttrs_list PySem.F.slot_list_append PySem.F.type_list_append mt_append (pv 4) (pa_cons (pe_op op_modN (pe_callTy call_int1 (by rfl) T.z_int (by decide +kernel) (pa_cons (pe_op op_fdiv (pv 6) pe_int) pa_nil)) (pv 1)) pa_nil)))))))
      (pss_one (ps_ret (pv 4)))))))), ?_⟩
    walk_at "rd"
    refine r_cut (fun σ' H1 => ∃ m : Int, 0 ≤ m ∧ σ' = [some (.int c), some (.int 1000003), some (.int 6), some (.int m), none, none, none] ∧ H1 = H) ?_ ?_
    · walk_at "rd"
      refine r_if (fun c1 => ?_) (fun c1 => ?_)
      · walk_at "rd"
        exact ⟨_, by omega, rfl, rfl⟩
      · walk_at "rd"
        exact ⟨_, by omega, rfl, rfl⟩
    · rintro σ' H1 ⟨m, hm, rfl, rfl⟩
      walk_at "rd"
      refine ⟨by decide, fun t ht => ?_⟩
      walk_at "rd"
      refine r_if (fun c1 => ?_) (fun c1 => ?_)
      · walk_at "rd"
        refine for_range (n := Int.toNat 6) (fun j σ H2 => ∃ (m : Int) (us : List Int) (v5 : Option V), 0 ≤ m ∧ σ = [some (.int c), some (.int 1000003), some (.int 6), some (.int m), some (.ref t), v5, none] ∧ Same H1 H2 ∧ H2 t = some (.lst (us.map V.int)) ∧ DrOk us ∧ us.length ≤ j)
          ⟨m, [], none, hm, rfl, sm_new ht, upd_same, fun z hz => (by cases hz), by decide⟩ ?_ ?_
        · rintro j σ H2 hj ⟨m, us, v5, hm, rfl, s6, hU, hu, hul⟩
          have hj6 : j < 6 := hj
          walk_at "rd"
          refine r_tyL (SqL.of hU) ?_
          walk_at "rd"
          refine r_iC (by decide) ?_
          walk_at "rd"
          refine r_app hU (by rw [List.length_map]; omega) ?_
          walk_at "rd"
          refine ⟨_, us ++ [m.fmod 1000003], _, ?_, rfl, same_mut s6 ht, by rw [ap_int]; exact upd_same, hu.app (.one (Int.fmod_nonneg_of_pos _ (by decide)) (Int.fmod_lt_of_pos _ (by decide))), by rw [List.length_append]; simp; omega⟩
          rw [Int.fdiv_eq_ediv_of_nonneg _ (by decide)]
          exact Int.ediv_nonneg hm (by decide)
        · rintro σ H2 ⟨m, us, v5, hm, rfl, s6, hU, hu, hul⟩
          walk_at "rd"
          exact k t us H2 s6 hU hu hul
      · walk_at "rd"
        refine for_range (n := Int.toNat 6) (fun j σ H2 => ∃ (us : List Int) (v5 v6 : Option V), σ = [some (.int c), some (.int 1000003), some (.int 6), some (.int m), some (.ref t), v5, v6] ∧ Same H1 H2 ∧ H2 t = some (.lst (us.map V.int)) ∧ DrOk us ∧ us.length ≤ j)
          ⟨[], _, _, rfl, sm_new ht, upd_same, fun z hz => (by cases hz), by decide⟩ ?_ ?_
        · rintro j σ H2 hj ⟨us, v5, v6, rfl, s6, hU, hu, hul⟩
          have hj6 : j < 6 := hj
          walk_at "rd"
          refine r_tyL (SqL.of hU) ?_
          walk_at "rd"
          refine r_iC (by decide) ?_
          walk_at "rd"
          refine r_app hU (by rw [List.length_map]; omega) ?_
          walk_at "rd"
          exact ⟨us ++ [_], _, _, rfl, same_mut s6 ht, by rw [ap_int]; exact upd_same, hu.app (.one (Int.fmod_nonneg_of_pos _ (by decide)) (Int.fmod_lt_of_pos _ (by decide))), by rw [List.length_append]; simp; omega⟩
        · rintro σ H2 ⟨us, v5, v6, rfl, s6, hU, hu, hul⟩
          walk_at "rd"
          exact k t us H2 s6 hU hu hul
/-- the box: its row of draws, its place -/
structure BoxAt (H : Hp) (p r : Addr) (zs : List Int) (n : Int) : Prop where
  box : ∃ i : Int, H p = some (.dK [(.inr "row", .ref r), (.inr "at", .int i)]) ∧ 0 ≤ i ∧ i ≤ n
  row : H r = some (.lst (zs.map V.int))
  dr : DrOk zs
  ne : 0 < zs.length ∧ zs.length ≤ 400
def sp_l_box (K : PySem.W.Frag) : Sp := fun vs H Q _ => ∃ (a : Addr) (ns : List Int), vs = [.ref a] ∧ SqL K H a (ns.map V.int) ∧ ns.length ≤ 63 ∧
  ∀ (p r : Addr) (zs : List Int) (H' : Hp), Same H H' → BoxAt H' p r zs 0 → Q (.ref p) H'
theorem sc_l_box : FnScope ["script", "row", "cell"] ["script"] (defScope s_l_box) := ⟨rfl, rfl, rfl, by decide +kernel, rfl, by decide +kernel, by decide +kernel⟩
theorem ok_l_box {P : Program} {w : World} {K : PySem.W.Frag} {mg : Str → Option Value} {base : Heap} (T : Env K mg) : FnOk P w K mg base CX0 2 T.a_l_box T.d_l_box ["script"] (sp_l_box K) := by
  refine T.F_l_box.ok sc_l_box (fun vs H Q E h => ?_) (fun cdv A outer s H vs Q E hr h => ?_)
  · obtain ⟨a, ns, rfl, _⟩ := h
    rfl
  · obtain ⟨a, ns, rfl, hS, hlen, k⟩ := h
    have G_l_draws := ok_l_draws (P := P) (w := w) (base := base) T
    have hr_l_draws : Room 1 _ := hr.mono (by decide)
    refine ⟨_, (pss_cons (ps_set (i := 1) sc_l_box.nd rfl (Or.inl rfl) (pe_lst pa_nil))
      (pss_cons (ps_for PassesOwn.never rfl (pi_list (pv 0)) (pg_name (i := 2) sc_l_box.nd rfl (Or.inl rfl)) (pss_one (ps_set (i := 1) sc_l_box.nd rfl (Or.inl rfl) (pe_op op_cat (pv 1) (pe_call G_l_draws hr_l_draws (by rfl) T.g_l_draws T.F_l_draws.kp T.b_l_draws .nil pass0 (pa_cons (pv 2) (pa_cons pe_int (pa_cons pe_int pa_nil))))))))
      (C8.pss_cut (ps_if (pt_cmpR op_eq (pe_callB call_len_seq (by rfl) T.z_len (by decide +kernel) (pa_cons (pv 1) pa_nil)) pe_int (nomark _)) (pss_one (ps_set (i := 1) sc_l_box.nd rfl (Or.inl rfl) (pe_lst (pa_cons pe_int (pa_cons pe_int (pa_cons pe_int (pa_cons pe_int (pa_cons pe_int (pa_cons pe_int (pa_cons pe_int pa_nil)))))))))) pss_nil)
      (pss_one (ps_ret (pe_disp (pps_cons pe_str (pv 1) (pps_cons pe_str pe_int pps_nil)) rfl rfl (by simp) (by decide))))))), ?_⟩
    walk_at "rd"
    refine ⟨by decide, fun t ht => ?_⟩
    walk_at "rd"
    refine ⟨a, rfl, ⟨_, sm_l (sm_new ht) hS⟩, for_list (K := K) (a := a) (xs := ns.map V.int) (fun i σ H' => ∃ (t : Addr) (zs : List Int) (v2 : Option V), σ = [some (.ref a), some (.ref t), v2] ∧ Same H H' ∧ H' t = some (.lst (zs.map V.int)) ∧ DrOk zs ∧ zs.length ≤ 6 * i)
      ⟨t, [], none, rfl, sm_new ht, upd_same, fun z hz => (by cases hz), by decide⟩ (fun i σ H' _ ⟨_, _, _, _, s5, _⟩ => sm_l s5 hS) ?_ ?_⟩
    · rintro i y σ H' hi ⟨t, zs, v2, rfl, s5, hT, hd, hl⟩
      have hi63 : i < 63 := by
        have q := (List.getElem?_eq_some_iff.mp hi).1
        rw [List.length_map] at q
        omega
      obtain ⟨z, hz, rfl⟩ := map_get hi
      walk_at "rd"
      refine ⟨z, rfl, fun p ws H1 s6 hP hw hwl => ?_⟩
      walk_at "rd"
      refine ⟨t, p, _, _, rfl, rfl, s6 _ _ hT, hP, ?_, fun q hq => ?_⟩
      · rw [List.length_map, List.length_map, sizeLine_eq]
        omega
      walk_at "rd"
      exact ⟨q, zs ++ ws, _, rfl, s5.trans (s6.trans (sm_new hq)), by rw [List.map_append]; exact upd_same, hd.app hw, by rw [List.length_append]; omega⟩
    · rintro σ H' ⟨t, zs, v2, rfl, s5, hT, hd, hl⟩
      rw [List.length_map] at hl
      walk_at "rd"
      refine r_cut (fun σ' H1 => ∃ (t : Addr) (zs : List Int), σ' = [some (.ref a), some (.ref t), v2] ∧ Same H H1 ∧ H1 t = some (.lst (zs.map V.int)) ∧ DrOk zs ∧ 0 < zs.length ∧ zs.length ≤ 400) ?_ ?_
      · walk_at "rd"
        refine ⟨t, _, rfl, .inl (SqL.of hT), ?_⟩
        walk_at "rd"
        refine r_if (fun c1 => ?_) (fun c1 => ?_)
        · walk_at "rd"
          refine ⟨(by show 7 ≤ sizeLine; decide), fun q hq => ?_⟩
          walk_at "rd"
          exact ⟨q, [11, 5, 2, 7, 31, 101, 997], rfl, s5.trans (sm_new hq), upd_same, by unfold DrOk; decide, by decide, by decide⟩
        · walk_at "rd"
          rw [List.length_map] at c1
          exact ⟨t, zs, rfl, s5, hT, hd, by omega, by omega⟩
      · rintro σ' H1 ⟨t, zs, rfl, s6, hT, hd, h1, h2⟩
        walk_at "rd"
        intro p hp
        have hpH : H p = none := by
          cases q : H p with
          | none => rfl
          | some o =>
            rw [s6 _ _ q] at hp
            cases hp
        refine ⟨_, rfl, upd_same, [(.inr "row", .ref t), (.inr "at", .int 0)], rfl, (by show 2 ≤ 15; decide), ?_⟩
        refine k p t zs _ (same_mut (s6.trans (sm_new hp)) hpH) ⟨⟨0, ?_, by decide, by decide⟩, ?_, hd, h1, h2⟩
        · rw [upd_same]
          rfl
        · rw [upd_ne (ne_of_none hT hp), upd_ne (ne_of_none hT hp)]
          exact hT
def sp_l_next (K : PySem.W.Frag) : Sp := fun vs H Q _ => ∃ (p r : Addr) (zs : List Int) (n m : Int), vs = [.ref p, .int m] ∧ BoxAt H p r zs n ∧ n ≤ 1000 ∧ 0 < m ∧ m ≤ 1000 ∧
  ∀ (v : Int) (H' : Hp), 0 ≤ v → v < m → BoxAt H' p r zs (n + 1) → (∀ b, b ≠ p → H' b = H b) → Q (.int v) H'
theorem log_small {n : Nat} (h : n ≤ 400) : ((n : Int)).natAbs.log2 < 9000 := by
  rw [Int.natAbs_natCast]
  exact Nat.lt_of_le_of_lt (Nat.log2_le_self n) (by omega)
theorem sc_l_next : FnScope ["box", "modulus", "at", "number"] ["box", "modulus"] (defScope s_l_next) := ⟨rfl, rfl, rfl, by decide +kernel, rfl, by decide +kernel, by decide +kernel⟩
theorem ok_l_next {P : Program} {w : World} {K : PySem.W.Frag} {mg : Str → Option Value} {base : Heap} (T : Env K mg) : FnOk P w K mg base CX0 1 T.a_l_next T.d_l_next ["box", "modulus"] (sp_l_next K) := by
  refine T.F_l_next.ok sc_l_next (fun vs H Q E h => ?_) (fun cdv A outer s H vs Q E hr h => ?_)
  · obtain ⟨p, r, zs, n, m, rfl, _⟩ := h
    rfl
  · obtain ⟨p, r, zs, n, m, rfl, ⟨⟨i, hb, i0, i1⟩, hrow, hd, hl1, hl2⟩, hn, hm, hm2, k⟩ := h
    refine ⟨_, (pss_cons (ps_set (i := 2) sc_l_next.nd rfl (Or.inl rfl) (pe_dget (hu_of hr) (pv 0) pe_str (fun _ _ => rfl)))
      (pss_cons (ps_dput (hu_of hr) (pv 0) pe_str (pe_op op_add (pv 2) pe_int) rfl)
      (pss_cons (ps_set (i := 3) sc_l_next.nd rfl (Or.inl rfl) (pe_ix ix_list (pe_dget (hu_of hr) (pv 0) pe_str (fun _ _ => rfl)) (pe_op op_modN (pv 2) (pe_callB call_len_seq (by rfl) T.z_len (by decide +kernel) (pa_cons (pe_dget (hu_of hr) (pv 0) pe_str (fun _ _ => rfl)) pa_nil))) (fun _ _ => rfl)))
      (pss_one (ps_ret (pe_op op_modN (pe_callTy call_int1 (by rfl) T.z_int (by decide +kernel) (pa_cons (pe_op op_add (pv 3) (pe_op op_mul pe_int (pe_op op_fdivX (pv 2) (pe_callB call_len_seq (by rfl) T.z_len (by decide +kernel) (pa_cons (pe_dget (hu_of hr) (pv 0) pe_str (fun _ _ => rfl)) pa_nil))))) pa_nil)) (pv 1))))))), ?_⟩
    have npr : r ≠ p := fun z => by rw [z, hb] at hrow; cases hrow
    walk_at "rd"
    refine ⟨_, rfl, p, .int i, rfl, .inl ⟨_, .inr "at", .inl hb, rfl, rfl⟩, ?_⟩
    walk_at "rd"
    refine ⟨p, _, rfl, .inl ⟨_, .inr "at", hb, rfl, (by show 2 < sizeLine; decide), rfl⟩, ?_⟩
    have hput : putK [((.inr "row" : Key), V.ref r), (.inr "at", .int i)] (.inr "at") (.int (i + 1)) = [(.inr "row", .ref r), (.inr "at", .int (i + 1))] := rfl
    rw [hput]
    have hb2 : (upd H p (.dK [(.inr "row", .ref r), (.inr "at", .int (i + 1))])) p = some (.dK [(.inr "row", .ref r), (.inr "at", .int (i + 1))]) := upd_same
    have hrow2 : (upd H p (.dK [(.inr "row", .ref r), (.inr "at", .int (i + 1))])) r = some (.lst (zs.map V.int)) := by rw [upd_ne npr]; exact hrow
    walk_at "rd"
    refine ⟨_, rfl, p, .ref r, rfl, .inl ⟨_, .inr "row", .inl hb2, rfl, rfl⟩, ?_⟩
    walk_at "rd"
    refine ⟨_, rfl, p, .ref r, rfl, .inl ⟨_, .inr "row", .inl hb2, rfl, rfl⟩, ?_⟩
    walk_at "rd"
    refine ⟨r, _, rfl, .inl (SqL.of hrow2), ?_⟩
    rw [List.length_map]
    walk_at "rd"
    refine r_iC (by omega) ?_
    have lp : 0 < (zs.length : Int) := by omega
    obtain ⟨jj, hjj⟩ : ∃ jj : Nat, i.fmod (zs.length : Int) = (jj : Int) := ⟨(i.fmod (zs.length : Int)).toNat, by have := Int.fmod_nonneg_of_pos i lp; omega⟩
    have hj : jj < zs.length := by
      have := Int.fmod_lt_of_pos i lp
      omega
    refine r_ixL (SqL.of hrow2) (at_of (j := jj) (v := .int zs[jj]) hjj (by rw [List.getElem?_map, List.getElem?_eq_getElem hj]; rfl)) ?_
    walk_at "rd"
    refine ⟨_, rfl, p, .ref r, rfl, .inl ⟨_, .inr "row", .inl hb2, rfl, rfl⟩, ?_⟩
    walk_at "rd"
    refine ⟨r, _, rfl, .inl (SqL.of hrow2), ?_⟩
    rw [List.length_map]
    refine r_iC ⟨by omega, log_small hl2⟩ ?_
    walk_at "rd"
    refine r_iC (by omega) ?_
    exact k _ _ (Int.fmod_nonneg_of_pos _ hm) (Int.fmod_lt_of_pos _ hm) ⟨⟨i + 1, hb2, by omega, by omega⟩, hrow2, hd, hl1, hl2⟩ fun b hb' => upd_ne hb'
/-! ### what an error is told to be -/
def bits (i : Nat) : List V := (List.range 12).map fun j => V.bl (decide (i = j))
def sp_l_kinds {K : PySem.W.Frag} {mg : Str → Option Value} (T : Env K mg) : Sp := fun vs H Q _ => ∃ (a : Addr) (i : Nat), vs = [.ref a] ∧ i < 12 ∧ HasE H a (T.cs.getD i 0) ∧
  ∀ (p : Addr) (H' : Hp), Same H H' → H' p = some (.lst (bits i)) → Q (.ref p) H'
theorem sc_l_kinds : FnScope ["e", "kinds"] ["e"] (defScope s_l_kinds) := ⟨rfl, rfl, rfl, by decide +kernel, rfl, by decide +kernel, by decide +kernel⟩
theorem ok_l_kinds {P : Program} {w : World} {K : PySem.W.Frag} {mg : Str → Option Value} {base : Heap} (T : Env K mg) : FnOk P w K mg base CX0 1 T.a_l_kinds T.d_l_kinds ["e"] (sp_l_kinds T) := by
  refine T.F_l_kinds.ok sc_l_kinds (fun vs H Q E h => ?_) (fun cdv A outer s H vs Q E hr h => ?_)
  · obtain ⟨a, i, rfl, _⟩ := h
    rfl
  · obtain ⟨a, i, rfl, hi, he, k⟩ := h
    refine ⟨_, (pss_cons (ps_set (i := 1) sc_l_kinds.nd rfl (Or.inl rfl) (pe_lst (pa_cons (pe_callB call_isV (by rfl) T.z_isinstance (by decide +kernel) (pa_cons (pv 0) (pa_cons (pe_glob (v := .ref T.c_InvalidRatio) (by rfl) T.g_InvalidRatio rfl) pa_nil))) (pa_cons (pe_callB call_isV (by rfl) T.z_isinstance (by decide +kernel) (pa_cons (pv 0) (pa_cons (pe_glob (v := .ref T.c_InvalidLine) (by rfl) T.g_InvalidLine rfl) pa_nil))) (pa_cons (pe_callB call_isV (by rfl) T.z_isinstance (by decide +kernel) (pa_cons (pv 0) (pa_cons (pe_glob (v := .ref T.c_InvalidSystem) (by rfl) T.g_InvalidSystem rfl) pa_nil))) pa_nil)))))
      (pss_cons (ps_set (i := 1) sc_l_kinds.nd rfl (Or.inl rfl) (pe_op op_cat (pv 1) (pe_lst (pa_cons (pe_callB call_isV (by rfl) T.z_isinstance (by decide +kernel) (pa_cons (pv 0) (pa_cons (pe_glob (v := .ref T.c_InvalidWord) (by rfl) T.g_InvalidWord rfl) pa_nil))) (pa_cons (pe_callB call_isV (by rfl) T.z_isinstance (by decide +kernel) (pa_cons (pv 0) (pa_cons (pe_glob (v := .ref T.c_SentenceTooLarge) (by rfl) T.g_SentenceTooLarge rfl) pa_nil))) (pa_cons (pe_callB call_isV (by rfl) T.z_isinstance (by decide +kernel) (pa_cons (pv 0) (pa_cons (pe_glob (v := .ref T.c_WeightTooGreat) (by rfl) T.g_WeightTooGreat rfl) pa_nil))) pa_nil))))))
      (pss_cons (ps_set (i := 1) sc_l_kinds.nd rfl (Or.inl rfl) (pe_op op_cat (pv 1) (pe_lst (pa_cons (pe_callB call_isV (by rfl) T.z_isinstance (by decide +kernel) (pa_cons (pv 0) (pa_cons (pe_glob (v := .ref T.c_NoSuchState) (by rfl) T.g_NoSuchState rfl) pa_nil))) (pa_cons (pe_callB call_isV (by rfl) T.z_isinstance (by decide +kernel) (pa_cons (pv 0) (pa_cons (pe_glob (v := .ref T.c_NoSuchChoice) (by rfl) T.g_NoSuchChoice rfl) pa_nil))) (pa_cons (pe_callB call_isV (by rfl) T.z_isinstance (by decide +kernel) (pa_cons (pv 0) (pa_cons (pe_glob (v := .ref T.c_TooManyChanges) (by rfl) T.g_TooManyChanges rfl) pa_nil))) pa_nil))))))
      (pss_one (ps_ret (pe_op op_cat (pv 1) (pe_lst (pa_cons (pe_callB call_isV (by rfl) T.z_isinstance (by decide +kernel) (pa_cons (pv 0) (pa_cons (pe_glob (v := .ref T.c_InvalidName) (by rfl) T.g_InvalidName rfl) pa_nil))) (pa_cons (pe_callB call_isV (by rfl) T.z_isinstance (by decide +kernel) (pa_cons (pv 0) (pa_cons (pe_glob (v := .ref T.c_TooManyWishes) (by rfl) T.g_TooManyWishes rfl) pa_nil))) (pa_cons (pe_callB call_isV (by rfl) T.z_isinstance (by decide +kernel) (pa_cons (pv 0) (pa_cons (pe_glob (v := .ref T.c_UnknownName) (by rfl) T.g_UnknownName rfl) pa_nil))) pa_nil)))))))))), ?_⟩
    have Y := kit_of_all T.kits hi
    walk_at "rd"
    refine ⟨a, _, _, _, _, rfl, he, Y.c, fun u h => h, Y.own 0 (by decide), ?_⟩
    walk_at "rd"
    refine ⟨a, _, _, _, _, rfl, he, Y.c, fun u h => h, Y.own 1 (by decide), ?_⟩
    walk_at "rd"
    refine ⟨a, _, _, _, _, rfl, he, Y.c, fun u h => h, Y.own 2 (by decide), ?_⟩
    walk_at "rd"
    refine ⟨(by show 3 ≤ sizeLine; decide), fun p1 n1 => ?_⟩
    have s1 := sm_new n1 (o := .lst [.bl (decide (i = 0)), .bl (decide (i = 1)), .bl (decide (i = 2))])
    have he1 := he.same s1
    have l1 : (upd H p1 (.lst [.bl (decide (i = 0)), .bl (decide (i = 1)), .bl (decide (i = 2))])) p1 = some (.lst [.bl (decide (i = 0)), .bl (decide (i = 1)), .bl (decide (i = 2))]) := upd_same
    generalize upd H p1 (.lst [.bl (decide (i = 0)), .bl (decide (i = 1)), .bl (decide (i = 2))]) = H1 at s1 he1 l1 ⊢
    walk_at "rd"
    refine ⟨a, _, _, _, _, rfl, he1, Y.c, fun u h => h, Y.own 3 (by decide), ?_⟩
    walk_at "rd"
    refine ⟨a, _, _, _, _, rfl, he1, Y.c, fun u h => h, Y.own 4 (by decide), ?_⟩
    walk_at "rd"
    refine ⟨a, _, _, _, _, rfl, he1, Y.c, fun u h => h, Y.own 5 (by decide), ?_⟩
    walk_at "rd"
    refine ⟨(by show 3 ≤ sizeLine; decide), fun q0 nq0 => ?_⟩
    have t0 := sm_new nq0 (o := .lst [.bl (decide (i = 3)), .bl (decide (i = 4)), .bl (decide (i = 5))])
    refine ⟨p1, q0, _, _, rfl, rfl, t0 _ _ l1, upd_same, (by show 6 ≤ sizeLine; decide), fun p2 np2 => ?_⟩
    have sp2 := s1.trans (t0.trans (sm_new np2 (o := .lst [.bl (decide (i = 0)), .bl (decide (i = 1)), .bl (decide (i = 2)), .bl (decide (i = 3)), .bl (decide (i = 4)), .bl (decide (i = 5))])))
    have hp2 := he.same sp2
    have lp2 : (upd (upd H1 q0 (.lst [.bl (decide (i = 3)), .bl (decide (i = 4)), .bl (decide (i = 5))])) p2 (.lst [.bl (decide (i = 0)), .bl (decide (i = 1)), .bl (decide (i = 2)), .bl (decide (i = 3)), .bl (decide (i = 4)), .bl (decide (i = 5))])) p2 = some (.lst [.bl (decide (i = 0)), .bl (decide (i = 1)), .bl (decide (i = 2)), .bl (decide (i = 3)), .bl (decide (i = 4)), .bl (decide (i = 5))]) := upd_same
    generalize hGp2 : upd (upd H1 q0 (.lst [.bl (decide (i = 3)), .bl (decide (i = 4)), .bl (decide (i = 5))])) p2 (.lst [.bl (decide (i = 0)), .bl (decide (i = 1)), .bl (decide (i = 2)), .bl (decide (i = 3)), .bl (decide (i = 4)), .bl (decide (i = 5))]) = Hp2 at sp2 hp2 lp2
    walk_at "rd"
    rw [show (([.bl (decide (i = 0)), .bl (decide (i = 1)), .bl (decide (i = 2))] : List V) ++ [.bl (decide (i = 3)), .bl (decide (i = 4)), .bl (decide (i = 5))]) = [.bl (decide (i = 0)), .bl (decide (i = 1)), .bl (decide (i = 2)), .bl (decide (i = 3)), .bl (decide (i = 4)), .bl (decide (i = 5))] from rfl, hGp2]
    walk_at "rd"
    refine ⟨a, _, _, _, _, rfl, hp2, Y.c, fun u h => h, Y.own 6 (by decide), ?_⟩
    walk_at "rd"
    refine ⟨a, _, _, _, _, rfl, hp2, Y.c, fun u h => h, Y.own 7 (by decide), ?_⟩
    walk_at "rd"
    refine ⟨a, _, _, _, _, rfl, hp2, Y.c, fun u h => h, Y.own 8 (by decide), ?_⟩
    walk_at "rd"
    refine ⟨(by show 3 ≤ sizeLine; decide), fun q1 nq1 => ?_⟩
    have t1 := sm_new nq1 (o := .lst [.bl (decide (i = 6)), .bl (decide (i = 7)), .bl (decide (i = 8))])
    refine ⟨p2, q1, _, _, rfl, rfl, t1 _ _ lp2, upd_same, (by show 9 ≤ sizeLine; decide), fun p3 np3 => ?_⟩
    have sp3 := sp2.trans (t1.trans (sm_new np3 (o := .lst [.bl (decide (i = 0)), .bl (decide (i = 1)), .bl (decide (i = 2)), .bl (decide (i = 3)), .bl (decide (i = 4)), .bl (decide (i = 5)), .bl (decide (i = 6)), .bl (decide (i = 7)), .bl (decide (i = 8))])))
    have hp3 := he.same sp3
    have lp3 : (upd (upd Hp2 q1 (.lst [.bl (decide (i = 6)), .bl (decide (i = 7)), .bl (decide (i = 8))])) p3 (.lst [.bl (decide (i = 0)), .bl (decide (i = 1)), .bl (decide (i = 2)), .bl (decide (i = 3)), .bl (decide (i = 4)), .bl (decide (i = 5)), .bl (decide (i = 6)), .bl (decide (i = 7)), .bl (decide (i = 8))])) p3 = some (.lst [.bl (decide (i = 0)), .bl (decide (i = 1)), .bl (decide (i = 2)), .bl (decide (i = 3)), .bl (decide (i = 4)), .bl (decide (i = 5)), .bl (decide (i = 6)), .bl (decide (i = 7)), .bl (decide (i = 8))]) := upd_same
    generalize hGp3 : upd (upd Hp2 q1 (.lst [.bl (decide (i = 6)), .bl (decide (i = 7)), .bl (decide (i = 8))])) p3 (.lst [.bl (decide (i = 0)), .bl (decide (i = 1)), .bl (decide (i = 2)), .bl (decide (i = 3)), .bl (decide (i = 4)), .bl (decide (i = 5)), .bl (decide (i = 6)), .bl (decide (i = 7)), .bl (decide (i = 8))]) = Hp3 at sp3 hp3 lp3
    walk_at "rd"
    rw [show (([.bl (decide (i = 0)), .bl (decide (i = 1)), .bl (decide (i = 2)), .bl (decide (i = 3)), .bl (decide (i = 4)), .bl (decide (i = 5))] : List V) ++ [.bl (decide (i = 6)), .bl (decide (i = 7)), .bl (decide (i = 8))]) = [.bl (decide (i = 0)), .bl (decide (i = 1)), .bl (decide (i = 2)), .bl (decide (i = 3)), .bl (decide (i = 4)), .bl (decide (i = 5)), .bl (decide (i = 6)), .bl (decide (i = 7)), .bl (decide (i = 8))] from rfl, hGp3]
    walk_at "rd"
    refine ⟨a, _, _, _, _, rfl, hp3, Y.c, fun u h => h, Y.own 9 (by decide), ?_⟩
    walk_at "rd"
    refine ⟨a, _, _, _, _, rfl, hp3, Y.c, fun u h => h, Y.own 10 (by decide), ?_⟩
    walk_at "rd"
    refine ⟨a, _, _, _, _, rfl, hp3, Y.c, fun u h => h, Y.own 11 (by decide), ?_⟩
    walk_at "rd"
    refine ⟨(by show 3 ≤ sizeLine; decide), fun q2 nq2 => ?_⟩
    have t2 := sm_new nq2 (o := .lst [.bl (decide (i = 9)), .bl (decide (i = 10)), .bl (decide (i = 11))])
    refine ⟨p3, q2, _, _, rfl, rfl, t2 _ _ lp3, upd_same, (by show 12 ≤ sizeLine; decide), fun p4 np4 => ?_⟩
    walk_at "rd"
    exact k p4 _ (sp3.trans (t2.trans (sm_new np4))) upd_same
/-! ### the law -/
def FldE (H : Hp) (a C : Addr) (f : Str) (v : V) : Prop := ∃ d, H a = some (exo a C (some d)) ∧ H d = some (exd d [(f, v)])
section
variable {K : PySem.W.Frag} {σ : L2.St} {H H' : Hp} {Q : VK} {te : TE} {a C : Addr} {f : Str} {v : V}
theorem FldE.same (k : Same H H') (h : FldE H a C f v) : FldE H' a C f v := by
  obtain ⟨d, h1, h2⟩ := h
  exact ⟨d, k _ _ h1, k _ _ h2⟩
theorem FldE.has (h : FldE H a C f v) : HasE H a C := by
  obtain ⟨d, h1, h2⟩ := h
  exact .inl ⟨d, _, h1, h2⟩
/-- the rest of C(x), an error whose maker stores x -/
def MkG (K : PySem.W.Frag) (C : Addr) (f : Str) (Q : VK) (x : V) (H1 : Hp) : Prop := ([x] : List V).length ≤ 1000 ∧ ∀ a, H1 a = none → sp_init K f (.ref a :: ([x] ++ [])) (upd H1 a (exo a C none)) (fun v H2 => v = .non ∧ Q (.ref a) H2) (fun _ _ _ => False)
theorem r_mk0 (h : te σ H fun x H1 => MkG K C f Q x H1) : tMkV C (sp_init K f) [] (tCons te (tNil)) σ H Q := h
theorem mk_of {x : V} (o : OexC K C) (n : PySem.W.findIn K (.ref C) f = some none) (k : ∀ a H', Same H H' → FldE H' a C f x → Q (.ref a) H') : MkG K C f Q x H := by
  refine ⟨by show 1 ≤ 1000; decide, fun a ha => ⟨a, C, x, rfl, upd_same, o, n, fun d hd nd => ⟨rfl, k a _ (same_mut ((sm_new ha).trans (sm_new hd)) ha) ⟨d, upd_same, ?_⟩⟩⟩⟩
  rw [upd_ne nd]
  exact upd_same
/-- the rest of C("x"), an error without a maker of its own -/
def MkP0 (C : Addr) (Q : VK) (H1 : Hp) : Prop := ∀ a, H1 a = none → Q (.ref a) (upd H1 a (ExO (.ref C) a))
theorem mk_of0 (k : ∀ a H', Same H H' → HasE H' a C → Q (.ref a) H') : MkP0 C Q H := fun a ha => k a _ (sm_new ha) (.inr upd_same)
/-- e.f -/
theorem r_xv {f : Str} (h : te σ H fun x H1 => ∃ (a C d : Addr) (fs : List (Str × V)) (v : V), x = .ref a ∧ XfC K C ∧ PySem.W.findIn K (.ref C) f = some none ∧ H1 a = some (exo a C (some d)) ∧ H1 d = some (exd d fs) ∧ fs.lookup f = some v ∧ Q v H1) : tXv K f te σ H Q := h
theorem r_neB {i j : Bool} (h : Q (.bl (!decide (i = j))) H) : rNe (.bl i) (.bl j) H Q := by
  refine ⟨rfl, ?_⟩
  have e : decide (V.bl i = V.bl j) = decide (i = j) := by
    by_cases q : i = j
    · subst q; simp
    · rw [decide_eq_false q, decide_eq_false fun z => q (V.bl.inj z)]
  rw [e]
  exact h
theorem BoxAt.same {p r : Addr} {zs : List Int} {n : Int} (k : Same H H') (h : BoxAt H p r zs n) : BoxAt H' p r zs n := by
  obtain ⟨⟨i, h1, h2, h3⟩, h4, h5, h6⟩ := h
  exact ⟨⟨i, k _ _ h1, h2, h3⟩, k _ _ h4, h5, h6⟩
theorem dpa_bools (f : Nat → Bool) : ∀ l : List Nat, DpAll K H (l.map fun j => V.bl (f j)) (l.map fun j => PyData.bool (f j))
  | [] => .nil
  | a :: l => .cons (.bl _) (dpa_bools f l)
def bitsD (i : Nat) : PyData := .list ((List.range 12).map fun j => PyData.bool (decide (i = j)))
theorem dp_bits {p : Addr} {i : Nat} (h : H p = some (.lst (bits i))) : Dp K H (.ref p) (bitsD i) := .lst (SqL.of h) (dpa_bools (fun j => decide (i = j)) (List.range 12))
theorem r_neD_same {x y : V} {d : PyData} (h1 : Dp K H x d) (h2 : Dp K H y d) (s : SeqAt.shaped d = true) (c : d.canLay0 = true) (k : Q (.bl false) H) : rNeD K x y H Q :=
  ⟨d, d, h1, h2, s, s, by rw [SeqAt.eqv_refl _ c]; exact k⟩
theorem shaped_cost (num : Int) : SeqAt.shaped (.tuple [.str "cost", .int 0, .int num]) = true := by
  have h : (PyData.tuple [.str "cost", .int 0, .int num]).canLay0 = ((PyData.str "cost").canLay0 && (true && (true && true))) := rfl
  have h2 : (PyData.str "cost").canLay0 = true := by decide +kernel
  have h3 : (PyData.tuple [.str "cost", .int 0, .int num]).depth = (PyData.tuple [.str "cost", .int 0, .int 0]).depth := rfl
  have h4 : (PyData.tuple [.str "cost", .int 0, .int 0]).depth ≤ 64 := by decide +kernel
  unfold SeqAt.shaped
  rw [h, h2, h3, decide_eq_true h4]
  rfl
theorem r_neD_eq {x y : V} {d : PyData} (h1 : Dp K H x d) (h2 : Dp K H y d) (s : SeqAt.shaped d = true) (c : PyData.eqv d d = true) (k : Q (.bl false) H) : rNeD K x y H Q :=
  ⟨d, d, h1, h2, s, s, by rw [c]; exact k⟩
theorem pickV {q : Addr} {xs : List V} {r : Int} (P : V → Prop) (h : H q = some (.lst xs)) (h0 : 0 ≤ r) (h1 : r < (xs.length : Int)) (hP : ∀ v ∈ xs, P v) :
    ∃ v, P v ∧ ∀ (Q : VK), Q v H → rIxL K (.ref q) (.int r) H Q := by
  obtain ⟨j, rfl⟩ : ∃ j : Nat, r = (j : Int) := ⟨r.toNat, by omega⟩
  have hj : j < xs.length := by omega
  exact ⟨xs[j], hP _ (List.getElem_mem hj), fun Q k => r_ixL (SqL.of h) (at_of (j := j) rfl (List.getElem?_eq_getElem hj)) k⟩
end
def sp_law (K : PySem.W.Frag) : Sp := fun vs H Q _ => ∃ (a : Addr) (ns : List Int), vs = [.ref a] ∧ SqL K H a (ns.map V.int) ∧ ns.length ≤ 63 ∧ ∀ H', Q (.bl true) H'
theorem sc_law : FnScope ["script", "box", "number", "name", "made", "k", "j"] ["script"] (defScope s_law) := ⟨rfl, rfl, rfl, by decide +kernel, rfl, by decide +kernel, by decide +kernel⟩
set_option maxHeartbeats 4000000 in
theorem ok_law {P : Program} {w : World} {K : PySem.W.Frag} {mg : Str → Option Value} {base : Heap} (T : Env K mg) : FnOk P w K mg base CX0 3 T.a_law T.d_law ["script"] (sp_law K) := by
  refine T.F_law.ok sc_law (fun vs H Q E h => ?_) (fun cdv A outer s H vs Q E hr h => ?_)
  · obtain ⟨a, ns, rfl, _⟩ := h
    rfl
  · obtain ⟨a, ns, rfl, hS, hlen, k⟩ := h
    have G_l_box := ok_l_box (P := P) (w := w) (base := base) T
    have hr_l_box : Room 2 _ := hr.mono (by decide)
    have G_l_next := ok_l_next (P := P) (w := w) (base := base) T
    have hr_l_next : Room 1 _ := hr.mono (by decide)
    have G_l_kinds := ok_l_kinds (P := P) (w := w) (base := base) T
    have hr_l_kinds : Room 1 _ := hr.mono (by decide)
    refine ⟨_, (pss_cons (ps_set (i := 1) sc_law.nd rfl (Or.inl rfl) (pe_call G_l_box hr_l_box (by rfl) T.g_l_box T.F_l_box.kp T.b_l_box .nil pass0 (pa_cons (pv 0) pa_nil)))
      (pss_cons (ps_set (i := 2) sc_law.nd rfl (Or.inl rfl) (pe_call G_l_next hr_l_next (by rfl) T.g_l_next T.F_l_next.kp T.b_l_next .nil pass0 (pa_cons (pv 1) (pa_cons pe_int pa_nil))))
      (pss_cons (ps_set (i := 3) sc_law.nd rfl (Or.inl rfl) (pe_ix ix_list (pe_lst (pa_cons pe_str (pa_cons pe_str (pa_cons pe_str pa_nil)))) (pe_call G_l_next hr_l_next (by rfl) T.g_l_next T.F_l_next.kp T.b_l_next .nil pass0 (pa_cons (pv 1) (pa_cons pe_int pa_nil))) (fun _ _ => rfl)))
      (pss_cons (ps_set (i := 4) sc_law.nd rfl (Or.inl rfl) (pe_lst (pa_cons (pe_exc1 F.excBase_ValueError T.e_InvalidRatio T.g_InvalidRatio T.k_InvalidRatio (by rfl) pe_str) (pa_cons (pe_mkV T.o_InvalidLine T.i_InvalidLine T.t_InvalidLine (iok_InvalidLine (P := P) (w := w) (base := base) T) (hr.mono (by decide)) T.b_InvalidLine .nil pass0 (by rfl) T.g_InvalidLine (pa_cons (pv 2) pa_nil)) (pa_cons (pe_mkV T.o_InvalidSystem T.i_InvalidSystem T.t_InvalidSystem (iok_InvalidSystem (P := P) (w := w) (base := base) T) (hr.mono (by decide)) T.b_InvalidSystem .nil pass0 (by rfl) T.g_InvalidSystem (pa_cons (pe_tup (pa_cons pe_str (pa_cons pe_int (pa_cons (pv 2) pa_nil)))) pa_nil)) (pa_cons (pe_mkV T.o_InvalidWord T.i_InvalidWord T.t_InvalidWord (iok_InvalidWord (P := P) (w := w) (base := base) T) (hr.mono (by decide)) T.b_InvalidWord .nil pass0 (by rfl) T.g_InvalidWord (pa_cons (pv 2) pa_nil)) pa_nil))))))
      (pss_cons (ps_set (i := 4) sc_law.nd rfl (Or.inl rfl) (pe_op op_cat (pv 4) (pe_lst (pa_cons (pe_exc1 F.excBase_ValueError T.e_SentenceTooLarge T.g_SentenceTooLarge T.k_SentenceTooLarge (by rfl) pe_str) (pa_cons (pe_exc1 F.excBase_ValueError T.e_WeightTooGreat T.g_WeightTooGreat T.k_WeightTooGreat (by rfl) pe_str) (pa_cons (pe_mkV T.o_NoSuchState T.i_NoSuchState T.t_NoSuchState (iok_NoSuchState (P := P) (w := w) (base := base) T) (hr.mono (by decide)) T.b_NoSuchState .nil pass0 (by rfl) T.g_NoSuchState (pa_cons (pv 2) pa_nil)) (pa_cons (pe_mkV T.o_NoSuchChoice T.i_NoSuchChoice T.t_NoSuchChoice (iok_NoSuchChoice (P := P) (w := w) (base := base) T) (hr.mono (by decide)) T.b_NoSuchChoice .nil pass0 (by rfl) T.g_NoSuchChoice (pa_cons (pv 2) pa_nil)) pa_nil)))))))
      (pss_cons (ps_set (i := 4) sc_law.nd rfl (Or.inl rfl) (pe_op op_cat (pv 4) (pe_lst (pa_cons (pe_exc1 F.excBase_ValueError T.e_TooManyChanges T.g_TooManyChanges T.k_TooManyChanges (by rfl) pe_str) (pa_cons (pe_mkV T.o_InvalidName T.i_InvalidName T.t_InvalidName (iok_InvalidName (P := P) (w := w) (base := base) T) (hr.mono (by decide)) T.b_InvalidName .nil pass0 (by rfl) T.g_InvalidName (pa_cons (pv 3) pa_nil)) (pa_cons (pe_exc1 F.excBase_ValueError T.e_TooManyWishes T.g_TooManyWishes T.k_TooManyWishes (by rfl) pe_str) (pa_cons (pe_mkV T.o_UnknownName T.i_UnknownName T.t_UnknownName (iok_UnknownName (P := P) (w := w) (base := base) T) (hr.mono (by decide)) T.b_UnknownName .nil pass0 (by rfl) T.g_UnknownName (pa_cons (pv 3) pa_nil)) pa_nil)))))))
      (pss_cons (ps_for PassesOwn.never rfl (pi_range1 (by rfl) T.z_range (pa_cons pe_int pa_nil)) (pg_name (i := 5) sc_law.nd rfl (Or.inr rfl)) (pss_cons (ps_if (pt_cmpR (op_neD hr.units) (pe_call G_l_kinds hr_l_kinds (by rfl) T.g_l_kinds T.F_l_kinds.kp T.b_l_kinds .nil pass0 (pa_cons (pe_ix ix_list (pv 4) (pv 5) (fun _ _ => rfl)) pa_nil)) (pe_lc (own := [("j", 6)]) (g := gName 6) (by rfl) sc_law.nd (pi_range1 (by rfl) T.z_range (pa_cons pe_int pa_nil)) (blkOk_by (own := [("j", 6)]) (N := ["script", "box", "number", "name", "made", "k", "j"]) (sc := defScope s_law) (by decide +kernel)) (fun _ _ _ _ _ => (pg_name (i := 6) sc_law.nd rfl (Or.inl rfl))) (fun _ _ _ _ _ => pts_nil) (fun _ _ _ _ _ => (pe_cmpR op_eq (pv 6) (pv 5) (nomark _)))) (nomark _)) (pss_one (ps_ret pe_bl)) pss_nil)
      (pss_cons (ps_if (PW.pt (pw_or (pt_not (pt_val (pe_callB call_isV (by rfl) T.z_isinstance (by decide +kernel) (pa_cons (pe_ix ix_list (pv 4) (pv 5) (fun _ _ => rfl)) (pa_cons (pe_glob (v := .ref T.c_BestoddsError) (by rfl) T.g_BestoddsError rfl) pa_nil))))) (pw_or1 (pt_not (pt_val (pe_callB call_isV (by rfl) T.z_isinstance (by decide +kernel) (pa_cons (pe_ix ix_list (pv 4) (pv 5) (fun _ _ => rfl)) (pa_cons (pe_bltn (v := .ty "ValueError") (by rfl) T.z_ValueError (by decide +kernel) rfl) pa_nil)))))))) (pss_one (ps_ret pe_bl)) pss_nil)
      (pss_one (ps_if (pt_cmpR op_ne (pe_callB call_isV (by rfl) T.z_isinstance (by decide +kernel) (pa_cons (pe_ix ix_list (pv 4) (pv 5) (fun _ _ => rfl)) (pa_cons (pe_glob (v := .ref T.c_BenchError) (by rfl) T.g_BenchError rfl) pa_nil))) (pe_cmpR op_ge (pv 5) pe_int (nomark _)) (nomark _)) (pss_one (ps_ret pe_bl)) pss_nil)))))
      (pss_cons (ps_if (PW.pt (pw_or (pt_cmpR op_ne (pe_xv (pe_ix ix_list (pv 4) pe_int (fun _ _ => rfl))) (pv 2) (nomark _)) (pw_or (pt_cmpR (op_neD hr.units) (pe_xv (pe_ix ix_list (pv 4) pe_int (fun _ _ => rfl))) (pe_tup (pa_cons pe_str (pa_cons pe_int (pa_cons (pv 2) pa_nil)))) (nomark _)) (pw_or1 (pt_cmpR op_ne (pe_xv (pe_ix ix_list (pv 4) pe_int (fun _ _ => rfl))) (pv 2) (nomark _)))))) (pss_one (ps_ret pe_bl)) pss_nil)
      (pss_cons (ps_if (PW.pt (pw_or (pt_cmpR op_ne (pe_xv (pe_ix ix_list (pv 4) pe_int (fun _ _ => rfl))) (pv 2) (nomark _)) (pw_or1 (pt_cmpR op_ne (pe_xv (pe_ix ix_list (pv 4) pe_int (fun _ _ => rfl))) (pv 2) (nomark _))))) (pss_one (ps_ret pe_bl)) pss_nil)
      (pss_one (ps_ret (pe_and (pe_cmpR op_eq (pe_xv (pe_ix ix_list (pv 4) pe_int (fun _ _ => rfl))) (pv 3) (nomark _)) (pe_one (pe_cmpR op_eq (pe_xv (pe_ix ix_list (pv 4) pe_int (fun _ _ => rfl))) (pv 3) (nomark _))))))))))))))), ?_⟩
    walk_at "rd"
    refine ⟨a, ns, rfl, hS, hlen, fun p r zs H1 s1 B0 => ?_⟩
    walk_at "rd"
    refine ⟨p, r, zs, 0, 300, rfl, B0, by decide, by decide, by decide, fun num H2 n0 n1 B1 e1 => ?_⟩
    walk_at "rd"
    refine ⟨(by show 3 ≤ sizeLine; decide), fun L hL => ?_⟩
    walk_at "rd"
    refine ⟨p, r, zs, _, 3, rfl, B1.same (sm_new hL), by decide, by decide, by decide, fun j3 H3 j0 j1 B2 e2 => ?_⟩
    have nLp : L ≠ p := by
      obtain ⟨i, hb, _⟩ := B1.box
      exact (ne_of_none hb hL).symm
    obtain ⟨vn, ⟨nm, rfl⟩, hpick⟩ := pickV (K := K) (H := H3) (r := j3) (fun v => ∃ x, v = V.str x) ((e2 L nLp).trans upd_same) j0 (by show j3 < 3; exact j1) fun v hv => by
      rcases List.mem_cons.mp hv with rfl | hv
      · exact ⟨_, rfl⟩
      rcases List.mem_cons.mp hv with rfl | hv
      · exact ⟨_, rfl⟩
      · rw [List.mem_singleton.mp hv]
        exact ⟨_, rfl⟩
    refine hpick _ ?_
    walk_at "rd"
    intro a0 h0
    have c0 := sm_new h0 (o := ExO (.ref T.c_InvalidRatio) a0)
    have e0 : HasE (upd H3 a0 (ExO (.ref T.c_InvalidRatio) a0)) a0 T.c_InvalidRatio := .inr upd_same
    generalize upd H3 a0 (ExO (.ref T.c_InvalidRatio) a0) = G0 at c0 e0 ⊢
    walk_at "rd"
    refine r_mk0 ?_
    walk_at "rd"
    refine mk_of T.o_InvalidLine T.n_InvalidLine fun a1 G1 c1 e1 => ?_
    walk_at "rd"
    refine r_mk0 ?_
    walk_at "rd"
    refine ⟨(by show 3 ≤ sizeLine; decide), fun q0 hq0 => ?_⟩
    have cq := sm_new hq0 (o := .tup [.str "cost", .int 0, .int num])
    have eq0 : (upd G1 q0 (.tup [.str "cost", .int 0, .int num])) q0 = some (.tup [.str "cost", .int 0, .int num]) := upd_same
    generalize upd G1 q0 (.tup [.str "cost", .int 0, .int num]) = Gq at cq eq0 ⊢
    refine mk_of T.o_InvalidSystem T.n_InvalidSystem fun a2 G2 c2 e2 => ?_
    walk_at "rd"
    refine r_mk0 ?_
    walk_at "rd"
    refine mk_of T.o_InvalidWord T.n_InvalidWord fun a3 G3 c3 e3 => ?_
    walk_at "rd"
    refine ⟨(by show 4 ≤ sizeLine; decide), fun m0 hm0 => ?_⟩
    have d0 := sm_new hm0 (o := .lst [.ref a0, .ref a1, .ref a2, .ref a3])
    have l0 : (upd G3 m0 (.lst [.ref a0, .ref a1, .ref a2, .ref a3])) m0 = some (.lst [.ref a0, .ref a1, .ref a2, .ref a3]) := upd_same
    generalize upd G3 m0 (.lst [.ref a0, .ref a1, .ref a2, .ref a3]) = M0 at d0 l0 ⊢
    walk_at "rd"
    intro a4 h4
    have c4 := sm_new h4 (o := ExO (.ref T.c_SentenceTooLarge) a4)
    have e4 : HasE (upd M0 a4 (ExO (.ref T.c_SentenceTooLarge) a4)) a4 T.c_SentenceTooLarge := .inr upd_same
    generalize upd M0 a4 (ExO (.ref T.c_SentenceTooLarge) a4) = G4 at c4 e4 ⊢
    walk_at "rd"
    intro a5 h5
    have c5 := sm_new h5 (o := ExO (.ref T.c_WeightTooGreat) a5)
    have e5 : HasE (upd G4 a5 (ExO (.ref T.c_WeightTooGreat) a5)) a5 T.c_WeightTooGreat := .inr upd_same
    generalize upd G4 a5 (ExO (.ref T.c_WeightTooGreat) a5) = G5 at c5 e5 ⊢
    walk_at "rd"
    refine r_mk0 ?_
    walk_at "rd"
    refine mk_of T.o_NoSuchState T.n_NoSuchState fun a6 G6 c6 e6 => ?_
    walk_at "rd"
    refine r_mk0 ?_
    walk_at "rd"
    refine mk_of T.o_NoSuchChoice T.n_NoSuchChoice fun a7 G7 c7 e7 => ?_
    walk_at "rd"
    refine ⟨(by show 4 ≤ sizeLine; decide), fun m1 hm1 => ?_⟩
    have d1 := sm_new hm1 (o := .lst [.ref a4, .ref a5, .ref a6, .ref a7])
    have l1 : (upd G7 m1 (.lst [.ref a4, .ref a5, .ref a6, .ref a7])) m1 = some (.lst [.ref a4, .ref a5, .ref a6, .ref a7]) := upd_same
    generalize upd G7 m1 (.lst [.ref a4, .ref a5, .ref a6, .ref a7]) = M1 at d1 l1 ⊢
    refine ⟨m0, m1, _, _, rfl, rfl, (c4.trans (c5.trans (c6.trans (c7.trans (d1))))) _ _ l0, l1, (by show 8 ≤ sizeLine; decide), fun n1 hn1 => ?_⟩
    have dn1 := sm_new hn1 (o := .lst [.ref a0, .ref a1, .ref a2, .ref a3, .ref a4, .ref a5, .ref a6, .ref a7])
    have ln1 : (upd M1 n1 (.lst [.ref a0, .ref a1, .ref a2, .ref a3, .ref a4, .ref a5, .ref a6, .ref a7])) n1 = some (.lst [.ref a0, .ref a1, .ref a2, .ref a3, .ref a4, .ref a5, .ref a6, .ref a7]) := upd_same
    generalize eN1 : upd M1 n1 (.lst [.ref a0, .ref a1, .ref a2, .ref a3, .ref a4, .ref a5, .ref a6, .ref a7]) = N1 at dn1 ln1
    rw [show (([.ref a0, .ref a1, .ref a2, .ref a3] : List V) ++ [.ref a4, .ref a5, .ref a6, .ref a7]) = [.ref a0, .ref a1, .ref a2, .ref a3, .ref a4, .ref a5, .ref a6, .ref a7] from rfl, eN1]
    walk_at "rd"
    intro a8 h8
    have c8 := sm_new h8 (o := ExO (.ref T.c_TooManyChanges) a8)
    have e8 : HasE (upd N1 a8 (ExO (.ref T.c_TooManyChanges) a8)) a8 T.c_TooManyChanges := .inr upd_same
    generalize upd N1 a8 (ExO (.ref T.c_TooManyChanges) a8) = G8 at c8 e8 ⊢
    walk_at "rd"
    refine r_mk0 ?_
    walk_at "rd"
    refine mk_of T.o_InvalidName T.n_InvalidName fun a9 G9 c9 e9 => ?_
    walk_at "rd"
    intro a10 h10
    have c10 := sm_new h10 (o := ExO (.ref T.c_TooManyWishes) a10)
    have e10 : HasE (upd G9 a10 (ExO (.ref T.c_TooManyWishes) a10)) a10 T.c_TooManyWishes := .inr upd_same
    generalize upd G9 a10 (ExO (.ref T.c_TooManyWishes) a10) = G10 at c10 e10 ⊢
    walk_at "rd"
    refine r_mk0 ?_
    walk_at "rd"
    refine mk_of T.o_UnknownName T.n_UnknownName fun a11 G11 c11 e11 => ?_
    walk_at "rd"
    refine ⟨(by show 4 ≤ sizeLine; decide), fun m2 hm2 => ?_⟩
    have d2 := sm_new hm2 (o := .lst [.ref a8, .ref a9, .ref a10, .ref a11])
    have l2 : (upd G11 m2 (.lst [.ref a8, .ref a9, .ref a10, .ref a11])) m2 = some (.lst [.ref a8, .ref a9, .ref a10, .ref a11]) := upd_same
    generalize upd G11 m2 (.lst [.ref a8, .ref a9, .ref a10, .ref a11]) = M2 at d2 l2 ⊢
    refine ⟨n1, m2, _, _, rfl, rfl, (c8.trans (c9.trans (c10.trans (c11.trans (d2))))) _ _ ln1, l2, (by show 12 ≤ sizeLine; decide), fun n2 hn2 => ?_⟩
    have dn2 := sm_new hn2 (o := .lst [.ref a0, .ref a1, .ref a2, .ref a3, .ref a4, .ref a5, .ref a6, .ref a7, .ref a8, .ref a9, .ref a10, .ref a11])
    have ln2 : (upd M2 n2 (.lst [.ref a0, .ref a1, .ref a2, .ref a3, .ref a4, .ref a5, .ref a6, .ref a7, .ref a8, .ref a9, .ref a10, .ref a11])) n2 = some (.lst [.ref a0, .ref a1, .ref a2, .ref a3, .ref a4, .ref a5, .ref a6, .ref a7, .ref a8, .ref a9, .ref a10, .ref a11]) := upd_same
    generalize eN2 : upd M2 n2 (.lst [.ref a0, .ref a1, .ref a2, .ref a3, .ref a4, .ref a5, .ref a6, .ref a7, .ref a8, .ref a9, .ref a10, .ref a11]) = N2 at dn2 ln2
    rw [show (([.ref a0, .ref a1, .ref a2, .ref a3, .ref a4, .ref a5, .ref a6, .ref a7] : List V) ++ [.ref a8, .ref a9, .ref a10, .ref a11]) = [.ref a0, .ref a1, .ref a2, .ref a3, .ref a4, .ref a5, .ref a6, .ref a7, .ref a8, .ref a9, .ref a10, .ref a11] from rfl, eN2]
    walk_at "rd"
    replace e0 := e0.same (c1.trans (cq.trans (c2.trans (c3.trans (d0.trans (c4.trans (c5.trans (c6.trans (c7.trans (d1.trans (dn1.trans (c8.trans (c9.trans (c10.trans (c11.trans (d2.trans (dn2)))))))))))))))))
    replace e1 := e1.same (cq.trans (c2.trans (c3.trans (d0.trans (c4.trans (c5.trans (c6.trans (c7.trans (d1.trans (dn1.trans (c8.trans (c9.trans (c10.trans (c11.trans (d2.trans (dn2))))))))))))))))
    replace e2 := e2.same (c3.trans (d0.trans (c4.trans (c5.trans (c6.trans (c7.trans (d1.trans (dn1.trans (c8.trans (c9.trans (c10.trans (c11.trans (d2.trans (dn2))))))))))))))
    replace e3 := e3.same (d0.trans (c4.trans (c5.trans (c6.trans (c7.trans (d1.trans (dn1.trans (c8.trans (c9.trans (c10.trans (c11.trans (d2.trans (dn2)))))))))))))
    replace e4 := e4.same (c5.trans (c6.trans (c7.trans (d1.trans (dn1.trans (c8.trans (c9.trans (c10.trans (c11.trans (d2.trans (dn2)))))))))))
    replace e5 := e5.same (c6.trans (c7.trans (d1.trans (dn1.trans (c8.trans (c9.trans (c10.trans (c11.trans (d2.trans (dn2))))))))))
    replace e6 := e6.same (c7.trans (d1.trans (dn1.trans (c8.trans (c9.trans (c10.trans (c11.trans (d2.trans (dn2)))))))))
    replace e7 := e7.same (d1.trans (dn1.trans (c8.trans (c9.trans (c10.trans (c11.trans (d2.trans (dn2))))))))
    replace e8 := e8.same (c9.trans (c10.trans (c11.trans (d2.trans (dn2)))))
    replace e9 := e9.same (c10.trans (c11.trans (d2.trans (dn2))))
    replace e10 := e10.same (c11.trans (d2.trans (dn2)))
    replace e11 := e11.same (d2.trans (dn2))
    replace eq0 := (c2.trans (c3.trans (d0.trans (c4.trans (c5.trans (c6.trans (c7.trans (d1.trans (dn1.trans (c8.trans (c9.trans (c10.trans (c11.trans (d2.trans (dn2))))))))))))))) _ _ eq0
    have all : ∀ i, i < 12 → ∃ x, ([.ref a0, .ref a1, .ref a2, .ref a3, .ref a4, .ref a5, .ref a6, .ref a7, .ref a8, .ref a9, .ref a10, .ref a11] : List V)[i]? = some (.ref x) ∧ HasE N2 x (T.cs.getD i 0) := fun i hi => match i, hi with
      | 0, _ => ⟨a0, rfl, e0⟩
      | 1, _ => ⟨a1, rfl, e1.has⟩
      | 2, _ => ⟨a2, rfl, e2.has⟩
      | 3, _ => ⟨a3, rfl, e3.has⟩
      | 4, _ => ⟨a4, rfl, e4⟩
      | 5, _ => ⟨a5, rfl, e5⟩
      | 6, _ => ⟨a6, rfl, e6.has⟩
      | 7, _ => ⟨a7, rfl, e7.has⟩
      | 8, _ => ⟨a8, rfl, e8⟩
      | 9, _ => ⟨a9, rfl, e9.has⟩
      | 10, _ => ⟨a10, rfl, e10⟩
      | 11, _ => ⟨a11, rfl, e11.has⟩
      | i + 12, h => absurd h (by omega)
    refine for_range (n := Int.toNat 12) (fun i σ H' => ∃ (x5 x6 : Option V), σ = [some (.ref a), some (.ref p), some (.int num), some (.str nm), some (.ref n2), x5, x6] ∧ Same N2 H') ⟨_, _, rfl, Same.refl _⟩ ?_ ?_
    · rintro i σ H' hi ⟨x5, x6, rfl, sN⟩
      have hi12 : i < 12 := hi
      obtain ⟨x, hx, hE⟩ := all i hi12
      replace hE := hE.same sN
      have Y := kit_of_all T.kits hi12
      have hl := sN _ _ ln2
      have at1 : atI ([.ref a0, .ref a1, .ref a2, .ref a3, .ref a4, .ref a5, .ref a6, .ref a7, .ref a8, .ref a9, .ref a10, .ref a11] : List V) (0 + (i : Int)) = some (.ref x) := at_of (j := i) (by omega) hx
      walk_at "rd"
      refine r_ixL (SqL.of hl) at1 ?_
      walk_at "rd"
      refine ⟨x, i, rfl, hi12, hE, fun q Hq sq hq => ?_⟩
      walk_at "rd"
      unfold tLc
      walk_at "rd"
      intro D hD
      refine lc_range (lo := 0) (n := Int.toNat 12) (fun j Hj => Same Hq Hj ∧ Hj D = some (.lst ((List.range j).map fun m => V.bl (decide (i = m))))) ⟨sm_new hD, upd_same⟩ ?_ ?_
      · rintro j Hj hj ⟨sj, hL⟩
        have hj12 : j < 12 := hj
        walk_at "rd"
        refine ⟨rfl, ?_⟩
        refine r_yes ?_
        walk_at "rd"
        refine ⟨_, hL, (by rw [List.length_map, List.length_range]; exact Nat.lt_of_lt_of_le hj12 (by decide)), same_mut sj hD, ?_⟩
        rw [upd_same, List.range_succ, List.map_append]
        have e : decide ((0 + (j : Int)) = 0 + (i : Int)) = decide (i = j) := decide_eq_decide.mpr (by omega)
        rw [e]
        rfl
      · rintro Hj ⟨sj, hL⟩
        walk_at "rd"
        refine r_neD_same (d := bitsD i) (dp_bits (sj _ _ hq)) (dp_bits hL) rfl rfl ?_
        have sqj := sq.trans sj
        replace hE := hE.same sqj
        replace hl := sqj _ _ hl
        walk_at "rd"
        refine r_ixL (SqL.of hl) at1 ?_
        walk_at "rd"
        refine ⟨x, _, _, _, _, rfl, hE, Y.c, fun u h => h, Y.all, ?_⟩
        walk_at "rd"
        refine r_ixL (SqL.of hl) at1 ?_
        walk_at "rd"
        refine ⟨x, _, _, _, _, rfl, hE, Y.c, fun u h => h, Y.val, ?_⟩
        walk_at "rd"
        refine r_ixL (SqL.of hl) at1 ?_
        walk_at "rd"
        refine ⟨x, _, _, _, _, rfl, hE, Y.c, fun u h => h, Y.ben, ?_⟩
        walk_at "rd"
        refine r_neB ?_
        have e : decide (decide (6 ≤ i) = decide ((6 : Int) ≤ 0 + (i : Int))) = true := decide_eq_true (decide_eq_decide.mpr (by omega))
        rw [e]
        walk_at "rd"
        exact ⟨_, _, rfl, sN.trans sqj⟩
    · rintro σ H' ⟨x5, x6, rfl, sN⟩
      walk_at "rd"
      refine r_xv ?_
      walk_at "rd"
      refine r_ixL (SqL.of (sN _ _ ln2)) (v := .ref a1) rfl ?_
      obtain ⟨d1', x1, y1⟩ := e1.same (sN)
      refine ⟨a1, _, d1', _, _, rfl, (kit_of_all T.kits (i := 1) (by decide)).x, T.n_InvalidLine, x1, y1, rfl, ?_⟩
      walk_at "rd"
      refine r_ifN (fun c => absurd rfl c) (fun _ => ?_)
      walk_at "rd"
      refine r_xv ?_
      walk_at "rd"
      refine r_ixL (SqL.of (sN _ _ ln2)) (v := .ref a2) rfl ?_
      obtain ⟨d2', x2, y2⟩ := e2.same (sN)
      refine ⟨a2, _, d2', _, _, rfl, (kit_of_all T.kits (i := 2) (by decide)).x, T.n_InvalidSystem, x2, y2, rfl, ?_⟩
      walk_at "rd"
      refine ⟨(by show 3 ≤ sizeLine; decide), fun z hz => ?_⟩
      have sz := sN.trans (sm_new hz (o := .tup [.str "cost", .int 0, .int num]))
      refine r_neD_eq (d := .tuple [.str "cost", .int 0, .int num]) (.tup (SqT.of (sz _ _ eq0)) (.cons (.str _) (.cons (.int _) (.cons (.int _) .nil)))) (.tup (SqT.of upd_same) (.cons (.str _) (.cons (.int _) (.cons (.int _) .nil)))) (shaped_cost num) (by simp [PyData.eqv, PyData.eqvAll]) ?_
      walk_at "rd"
      refine r_xv ?_
      walk_at "rd"
      refine r_ixL (SqL.of (sz _ _ ln2)) (v := .ref a3) rfl ?_
      obtain ⟨d3', x3, y3⟩ := e3.same (sz)
      refine ⟨a3, _, d3', _, _, rfl, (kit_of_all T.kits (i := 3) (by decide)).x, T.n_InvalidWord, x3, y3, rfl, ?_⟩
      walk_at "rd"
      refine r_ifN (fun c => absurd rfl c) (fun _ => ?_)
      walk_at "rd"
      refine r_xv ?_
      walk_at "rd"
      refine r_ixL (SqL.of (sz _ _ ln2)) (v := .ref a6) rfl ?_
      obtain ⟨d6', x6, y6⟩ := e6.same (sz)
      refine ⟨a6, _, d6', _, _, rfl, (kit_of_all T.kits (i := 6) (by decide)).x, T.n_NoSuchState, x6, y6, rfl, ?_⟩
      walk_at "rd"
      refine r_ifN (fun c => absurd rfl c) (fun _ => ?_)
      walk_at "rd"
      refine r_xv ?_
      walk_at "rd"
      refine r_ixL (SqL.of (sz _ _ ln2)) (v := .ref a7) rfl ?_
      obtain ⟨d7', x7, y7⟩ := e7.same (sz)
      refine ⟨a7, _, d7', _, _, rfl, (kit_of_all T.kits (i := 7) (by decide)).x, T.n_NoSuchChoice, x7, y7, rfl, ?_⟩
      walk_at "rd"
      refine r_ifN (fun c => absurd rfl c) (fun _ => ?_)
      walk_at "rd"
      refine r_xv ?_
      walk_at "rd"
      refine r_ixL (SqL.of (sz _ _ ln2)) (v := .ref a9) rfl ?_
      obtain ⟨d9', x9, y9⟩ := e9.same (sz)
      refine ⟨a9, _, d9', _, _, rfl, (kit_of_all T.kits (i := 9) (by decide)).x, T.n_InvalidName, x9, y9, rfl, ?_⟩
      walk_at "rd"
      refine r_if (fun _ => ?_) (fun c => absurd rfl c)
      walk_at "rd"
      refine r_xv ?_
      walk_at "rd"
      refine r_ixL (SqL.of (sz _ _ ln2)) (v := .ref a11) rfl ?_
      obtain ⟨d11', x11, y11⟩ := e11.same (sz)
      refine ⟨a11, _, d11', _, _, rfl, (kit_of_all T.kits (i := 11) (by decide)).x, T.n_UnknownName, x11, y11, rfl, ?_⟩
      walk_at "rd"
      rw [decide_eq_true rfl]
      exact k _
theorem all_mk {l : PySem.W.OpenLaw} {w : World} {K : PySem.W.Frag} {h : Heap} {mg : Str → Option Value} {fa f0 f1 f2 f3 f4 : Addr} (X : K.In h) (G : h.Ns mainGlobals mg) (hfa : mg "law" = some (.ref fa))
    {od0 an0 : Option Addr} {sl0 : Array (Option Value)} {oc0 kV0 dc0 pm0 cd0 ct0 : Value}
    {od1 an1 : Option Addr} {sl1 : Array (Option Value)} {oc1 kV1 dc1 pm1 cd1 ct1 : Value}
    {od2 an2 : Option Addr} {sl2 : Array (Option Value)} {oc2 kV2 dc2 pm2 cd2 ct2 : Value}
    {od3 an3 : Option Addr} {sl3 : Array (Option Value)} {oc3 kV3 dc3 pm3 cd3 ct3 : Value}
    {od4 an4 : Option Addr} {sl4 : Array (Option Value)} {oc4 kV4 dc4 pm4 cd4 ct4 : Value}
    {c_BestoddsError : Addr} (ac_BestoddsError : PySem.W.nsIn K mainGlobals "BestoddsError" = some (some (.ref c_BestoddsError)))
    {c_InvalidRatio : Addr} (ac_InvalidRatio : PySem.W.nsIn K mainGlobals "InvalidRatio" = some (some (.ref c_InvalidRatio)))
    {c_InvalidLine : Addr} (ac_InvalidLine : PySem.W.nsIn K mainGlobals "InvalidLine" = some (some (.ref c_InvalidLine)))
    {c_InvalidSystem : Addr} (ac_InvalidSystem : PySem.W.nsIn K mainGlobals "InvalidSystem" = some (some (.ref c_InvalidSystem)))
    {c_InvalidWord : Addr} (ac_InvalidWord : PySem.W.nsIn K mainGlobals "InvalidWord" = some (some (.ref c_InvalidWord)))
    {c_SentenceTooLarge : Addr} (ac_SentenceTooLarge : PySem.W.nsIn K mainGlobals "SentenceTooLarge" = some (some (.ref c_SentenceTooLarge)))
    {c_WeightTooGreat : Addr} (ac_WeightTooGreat : PySem.W.nsIn K mainGlobals "WeightTooGreat" = some (some (.ref c_WeightTooGreat)))
    {c_BenchError : Addr} (ac_BenchError : PySem.W.nsIn K mainGlobals "BenchError" = some (some (.ref c_BenchError)))
    {c_NoSuchState : Addr} (ac_NoSuchState : PySem.W.nsIn K mainGlobals "NoSuchState" = some (some (.ref c_NoSuchState)))
    {c_NoSuchChoice : Addr} (ac_NoSuchChoice : PySem.W.nsIn K mainGlobals "NoSuchChoice" = some (some (.ref c_NoSuchChoice)))
    {c_TooManyChanges : Addr} (ac_TooManyChanges : PySem.W.nsIn K mainGlobals "TooManyChanges" = some (some (.ref c_TooManyChanges)))
    {c_InvalidName : Addr} (ac_InvalidName : PySem.W.nsIn K mainGlobals "InvalidName" = some (some (.ref c_InvalidName)))
    {c_TooManyWishes : Addr} (ac_TooManyWishes : PySem.W.nsIn K mainGlobals "TooManyWishes" = some (some (.ref c_TooManyWishes)))
    {c_UnknownName : Addr} (ac_UnknownName : PySem.W.nsIn K mainGlobals "UnknownName" = some (some (.ref c_UnknownName)))
    (e_BestoddsError : PySem.W.excIn K c_BestoddsError [.type "ValueError", .type "Exception", .type "BaseException", .type "object"] "ValueError.__new__" = true) (k_BestoddsError : PySem.W.keepIn K (.ref c_BestoddsError) = true)
    (e_InvalidRatio : PySem.W.excIn K c_InvalidRatio [.type "ValueError", .type "Exception", .type "BaseException", .type "object"] "ValueError.__new__" = true) (k_InvalidRatio : PySem.W.keepIn K (.ref c_InvalidRatio) = true)
    {nmInvalidLine qInvalidLine : Str} {NInvalidLine : Addr} {bsInvalidLine : List Value} {snInvalidLine : List Str} {subInvalidLine : List Value} {abInvalidLine : Bool} {colInvalidLine : Option Bool} {ddInvalidLine : Option Addr} {u0InvalidLine u1InvalidLine u2InvalidLine u3InvalidLine u5InvalidLine : Option Value} {f_InvalidLine : Addr} {odInvalidLine anInvalidLine : Option Addr} {slInvalidLine : Array (Option Value)} {ocInvalidLine kVInvalidLine dcInvalidLine pmInvalidLine cdInvalidLine ctInvalidLine : Value}
    (xl_InvalidLine : K.lookup c_InvalidLine = some (excClassObj nmInvalidLine qInvalidLine c_InvalidLine NInvalidLine bsInvalidLine [.ref c_BestoddsError, .type "ValueError", .type "Exception", .type "BaseException", .type "object"] true snInvalidLine subInvalidLine abInvalidLine colInvalidLine ddInvalidLine u0InvalidLine u1InvalidLine u2InvalidLine u3InvalidLine u5InvalidLine "ValueError.__new__"))
    (sa_InvalidLine : PySem.W.findIn K (.ref c_InvalidLine) "__setattr__" = some (some (.builtin "object.__setattr__"))) (ex_InvalidLine : PySem.W.subIn K (.ref c_InvalidLine) (.type "BaseException") = some true) (ty_InvalidLine : PySem.W.typeIn K (.ref c_InvalidLine) = some (.type "type")) (kc_InvalidLine : PySem.W.keepIn K (.ref c_InvalidLine) = true)
    (ai_InvalidLine : PySem.W.findIn K (.ref c_InvalidLine) "__init__" = some (some (.ref f_InvalidLine))) (ti_InvalidLine : PySem.W.typeIn K (.ref f_InvalidLine) = some (.type "function"))
    (li_InvalidLine : K.lookup f_InvalidLine = some ⟨ocInvalidLine, odInvalidLine, .func (PySem.W.fnOf "__init__" "InvalidLine.__init__" (defArgs s_InvalidLine) (defBody s_InvalidLine) (defScope s_InvalidLine) .none kVInvalidLine dcInvalidLine pmInvalidLine anInvalidLine cdInvalidLine ctInvalidLine), slInvalidLine⟩) (ci_InvalidLine : PySem.W.codeIn K cdInvalidLine "InvalidLine.__init__" = true) (ki_InvalidLine : PySem.W.keepIn K (.ref f_InvalidLine) = true) (fr_InvalidLine : PySem.W.findIn K (.ref c_InvalidLine) "number" = some none)
    {nmInvalidSystem qInvalidSystem : Str} {NInvalidSystem : Addr} {bsInvalidSystem : List Value} {snInvalidSystem : List Str} {subInvalidSystem : List Value} {abInvalidSystem : Bool} {colInvalidSystem : Option Bool} {ddInvalidSystem : Option Addr} {u0InvalidSystem u1InvalidSystem u2InvalidSystem u3InvalidSystem u5InvalidSystem : Option Value} {f_InvalidSystem : Addr} {odInvalidSystem anInvalidSystem : Option Addr} {slInvalidSystem : Array (Option Value)} {ocInvalidSystem kVInvalidSystem dcInvalidSystem pmInvalidSystem cdInvalidSystem ctInvalidSystem : Value}
    (xl_InvalidSystem : K.lookup c_InvalidSystem = some (excClassObj nmInvalidSystem qInvalidSystem c_InvalidSystem NInvalidSystem bsInvalidSystem [.ref c_BestoddsError, .type "ValueError", .type "Exception", .type "BaseException", .type "object"] true snInvalidSystem subInvalidSystem abInvalidSystem colInvalidSystem ddInvalidSystem u0InvalidSystem u1InvalidSystem u2InvalidSystem u3InvalidSystem u5InvalidSystem "ValueError.__new__"))
    (sa_InvalidSystem : PySem.W.findIn K (.ref c_InvalidSystem) "__setattr__" = some (some (.builtin "object.__setattr__"))) (ex_InvalidSystem : PySem.W.subIn K (.ref c_InvalidSystem) (.type "BaseException") = some true) (ty_InvalidSystem : PySem.W.typeIn K (.ref c_InvalidSystem) = some (.type "type")) (kc_InvalidSystem : PySem.W.keepIn K (.ref c_InvalidSystem) = true)
    (ai_InvalidSystem : PySem.W.findIn K (.ref c_InvalidSystem) "__init__" = some (some (.ref f_InvalidSystem))) (ti_InvalidSystem : PySem.W.typeIn K (.ref f_InvalidSystem) = some (.type "function"))
    (li_InvalidSystem : K.lookup f_InvalidSystem = some ⟨ocInvalidSystem, odInvalidSystem, .func (PySem.W.fnOf "__init__" "InvalidSystem.__init__" (defArgs s_InvalidSystem) (defBody s_InvalidSystem) (defScope s_InvalidSystem) .none kVInvalidSystem dcInvalidSystem pmInvalidSystem anInvalidSystem cdInvalidSystem ctInvalidSystem), slInvalidSystem⟩) (ci_InvalidSystem : PySem.W.codeIn K cdInvalidSystem "InvalidSystem.__init__" = true) (ki_InvalidSystem : PySem.W.keepIn K (.ref f_InvalidSystem) = true) (fr_InvalidSystem : PySem.W.findIn K (.ref c_InvalidSystem) "fault" = some none)
    {nmInvalidWord qInvalidWord : Str} {NInvalidWord : Addr} {bsInvalidWord : List Value} {snInvalidWord : List Str} {subInvalidWord : List Value} {abInvalidWord : Bool} {colInvalidWord : Option Bool} {ddInvalidWord : Option Addr} {u0InvalidWord u1InvalidWord u2InvalidWord u3InvalidWord u5InvalidWord : Option Value} {f_InvalidWord : Addr} {odInvalidWord anInvalidWord : Option Addr} {slInvalidWord : Array (Option Value)} {ocInvalidWord kVInvalidWord dcInvalidWord pmInvalidWord cdInvalidWord ctInvalidWord : Value}
    (xl_InvalidWord : K.lookup c_InvalidWord = some (excClassObj nmInvalidWord qInvalidWord c_InvalidWord NInvalidWord bsInvalidWord [.ref c_BestoddsError, .type "ValueError", .type "Exception", .type "BaseException", .type "object"] true snInvalidWord subInvalidWord abInvalidWord colInvalidWord ddInvalidWord u0InvalidWord u1InvalidWord u2InvalidWord u3InvalidWord u5InvalidWord "ValueError.__new__"))
    (sa_InvalidWord : PySem.W.findIn K (.ref c_InvalidWord) "__setattr__" = some (some (.builtin "object.__setattr__"))) (ex_InvalidWord : PySem.W.subIn K (.ref c_InvalidWord) (.type "BaseException") = some true) (ty_InvalidWord : PySem.W.typeIn K (.ref c_InvalidWord) = some (.type "type")) (kc_InvalidWord : PySem.W.keepIn K (.ref c_InvalidWord) = true)
    (ai_InvalidWord : PySem.W.findIn K (.ref c_InvalidWord) "__init__" = some (some (.ref f_InvalidWord))) (ti_InvalidWord : PySem.W.typeIn K (.ref f_InvalidWord) = some (.type "function"))
    (li_InvalidWord : K.lookup f_InvalidWord = some ⟨ocInvalidWord, odInvalidWord, .func (PySem.W.fnOf "__init__" "InvalidWord.__init__" (defArgs s_InvalidWord) (defBody s_InvalidWord) (defScope s_InvalidWord) .none kVInvalidWord dcInvalidWord pmInvalidWord anInvalidWord cdInvalidWord ctInvalidWord), slInvalidWord⟩) (ci_InvalidWord : PySem.W.codeIn K cdInvalidWord "InvalidWord.__init__" = true) (ki_InvalidWord : PySem.W.keepIn K (.ref f_InvalidWord) = true) (fr_InvalidWord : PySem.W.findIn K (.ref c_InvalidWord) "number" = some none)
    (e_SentenceTooLarge : PySem.W.excIn K c_SentenceTooLarge [.type "ValueError", .type "Exception", .type "BaseException", .type "object"] "ValueError.__new__" = true) (k_SentenceTooLarge : PySem.W.keepIn K (.ref c_SentenceTooLarge) = true)
    (e_WeightTooGreat : PySem.W.excIn K c_WeightTooGreat [.type "ValueError", .type "Exception", .type "BaseException", .type "object"] "ValueError.__new__" = true) (k_WeightTooGreat : PySem.W.keepIn K (.ref c_WeightTooGreat) = true)
    (e_BenchError : PySem.W.excIn K c_BenchError [.type "ValueError", .type "Exception", .type "BaseException", .type "object"] "ValueError.__new__" = true) (k_BenchError : PySem.W.keepIn K (.ref c_BenchError) = true)
    {nmNoSuchState qNoSuchState : Str} {NNoSuchState : Addr} {bsNoSuchState : List Value} {snNoSuchState : List Str} {subNoSuchState : List Value} {abNoSuchState : Bool} {colNoSuchState : Option Bool} {ddNoSuchState : Option Addr} {u0NoSuchState u1NoSuchState u2NoSuchState u3NoSuchState u5NoSuchState : Option Value} {f_NoSuchState : Addr} {odNoSuchState anNoSuchState : Option Addr} {slNoSuchState : Array (Option Value)} {ocNoSuchState kVNoSuchState dcNoSuchState pmNoSuchState cdNoSuchState ctNoSuchState : Value}
    (xl_NoSuchState : K.lookup c_NoSuchState = some (excClassObj nmNoSuchState qNoSuchState c_NoSuchState NNoSuchState bsNoSuchState [.ref c_BenchError, .ref c_BestoddsError, .type "ValueError", .type "Exception", .type "BaseException", .type "object"] true snNoSuchState subNoSuchState abNoSuchState colNoSuchState ddNoSuchState u0NoSuchState u1NoSuchState u2NoSuchState u3NoSuchState u5NoSuchState "ValueError.__new__"))
    (sa_NoSuchState : PySem.W.findIn K (.ref c_NoSuchState) "__setattr__" = some (some (.builtin "object.__setattr__"))) (ex_NoSuchState : PySem.W.subIn K (.ref c_NoSuchState) (.type "BaseException") = some true) (ty_NoSuchState : PySem.W.typeIn K (.ref c_NoSuchState) = some (.type "type")) (kc_NoSuchState : PySem.W.keepIn K (.ref c_NoSuchState) = true)
    (ai_NoSuchState : PySem.W.findIn K (.ref c_NoSuchState) "__init__" = some (some (.ref f_NoSuchState))) (ti_NoSuchState : PySem.W.typeIn K (.ref f_NoSuchState) = some (.type "function"))
    (li_NoSuchState : K.lookup f_NoSuchState = some ⟨ocNoSuchState, odNoSuchState, .func (PySem.W.fnOf "__init__" "NoSuchState.__init__" (defArgs s_NoSuchState) (defBody s_NoSuchState) (defScope s_NoSuchState) .none kVNoSuchState dcNoSuchState pmNoSuchState anNoSuchState cdNoSuchState ctNoSuchState), slNoSuchState⟩) (ci_NoSuchState : PySem.W.codeIn K cdNoSuchState "NoSuchState.__init__" = true) (ki_NoSuchState : PySem.W.keepIn K (.ref f_NoSuchState) = true) (fr_NoSuchState : PySem.W.findIn K (.ref c_NoSuchState) "state" = some none)
    {nmNoSuchChoice qNoSuchChoice : Str} {NNoSuchChoice : Addr} {bsNoSuchChoice : List Value} {snNoSuchChoice : List Str} {subNoSuchChoice : List Value} {abNoSuchChoice : Bool} {colNoSuchChoice : Option Bool} {ddNoSuchChoice : Option Addr} {u0NoSuchChoice u1NoSuchChoice u2NoSuchChoice u3NoSuchChoice u5NoSuchChoice : Option Value} {f_NoSuchChoice : Addr} {odNoSuchChoice anNoSuchChoice : Option Addr} {slNoSuchChoice : Array (Option Value)} {ocNoSuchChoice kVNoSuchChoice dcNoSuchChoice pmNoSuchChoice cdNoSuchChoice ctNoSuchChoice : Value}
    (xl_NoSuchChoice : K.lookup c_NoSuchChoice = some (excClassObj nmNoSuchChoice qNoSuchChoice c_NoSuchChoice NNoSuchChoice bsNoSuchChoice [.ref c_BenchError, .ref c_BestoddsError, .type "ValueError", .type "Exception", .type "BaseException", .type "object"] true snNoSuchChoice subNoSuchChoice abNoSuchChoice colNoSuchChoice ddNoSuchChoice u0NoSuchChoice u1NoSuchChoice u2NoSuchChoice u3NoSuchChoice u5NoSuchChoice "ValueError.__new__"))
    (sa_NoSuchChoice : PySem.W.findIn K (.ref c_NoSuchChoice) "__setattr__" = some (some (.builtin "object.__setattr__"))) (ex_NoSuchChoice : PySem.W.subIn K (.ref c_NoSuchChoice) (.type "BaseException") = some true) (ty_NoSuchChoice : PySem.W.typeIn K (.ref c_NoSuchChoice) = some (.type "type")) (kc_NoSuchChoice : PySem.W.keepIn K (.ref c_NoSuchChoice) = true)
    (ai_NoSuchChoice : PySem.W.findIn K (.ref c_NoSuchChoice) "__init__" = some (some (.ref f_NoSuchChoice))) (ti_NoSuchChoice : PySem.W.typeIn K (.ref f_NoSuchChoice) = some (.type "function"))
    (li_NoSuchChoice : K.lookup f_NoSuchChoice = some ⟨ocNoSuchChoice, odNoSuchChoice, .func (PySem.W.fnOf "__init__" "NoSuchChoice.__init__" (defArgs s_NoSuchChoice) (defBody s_NoSuchChoice) (defScope s_NoSuchChoice) .none kVNoSuchChoice dcNoSuchChoice pmNoSuchChoice anNoSuchChoice cdNoSuchChoice ctNoSuchChoice), slNoSuchChoice⟩) (ci_NoSuchChoice : PySem.W.codeIn K cdNoSuchChoice "NoSuchChoice.__init__" = true) (ki_NoSuchChoice : PySem.W.keepIn K (.ref f_NoSuchChoice) = true) (fr_NoSuchChoice : PySem.W.findIn K (.ref c_NoSuchChoice) "number" = some none)
    (e_TooManyChanges : PySem.W.excIn K c_TooManyChanges [.type "ValueError", .type "Exception", .type "BaseException", .type "object"] "ValueError.__new__" = true) (k_TooManyChanges : PySem.W.keepIn K (.ref c_TooManyChanges) = true)
    {nmInvalidName qInvalidName : Str} {NInvalidName : Addr} {bsInvalidName : List Value} {snInvalidName : List Str} {subInvalidName : List Value} {abInvalidName : Bool} {colInvalidName : Option Bool} {ddInvalidName : Option Addr} {u0InvalidName u1InvalidName u2InvalidName u3InvalidName u5InvalidName : Option Value} {f_InvalidName : Addr} {odInvalidName anInvalidName : Option Addr} {slInvalidName : Array (Option Value)} {ocInvalidName kVInvalidName dcInvalidName pmInvalidName cdInvalidName ctInvalidName : Value}
    (xl_InvalidName : K.lookup c_InvalidName = some (excClassObj nmInvalidName qInvalidName c_InvalidName NInvalidName bsInvalidName [.ref c_BenchError, .ref c_BestoddsError, .type "ValueError", .type "Exception", .type "BaseException", .type "object"] true snInvalidName subInvalidName abInvalidName colInvalidName ddInvalidName u0InvalidName u1InvalidName u2InvalidName u3InvalidName u5InvalidName "ValueError.__new__"))
    (sa_InvalidName : PySem.W.findIn K (.ref c_InvalidName) "__setattr__" = some (some (.builtin "object.__setattr__"))) (ex_InvalidName : PySem.W.subIn K (.ref c_InvalidName) (.type "BaseException") = some true) (ty_InvalidName : PySem.W.typeIn K (.ref c_InvalidName) = some (.type "type")) (kc_InvalidName : PySem.W.keepIn K (.ref c_InvalidName) = true)
    (ai_InvalidName : PySem.W.findIn K (.ref c_InvalidName) "__init__" = some (some (.ref f_InvalidName))) (ti_InvalidName : PySem.W.typeIn K (.ref f_InvalidName) = some (.type "function"))
    (li_InvalidName : K.lookup f_InvalidName = some ⟨ocInvalidName, odInvalidName, .func (PySem.W.fnOf "__init__" "InvalidName.__init__" (defArgs s_InvalidName) (defBody s_InvalidName) (defScope s_InvalidName) .none kVInvalidName dcInvalidName pmInvalidName anInvalidName cdInvalidName ctInvalidName), slInvalidName⟩) (ci_InvalidName : PySem.W.codeIn K cdInvalidName "InvalidName.__init__" = true) (ki_InvalidName : PySem.W.keepIn K (.ref f_InvalidName) = true) (fr_InvalidName : PySem.W.findIn K (.ref c_InvalidName) "name" = some none)
    (e_TooManyWishes : PySem.W.excIn K c_TooManyWishes [.type "ValueError", .type "Exception", .type "BaseException", .type "object"] "ValueError.__new__" = true) (k_TooManyWishes : PySem.W.keepIn K (.ref c_TooManyWishes) = true)
    {nmUnknownName qUnknownName : Str} {NUnknownName : Addr} {bsUnknownName : List Value} {snUnknownName : List Str} {subUnknownName : List Value} {abUnknownName : Bool} {colUnknownName : Option Bool} {ddUnknownName : Option Addr} {u0UnknownName u1UnknownName u2UnknownName u3UnknownName u5UnknownName : Option Value} {f_UnknownName : Addr} {odUnknownName anUnknownName : Option Addr} {slUnknownName : Array (Option Value)} {ocUnknownName kVUnknownName dcUnknownName pmUnknownName cdUnknownName ctUnknownName : Value}
    (xl_UnknownName : K.lookup c_UnknownName = some (excClassObj nmUnknownName qUnknownName c_UnknownName NUnknownName bsUnknownName [.ref c_BenchError, .ref c_BestoddsError, .type "ValueError", .type "Exception", .type "BaseException", .type "object"] true snUnknownName subUnknownName abUnknownName colUnknownName ddUnknownName u0UnknownName u1UnknownName u2UnknownName u3UnknownName u5UnknownName "ValueError.__new__"))
    (sa_UnknownName : PySem.W.findIn K (.ref c_UnknownName) "__setattr__" = some (some (.builtin "object.__setattr__"))) (ex_UnknownName : PySem.W.subIn K (.ref c_UnknownName) (.type "BaseException") = some true) (ty_UnknownName : PySem.W.typeIn K (.ref c_UnknownName) = some (.type "type")) (kc_UnknownName : PySem.W.keepIn K (.ref c_UnknownName) = true)
    (ai_UnknownName : PySem.W.findIn K (.ref c_UnknownName) "__init__" = some (some (.ref f_UnknownName))) (ti_UnknownName : PySem.W.typeIn K (.ref f_UnknownName) = some (.type "function"))
    (li_UnknownName : K.lookup f_UnknownName = some ⟨ocUnknownName, odUnknownName, .func (PySem.W.fnOf "__init__" "UnknownName.__init__" (defArgs s_UnknownName) (defBody s_UnknownName) (defScope s_UnknownName) .none kVUnknownName dcUnknownName pmUnknownName anUnknownName cdUnknownName ctUnknownName), slUnknownName⟩) (ci_UnknownName : PySem.W.codeIn K cdUnknownName "UnknownName.__init__" = true) (ki_UnknownName : PySem.W.keepIn K (.ref f_UnknownName) = true) (fr_UnknownName : PySem.W.findIn K (.ref c_UnknownName) "name" = some none)
    (kits : allK K [c_InvalidRatio, c_InvalidLine, c_InvalidSystem, c_InvalidWord, c_SentenceTooLarge, c_WeightTooGreat, c_NoSuchState, c_NoSuchChoice, c_TooManyChanges, c_InvalidName, c_TooManyWishes, c_UnknownName] [c_BestoddsError, c_BenchError] = true)
    (a0 : PySem.W.nsIn K mainGlobals "_law_draws" = some (some (.ref f0))) (l0 : K.lookup f0 = some ⟨oc0, od0, .func (PySem.W.fnOf "_law_draws" "_law_draws" (defArgs s_l_draws) (defBody s_l_draws) (defScope s_l_draws) .none kV0 dc0 pm0 an0 cd0 ct0), sl0⟩) (c0 : PySem.W.codeIn K cd0 "_law_draws" = true) (k0 : PySem.W.keepIn K (.ref f0) = true)
    (a1 : PySem.W.nsIn K mainGlobals "_law_box" = some (some (.ref f1))) (l1 : K.lookup f1 = some ⟨oc1, od1, .func (PySem.W.fnOf "_law_box" "_law_box" (defArgs s_l_box) (defBody s_l_box) (defScope s_l_box) .none kV1 dc1 pm1 an1 cd1 ct1), sl1⟩) (c1 : PySem.W.codeIn K cd1 "_law_box" = true) (k1 : PySem.W.keepIn K (.ref f1) = true)
    (a2 : PySem.W.nsIn K mainGlobals "_law_next" = some (some (.ref f2))) (l2 : K.lookup f2 = some ⟨oc2, od2, .func (PySem.W.fnOf "_law_next" "_law_next" (defArgs s_l_next) (defBody s_l_next) (defScope s_l_next) .none kV2 dc2 pm2 an2 cd2 ct2), sl2⟩) (c2 : PySem.W.codeIn K cd2 "_law_next" = true) (k2 : PySem.W.keepIn K (.ref f2) = true)
    (a3 : PySem.W.nsIn K mainGlobals "_law_kinds" = some (some (.ref f3))) (l3 : K.lookup f3 = some ⟨oc3, od3, .func (PySem.W.fnOf "_law_kinds" "_law_kinds" (defArgs s_l_kinds) (defBody s_l_kinds) (defScope s_l_kinds) .none kV3 dc3 pm3 an3 cd3 ct3), sl3⟩) (c3 : PySem.W.codeIn K cd3 "_law_kinds" = true) (k3 : PySem.W.keepIn K (.ref f3) = true)
    (a4 : PySem.W.nsIn K mainGlobals "law" = some (some (.ref f4))) (l4 : K.lookup f4 = some ⟨oc4, od4, .func (PySem.W.fnOf "law" "law" (defArgs s_law) (defBody s_law) (defScope s_law) .none kV4 dc4 pm4 an4 cd4 ct4), sl4⟩) (c4 : PySem.W.codeIn K cd4 "law" = true) (k4 : PySem.W.keepIn K (.ref f4) = true)
    (z_ValueError : PySem.W.nsIn K mainGlobals "ValueError" = some none)
    (z_int : PySem.W.nsIn K mainGlobals "int" = some none)
    (z_isinstance : PySem.W.nsIn K mainGlobals "isinstance" = some none)
    (z_len : PySem.W.nsIn K mainGlobals "len" = some none)
    (z_range : PySem.W.nsIn K mainGlobals "range" = some none)
    : ∃ fd : FuncData, (∀ (s : Shared) (v : Value), BindsTo s fd ⟨[v], []⟩ [("script", v)]) ∧ ∀ base : Heap, K.In base → base.Ns mainGlobals mg → FnOk l.prog w K mg base CX0 3 fa fd ["script"] (sp_law K) := by
  have e := hfa.symm.trans (PySem.W.mg_of X G a4)
  cases e
  have F0 := fun_mk (st := s_l_draws) l0 c0 k0
  have b0 := F0.binds (ps := ["cell", "modulus", "count"]) fun _ _ _ _ _ _ us hl => match us, hl with | [_, _, _], _ => rfl
  have F1 := fun_mk (st := s_l_box) l1 c1 k1
  have b1 := F1.binds (ps := ["script"]) fun _ _ _ _ _ _ us hl => match us, hl with | [_], _ => rfl
  have F2 := fun_mk (st := s_l_next) l2 c2 k2
  have b2 := F2.binds (ps := ["box", "modulus"]) fun _ _ _ _ _ _ us hl => match us, hl with | [_, _], _ => rfl
  have F3 := fun_mk (st := s_l_kinds) l3 c3 k3
  have b3 := F3.binds (ps := ["e"]) fun _ _ _ _ _ _ us hl => match us, hl with | [_], _ => rfl
  have F4 := fun_mk (st := s_law) l4 c4 k4
  have b4 := F4.binds (ps := ["script"]) fun _ _ _ _ _ _ us hl => match us, hl with | [_], _ => rfl
  have F_InvalidLine := fun_mk (st := s_InvalidLine) li_InvalidLine ci_InvalidLine ki_InvalidLine
  have b_InvalidLine := F_InvalidLine.binds (ps := ["self", "number"]) fun _ _ _ _ _ _ us hl => match us, hl with | [_, _], _ => rfl
  have F_InvalidSystem := fun_mk (st := s_InvalidSystem) li_InvalidSystem ci_InvalidSystem ki_InvalidSystem
  have b_InvalidSystem := F_InvalidSystem.binds (ps := ["self", "fault"]) fun _ _ _ _ _ _ us hl => match us, hl with | [_, _], _ => rfl
  have F_InvalidWord := fun_mk (st := s_InvalidWord) li_InvalidWord ci_InvalidWord ki_InvalidWord
  have b_InvalidWord := F_InvalidWord.binds (ps := ["self", "number"]) fun _ _ _ _ _ _ us hl => match us, hl with | [_, _], _ => rfl
  have F_NoSuchState := fun_mk (st := s_NoSuchState) li_NoSuchState ci_NoSuchState ki_NoSuchState
  have b_NoSuchState := F_NoSuchState.binds (ps := ["self", "state"]) fun _ _ _ _ _ _ us hl => match us, hl with | [_, _], _ => rfl
  have F_NoSuchChoice := fun_mk (st := s_NoSuchChoice) li_NoSuchChoice ci_NoSuchChoice ki_NoSuchChoice
  have b_NoSuchChoice := F_NoSuchChoice.binds (ps := ["self", "number"]) fun _ _ _ _ _ _ us hl => match us, hl with | [_, _], _ => rfl
  have F_InvalidName := fun_mk (st := s_InvalidName) li_InvalidName ci_InvalidName ki_InvalidName
  have b_InvalidName := F_InvalidName.binds (ps := ["self", "name"]) fun _ _ _ _ _ _ us hl => match us, hl with | [_, _], _ => rfl
  have F_UnknownName := fun_mk (st := s_UnknownName) li_UnknownName ci_UnknownName ki_UnknownName
  have b_UnknownName := F_UnknownName.binds (ps := ["self", "name"]) fun _ _ _ _ _ _ us hl => match us, hl with | [_, _], _ => rfl
  let T : Env K mg := { a_l_draws := _, d_l_draws := _, F_l_draws := F0, b_l_draws := b0, g_l_draws := PySem.W.mg_of X G a0, a_l_box := _, d_l_box := _, F_l_box := F1, b_l_box := b1, g_l_box := PySem.W.mg_of X G a1, a_l_next := _, d_l_next := _, F_l_next := F2, b_l_next := b2, g_l_next := PySem.W.mg_of X G a2, a_l_kinds := _, d_l_kinds := _, F_l_kinds := F3, b_l_kinds := b3, g_l_kinds := PySem.W.mg_of X G a3, a_law := _, d_law := _, F_law := F4, b_law := b4, g_law := PySem.W.mg_of X G a4, c_BestoddsError := _, g_BestoddsError := PySem.W.mg_of X G ac_BestoddsError, e_BestoddsError := e_BestoddsError, k_BestoddsError := k_BestoddsError, c_InvalidRatio := _, g_InvalidRatio := PySem.W.mg_of X G ac_InvalidRatio, e_InvalidRatio := e_InvalidRatio, k_InvalidRatio := k_InvalidRatio, c_InvalidLine := _, g_InvalidLine := PySem.W.mg_of X G ac_InvalidLine, a_InvalidLine := _, d_InvalidLine := _, o_InvalidLine := ⟨⟨_, _, _, _, _, _, _, _, _, _, _, _, _, _, _, xl_InvalidLine, rfl⟩, sa_InvalidLine, ex_InvalidLine, ty_InvalidLine, kc_InvalidLine⟩, i_InvalidLine := ai_InvalidLine, t_InvalidLine := ti_InvalidLine, F_InvalidLine := F_InvalidLine, b_InvalidLine := b_InvalidLine, n_InvalidLine := fr_InvalidLine, c_InvalidSystem := _, g_InvalidSystem := PySem.W.mg_of X G ac_InvalidSystem, a_InvalidSystem := _, d_InvalidSystem := _, o_InvalidSystem := ⟨⟨_, _, _, _, _, _, _, _, _, _, _, _, _, _, _, xl_InvalidSystem, rfl⟩, sa_InvalidSystem, ex_InvalidSystem, ty_InvalidSystem, kc_InvalidSystem⟩, i_InvalidSystem := ai_InvalidSystem, t_InvalidSystem := ti_InvalidSystem, F_InvalidSystem := F_InvalidSystem, b_InvalidSystem := b_InvalidSystem, n_InvalidSystem := fr_InvalidSystem, c_InvalidWord := _, g_InvalidWord := PySem.W.mg_of X G ac_InvalidWord, a_InvalidWord := _, d_InvalidWord := _, o_InvalidWord := ⟨⟨_, _, _, _, _, _, _, _, _, _, _, _, _, _, _, xl_InvalidWord, rfl⟩, sa_InvalidWord, ex_InvalidWord, ty_InvalidWord, kc_InvalidWord⟩, i_InvalidWord := ai_InvalidWord, t_InvalidWord := ti_InvalidWord, F_InvalidWord := F_InvalidWord, b_InvalidWord := b_InvalidWord, n_InvalidWord := fr_InvalidWord, c_SentenceTooLarge := _, g_SentenceTooLarge := PySem.W.mg_of X G ac_SentenceTooLarge, e_SentenceTooLarge := e_SentenceTooLarge, k_SentenceTooLarge := k_SentenceTooLarge, c_WeightTooGreat := _, g_WeightTooGreat := PySem.W.mg_of X G ac_WeightTooGreat, e_WeightTooGreat := e_WeightTooGreat, k_WeightTooGreat := k_WeightTooGreat, c_BenchError := _, g_BenchError := PySem.W.mg_of X G ac_BenchError, e_BenchError := e_BenchError, k_BenchError := k_BenchError, c_NoSuchState := _, g_NoSuchState := PySem.W.mg_of X G ac_NoSuchState, a_NoSuchState := _, d_NoSuchState := _, o_NoSuchState := ⟨⟨_, _, _, _, _, _, _, _, _, _, _, _, _, _, _, xl_NoSuchState, rfl⟩, sa_NoSuchState, ex_NoSuchState, ty_NoSuchState, kc_NoSuchState⟩, i_NoSuchState := ai_NoSuchState, t_NoSuchState := ti_NoSuchState, F_NoSuchState := F_NoSuchState, b_NoSuchState := b_NoSuchState, n_NoSuchState := fr_NoSuchState, c_NoSuchChoice := _, g_NoSuchChoice := PySem.W.mg_of X G ac_NoSuchChoice, a_NoSuchChoice := _, d_NoSuchChoice := _, o_NoSuchChoice := ⟨⟨_, _, _, _, _, _, _, _, _, _, _, _, _, _, _, xl_NoSuchChoice, rfl⟩, sa_NoSuchChoice, ex_NoSuchChoice, ty_NoSuchChoice, kc_NoSuchChoice⟩, i_NoSuchChoice := ai_NoSuchChoice, t_NoSuchChoice := ti_NoSuchChoice, F_NoSuchChoice := F_NoSuchChoice, b_NoSuchChoice := b_NoSuchChoice, n_NoSuchChoice := fr_NoSuchChoice, c_TooManyChanges := _, g_TooManyChanges := PySem.W.mg_of X G ac_TooManyChanges, e_TooManyChanges := e_TooManyChanges, k_TooManyChanges := k_TooManyChanges, c_InvalidName := _, g_InvalidName := PySem.W.mg_of X G ac_InvalidName, a_InvalidName := _, d_InvalidName := _, o_InvalidName := ⟨⟨_, _, _, _, _, _, _, _, _, _, _, _, _, _, _, xl_InvalidName, rfl⟩, sa_InvalidName, ex_InvalidName, ty_InvalidName, kc_InvalidName⟩, i_InvalidName := ai_InvalidName, t_InvalidName := ti_InvalidName, F_InvalidName := F_InvalidName, b_InvalidName := b_InvalidName, n_InvalidName := fr_InvalidName, c_TooManyWishes := _, g_TooManyWishes := PySem.W.mg_of X G ac_TooManyWishes, e_TooManyWishes := e_TooManyWishes, k_TooManyWishes := k_TooManyWishes, c_UnknownName := _, g_UnknownName := PySem.W.mg_of X G ac_UnknownName, a_UnknownName := _, d_UnknownName := _, o_UnknownName := ⟨⟨_, _, _, _, _, _, _, _, _, _, _, _, _, _, _, xl_UnknownName, rfl⟩, sa_UnknownName, ex_UnknownName, ty_UnknownName, kc_UnknownName⟩, i_UnknownName := ai_UnknownName, t_UnknownName := ti_UnknownName, F_UnknownName := F_UnknownName, b_UnknownName := b_UnknownName, n_UnknownName := fr_UnknownName, kits := kits, z_ValueError := PySem.W.mg_none_of X G z_ValueError, z_int := PySem.W.mg_none_of X G z_int, z_isinstance := PySem.W.mg_none_of X G z_isinstance, z_len := PySem.W.mg_none_of X G z_len, z_range := PySem.W.mg_none_of X G z_range }
  exact ⟨PySem.W.fnOf "law" "law" (defArgs s_law) (defBody s_law) (defScope s_law) .none kV4 dc4 pm4 an4 cd4 ct4, fun s v => .of_eq rfl, fun base _ _ => ok_law T⟩
end Bo
open PySem PySem.W PyProof.Rows
set_option maxRecDepth 100000 in
set_option maxHeartbeats 0 in
theorem PySem.Challenge.cw_bestodds_k37_errors_holds : PySem.Challenge.rw_bestodds_k37_errors.Holds := by
  w_on; o_law; k_head; (case hw => w_witness2)
  k_fill
  refine L2.walk_of (l := PySem.Challenge.rw_bestodds_k37_errors) (n := 63) (k := 3) (x := "script") (CX := fun _ => L2.CX0) (sp := fun w => Bo.sp_law _) rfl (by decide) rfl ⟨rfl, by decide, by decide⟩ (fun w h Y => PySem.W.kIn_of Y) ?F (fun _ _ a ns hl _ hS => ⟨a, ns, rfl, hS, hl, fun _ => rfl⟩) (fun _ _ _ _ _ h => h)
  case F =>
    intro w mg fa h KX G hmg
    refine' Bo.all_mk KX G hmg ?ac_BestoddsError ?ac_InvalidRatio ?ac_InvalidLine ?ac_InvalidSystem ?ac_InvalidWord ?ac_SentenceTooLarge ?ac_WeightTooGreat ?ac_BenchError ?ac_NoSuchState ?ac_NoSuchChoice ?ac_TooManyChanges ?ac_InvalidName ?ac_TooManyWishes ?ac_UnknownName ?e_BestoddsError ?k_BestoddsError ?e_InvalidRatio ?k_InvalidRatio ?xl_InvalidLine ?sa_InvalidLine ?ex_InvalidLine ?ty_InvalidLine ?kc_InvalidLine ?ai_InvalidLine ?ti_InvalidLine ?li_InvalidLine ?ci_InvalidLine ?ki_InvalidLine ?fr_InvalidLine ?xl_InvalidSystem ?sa_InvalidSystem ?ex_InvalidSystem ?ty_InvalidSystem ?kc_InvalidSystem ?ai_InvalidSystem ?ti_InvalidSystem ?li_InvalidSystem ?ci_InvalidSystem ?ki_InvalidSystem ?fr_InvalidSystem ?xl_InvalidWord ?sa_InvalidWord ?ex_InvalidWord ?ty_InvalidWord ?kc_InvalidWord ?ai_InvalidWord ?ti_InvalidWord ?li_InvalidWord ?ci_InvalidWord ?ki_InvalidWord ?fr_InvalidWord ?e_SentenceTooLarge ?k_SentenceTooLarge ?e_WeightTooGreat ?k_WeightTooGreat ?e_BenchError ?k_BenchError ?xl_NoSuchState ?sa_NoSuchState ?ex_NoSuchState ?ty_NoSuchState ?kc_NoSuchState ?ai_NoSuchState ?ti_NoSuchState ?li_NoSuchState ?ci_NoSuchState ?ki_NoSuchState ?fr_NoSuchState ?xl_NoSuchChoice ?sa_NoSuchChoice ?ex_NoSuchChoice ?ty_NoSuchChoice ?kc_NoSuchChoice ?ai_NoSuchChoice ?ti_NoSuchChoice ?li_NoSuchChoice ?ci_NoSuchChoice ?ki_NoSuchChoice ?fr_NoSuchChoice ?e_TooManyChanges ?k_TooManyChanges ?xl_InvalidName ?sa_InvalidName ?ex_InvalidName ?ty_InvalidName ?kc_InvalidName ?ai_InvalidName ?ti_InvalidName ?li_InvalidName ?ci_InvalidName ?ki_InvalidName ?fr_InvalidName ?e_TooManyWishes ?k_TooManyWishes ?xl_UnknownName ?sa_UnknownName ?ex_UnknownName ?ty_UnknownName ?kc_UnknownName ?ai_UnknownName ?ti_UnknownName ?li_UnknownName ?ci_UnknownName ?ki_UnknownName ?fr_UnknownName ?kits ?a0 ?l0 ?c0 ?k0 ?a1 ?l1 ?c1 ?k1 ?a2 ?l2 ?c2 ?k2 ?a3 ?l3 ?c3 ?k3 ?a4 ?l4 ?c4 ?k4 ?z_ValueError ?z_int ?z_isinstance ?z_len ?z_range
    (case ac_BestoddsError => k_is)
    (case ac_InvalidRatio => k_is)
    (case ac_InvalidLine => k_is)
    (case ac_InvalidSystem => k_is)
    (case ac_InvalidWord => k_is)
    (case ac_SentenceTooLarge => k_is)
    (case ac_WeightTooGreat => k_is)
    (case ac_BenchError => k_is)
    (case ac_NoSuchState => k_is)
    (case ac_NoSuchChoice => k_is)
    (case ac_TooManyChanges => k_is)
    (case ac_InvalidName => k_is)
    (case ac_TooManyWishes => k_is)
    (case ac_UnknownName => k_is)
    (case e_BestoddsError => k_exc)
    (case k_BestoddsError => k_is)
    (case e_InvalidRatio => k_exc)
    (case k_InvalidRatio => k_is)
    (case xl_InvalidLine => k_is)
    (case sa_InvalidLine => k_is)
    (case ex_InvalidLine => k_is)
    (case ty_InvalidLine => k_is)
    (case kc_InvalidLine => k_is)
    (case ai_InvalidLine => k_is)
    (case ti_InvalidLine => k_is)
    (case li_InvalidLine => k_is)
    (case ci_InvalidLine => k_is)
    (case ki_InvalidLine => k_is)
    (case fr_InvalidLine => k_is)
    (case xl_InvalidSystem => k_is)
    (case sa_InvalidSystem => k_is)
    (case ex_InvalidSystem => k_is)
    (case ty_InvalidSystem => k_is)
    (case kc_InvalidSystem => k_is)
    (case ai_InvalidSystem => k_is)
    (case ti_InvalidSystem => k_is)
    (case li_InvalidSystem => k_is)
    (case ci_InvalidSystem => k_is)
    (case ki_InvalidSystem => k_is)
    (case fr_InvalidSystem => k_is)
    (case xl_InvalidWord => k_is)
    (case sa_InvalidWord => k_is)
    (case ex_InvalidWord => k_is)
    (case ty_InvalidWord => k_is)
    (case kc_InvalidWord => k_is)
    (case ai_InvalidWord => k_is)
    (case ti_InvalidWord => k_is)
    (case li_InvalidWord => k_is)
    (case ci_InvalidWord => k_is)
    (case ki_InvalidWord => k_is)
    (case fr_InvalidWord => k_is)
    (case e_SentenceTooLarge => k_exc)
    (case k_SentenceTooLarge => k_is)
    (case e_WeightTooGreat => k_exc)
    (case k_WeightTooGreat => k_is)
    (case e_BenchError => k_exc)
    (case k_BenchError => k_is)
    (case xl_NoSuchState => k_is)
    (case sa_NoSuchState => k_is)
    (case ex_NoSuchState => k_is)
    (case ty_NoSuchState => k_is)
    (case kc_NoSuchState => k_is)
    (case ai_NoSuchState => k_is)
    (case ti_NoSuchState => k_is)
    (case li_NoSuchState => k_is)
    (case ci_NoSuchState => k_is)
    (case ki_NoSuchState => k_is)
    (case fr_NoSuchState => k_is)
    (case xl_NoSuchChoice => k_is)
    (case sa_NoSuchChoice => k_is)
    (case ex_NoSuchChoice => k_is)
    (case ty_NoSuchChoice => k_is)
    (case kc_NoSuchChoice => k_is)
    (case ai_NoSuchChoice => k_is)
    (case ti_NoSuchChoice => k_is)
    (case li_NoSuchChoice => k_is)
    (case ci_NoSuchChoice => k_is)
    (case ki_NoSuchChoice => k_is)
    (case fr_NoSuchChoice => k_is)
    (case e_TooManyChanges => k_exc)
    (case k_TooManyChanges => k_is)
    (case xl_InvalidName => k_is)
    (case sa_InvalidName => k_is)
    (case ex_InvalidName => k_is)
    (case ty_InvalidName => k_is)
    (case kc_InvalidName => k_is)
    (case ai_InvalidName => k_is)
    (case ti_InvalidName => k_is)
    (case li_InvalidName => k_is)
    (case ci_InvalidName => k_is)
    (case ki_InvalidName => k_is)
    (case fr_InvalidName => k_is)
    (case e_TooManyWishes => k_exc)
    (case k_TooManyWishes => k_is)
    (case xl_UnknownName => k_is)
    (case sa_UnknownName => k_is)
    (case ex_UnknownName => k_is)
    (case ty_UnknownName => k_is)
    (case kc_UnknownName => k_is)
    (case ai_UnknownName => k_is)
    (case ti_UnknownName => k_is)
    (case li_UnknownName => k_is)
    (case ci_UnknownName => k_is)
    (case ki_UnknownName => k_is)
    (case fr_UnknownName => k_is)
    (case kits => first | kernel_rfl | exact Eq.refl true)
    (case a0 => k_is)
    (case l0 => k_is)
    (case c0 => k_is)
    (case k0 => k_is)
    (case a1 => k_is)
    (case l1 => k_is)
    (case c1 => k_is)
    (case k1 => k_is)
    (case a2 => k_is)
    (case l2 => k_is)
    (case c2 => k_is)
    (case k2 => k_is)
    (case a3 => k_is)
    (case l3 => k_is)
    (case c3 => k_is)
    (case k3 => k_is)
    (case a4 => k_is)
    (case l4 => k_is)
    (case c4 => k_is)
    (case k4 => k_is)
    (case z_ValueError => k_is)
    (case z_int => k_is)
    (case z_isinstance => k_is)
    (case z_len => k_is)
    (case z_range => k_is)

