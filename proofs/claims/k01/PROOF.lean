import PyProof.Rows.All
import Wide.All
import OpenK.AllK
import Wide.FinOn
import HandS.ForMost
import HandS.IsInst
import HandS.Wide
import HandS.Gcd
import HandS.Codes
import Flt.Len
import PySem.Challenge.RW_bestodds_k01_fractions
set_option Elab.async false
set_option linter.all false
set_option maxRecDepth 100000
set_option maxHeartbeats 4000000
namespace Bo
open PySem L2

/-! ### readings, step by step -/
section
variable {σ : L2.St} {H : Hp} {Q : VK} {D : Ends} {ta tb te : TE} {t u : TS} {tt tu : TT} {K : PySem.W.Frag}
theorem r_seq (h : t { D with nx := u D } σ H) : tSeq t u D σ H := h
theorem r_asg {g : TG} (h : te σ H fun x H1 => g x σ H1 D.nx) : tAsg te g D σ H := h
theorem r_name {i : Nat} {v : V} {R : L2.St → Hp → Prop} (h : R (σ.set i (some v)) H) : gName i v σ H R := h
theorem r_var {i : Nat} (h : ∃ v, σ[i]? = some (some v) ∧ Q v H) : tVar i σ H Q := h
theorem r_c {v : V} (h : Q v H) : tC v σ H Q := h
theorem r_op {r : R2} (h : ta σ H fun x H1 => tb σ H1 fun y H2 => r x y H2 Q) : tOp r ta tb σ H Q := h
theorem r_un {r : V → Hp → VK → Prop} (h : ta σ H fun x H1 => r x H1 Q) : tUn r ta σ H Q := h
theorem r_i0 {g : Int → Int → V} {i j : Int} (h : Q (g i j) H) : rI0 g (.int i) (.int j) H Q := ⟨i, j, rfl, rfl, h⟩
theorem r_iC {C : Int → Int → Prop} {g : Int → Int → V} {i j : Int} (c : C i j) (h : Q (g i j) H) : rI C g (.int i) (.int j) H Q := ⟨i, j, rfl, rfl, c, h⟩
theorem r_u {g : Int → V} {i : Int} (h : Q (g i) H) : rU g (.int i) H Q := ⟨i, rfl, h⟩
theorem r_eqI {i j : Int} (h : Q (.bl (decide (i = j))) H) : rEq (.int i) (.int j) H Q := by
  refine ⟨rfl, ?_⟩
  have e : decide (V.int i = V.int j) = decide (i = j) := by
    by_cases q : i = j
    · subst q; simp
    · rw [decide_eq_false q, decide_eq_false fun z => q (V.int.inj z)]
  rw [e]
  exact h
theorem r_neI {i j : Int} (h : Q (.bl (!decide (i = j))) H) : rNe (.int i) (.int j) H Q := by
  refine ⟨rfl, ?_⟩
  have e : decide (V.int i = V.int j) = decide (i = j) := by
    by_cases q : i = j
    · subst q; simp
    · rw [decide_eq_false q, decide_eq_false fun z => q (V.int.inj z)]
  rw [e]
  exact h
theorem r_eqS {i j : Str} (h : Q (.bl (decide (i = j))) H) : rEq (.str i) (.str j) H Q := by
  refine ⟨rfl, ?_⟩
  have e : decide (V.str i = V.str j) = decide (i = j) := by
    by_cases q : i = j
    · subst q; simp
    · rw [decide_eq_false q, decide_eq_false fun z => q (V.str.inj z)]
  rw [e]
  exact h
theorem r_eqB {i j : Bool} (h : Q (.bl (decide (i = j))) H) : rEq (.bl i) (.bl j) H Q := by
  refine ⟨rfl, ?_⟩
  have e : decide (V.bl i = V.bl j) = decide (i = j) := by
    by_cases q : i = j
    · subst q; simp
    · rw [decide_eq_false q, decide_eq_false fun z => q (V.bl.inj z)]
  rw [e]
  exact h
theorem r_tst {R : Bool → Hp → Prop} (h : te σ H fun x H' => ∃ k, x = .bl k ∧ R k H') : tTest te σ H R := h
theorem r_tB {R : Bool → Hp → Prop} (h : te σ H fun x H' => ∃ k, x = .bl k ∧ R k H') : tB te σ H R := h
theorem r_bl {b : Bool} {R : Bool → Prop} (h : R b) : ∃ k, V.bl b = .bl k ∧ R k := ⟨b, rfl, h⟩
theorem r_not {R : Bool → Hp → Prop} (h : tt σ H fun c H1 => R (!c) H1) : tNot tt σ H R := h
theorem r_and {R : Bool → Hp → Prop} (h : tt σ H fun c H1 => if c = true then tu σ H1 R else R false H1) : tAnd tt tu σ H R := h
theorem r_or {R : Bool → Hp → Prop} (h : tt σ H fun c H1 => if c = true then R true H1 else tu σ H1 R) : tOr tt tu σ H R := h
theorem r_andV (h : ta σ H fun x H1 => ∃ c, x = .bl c ∧ if c = true then tb σ H1 Q else Q (.bl false) H1) : tAndV ta tb σ H Q := h
theorem r_orV (h : ta σ H fun x H1 => ∃ c, x = .bl c ∧ if c = true then Q (.bl true) H1 else tb σ H1 Q) : tOrV ta tb σ H Q := h
theorem r_notV (h : ta σ H fun x H1 => ∃ c, x = .bl c ∧ Q (.bl (!c)) H1) : tNotV ta σ H Q := h
theorem r_ifs (h : tt σ H fun b H1 => if b = true then t D σ H1 else u D σ H1) : tIfS tt t u D σ H := h
theorem r_ifE (h : tt σ H fun c H1 => if c = true then ta σ H1 Q else tb σ H1 Q) : tIf tt ta tb σ H Q := h
theorem r_ret (h : te σ H D.rt) : tRet te D σ H := h
theorem r_retN (h : D.rt .non H) : tRetN D σ H := h
theorem r_next (h : D.nx σ H) : tNext D σ H := h
theorem r_brk (h : D.bk σ H) : tBreak D σ H := h
theorem r_cont (h : D.ct σ H) : tCont D σ H := h
theorem r_drop (h : te σ H fun _ H1 => D.nx σ H1) : tDrop te D σ H := h
theorem r_nil {R : List V → Hp → Prop} (h : R [] H) : tNil σ H R := h
theorem r_cons {tr : TA} {R : List V → Hp → Prop} (h : ta σ H fun x H1 => tr σ H1 fun xs H2 => R (x :: xs) H2) : tCons ta tr σ H R := h
theorem r_tup {tA : TA} (h : tA σ H fun xs H1 => xs.length ≤ sizeLine ∧ ∀ p, H1 p = none → Q (.ref p) (upd H1 p (.tup xs))) : tTup tA σ H Q := h
theorem r_lst {tA : TA} (h : tA σ H fun xs H1 => xs.length ≤ sizeLine ∧ ∀ p, H1 p = none → Q (.ref p) (upd H1 p (.lst xs))) : tLst tA σ H Q := h
theorem r_cb {r : List V → Hp → VK → Prop} {tA : TA} (h : tA σ H fun vs H1 => r vs H1 Q) : tCB r tA σ H Q := h
theorem r_call {sp : Sp} {E : XK} {tA : TA} (h : tA σ H fun vs H1 => sp (vs ++ []) H1 Q E) : tCall sp [] E tA σ H Q := h
theorem r_ixT {p : Addr} {xs : List V} {i : Int} {v : V} (s : SqT K H p xs) (a : atI xs i = some v) (h : Q v H) : rIxT K (.ref p) (.int i) H Q := ⟨p, xs, i, v, rfl, rfl, s, a, h⟩
theorem r_ixL {p : Addr} {xs : List V} {i : Int} {v : V} (s : SqL K H p xs) (a : atI xs i = some v) (h : Q v H) : rIxL K (.ref p) (.int i) H Q := ⟨p, xs, i, v, rfl, rfl, s, a, h⟩
theorem r_gsub {to ti : TE} {ts : TSet} {v : V} {R : L2.St → Hp → Prop} (h : to σ H fun o H1 => ti σ H1 fun i H2 => ts o i v H2 fun H3 => R σ H3) : gSub to ti ts v σ H R := h
theorem r_setL {p : Addr} {xs : List V} {k : Int} {j : Nat} {v : V} {R : Hp → Prop} (h : H p = some (.lst xs)) (e : ixN xs.length k = some j) (q : R (upd H p (.lst (xs.set j v)))) : rSetL (.ref p) (.int k) v H R := ⟨p, xs, k, j, rfl, rfl, h, e, q⟩
theorem r_ixQT {p : Addr} {xs : List V} {i : Int} {v : V} (s : SqT K H p xs) (a : atI xs i = some v) (h : Q v H) : rIx K (.ref p) (.int i) H Q := .inr (.inl ⟨p, xs, i, v, rfl, rfl, s, a, h⟩)
theorem r_ixQL {p : Addr} {xs : List V} {i : Int} {v : V} (s : SqL K H p xs) (a : atI xs i = some v) (h : Q v H) : rIx K (.ref p) (.int i) H Q := .inl ⟨p, xs, i, v, rfl, rfl, s, a, h⟩
theorem r_gtup2 {p : Addr} {x y : V} {i j : Nat} {R : L2.St → Hp → Prop} (s : SqT K H p [x, y]) (h : R ((σ.set i (some x)).set j (some y)) H) : gTup K 2 (gCons (gName i) (gCons (gName j) gNil)) (.ref p) σ H R := ⟨p, _, rfl, s, rfl, x, [y], rfl, y, [], rfl, rfl, h⟩
theorem r_app {p : Addr} {xs : List V} {y : V} (h : H p = some (.lst xs)) (l : xs.length < 100000) (q : Q .non (upd H p (.lst (xs ++ [y])))) : rAppend (.ref p) [y] H Q := ⟨p, xs, y, rfl, rfl, h, Nat.lt_of_lt_of_le l (by decide), q⟩
theorem r_bm {T : String} {r : V → List V → Hp → VK → Prop} {tA : TA} (h : ta σ H fun x H1 => tyV K T x H1 ∧ tA σ H1 fun xs H2 => r x xs H2 Q) : tBM K T r ta tA σ H Q := h
theorem r_bm0 {T : String} {r : V → List V → Hp → VK → Prop} (h : ta σ H fun x H1 => tyV K T x H1 ∧ r x [] H1 Q) : tBM0 K T r ta σ H Q := h
theorem r_tyL {p : Addr} {xs : List V} {P : Prop} (h : SqL K H p xs) (k : P) : tyV K "list" (.ref p) H ∧ P := ⟨.inl ⟨rfl, _, h⟩, k⟩
theorem r_tyD {p : Addr} {kvs : List (Key × V)} {P : Prop} (h : H p = some (.dK kvs)) (k : P) : tyV K "dict" (.ref p) H ∧ P := ⟨.inr (.inr (.inl ⟨rfl, .inl ⟨_, h⟩⟩)), k⟩
theorem r_dput {td ty : TE} (h : te σ H fun v H1 => td σ H1 fun x H2 => ty σ H2 fun y H3 => ∃ a H4, x = .ref a ∧ DPut H3 a y v H4 ∧ D.nx σ H4) : sDPut td ty te D σ H := h
theorem r_dnew (h : ∀ p, H p = none → Q (.ref p) (upd H p (.dK []))) : tDNewK σ H Q := h
theorem r_lenS {p : Addr} {xs : List V} (s : SqL K H p xs ∨ SqT K H p xs) (h : Q (.int xs.length) H) : ∃ q ys, [V.ref p] = [.ref q] ∧ (SqL K H q ys ∨ SqT K H q ys) ∧ Q (.int ys.length) H := ⟨p, xs, rfl, s, h⟩
theorem r_tupL {p : Addr} {xs : List V} (s : SqL K H p xs) (h : ∀ q, H q = none → Q (.ref q) (upd H q (.tup xs))) : ∃ q ys, [V.ref p] = [.ref q] ∧ ((SqL K H q ys ∧ ∀ l, H l = none → Q (.ref l) (upd H l (.tup ys))) ∨ (SqT K H q ys ∧ Q (.ref q) H)) := ⟨p, xs, rfl, .inl ⟨s, h⟩⟩
theorem r_yes {R : Bool → Hp → Prop} (h : R true H) : tYes σ H R := h
theorem r_chain {r r' : R2} {tc : TE} (h : ta σ H fun x H1 => tb σ H1 fun y H2 => r x y H2 fun z H3 => ∃ k, z = .bl k ∧ if k = true then tc σ H3 fun v H4 => r' y v H4 Q else Q (.bl false) H3) : tChain r r' ta tb tc σ H Q := h
theorem r_for {wi : TI} {g : TG} {b : TS} (h : wi σ H fun J H1 => ∃ W : Nat → Nat → L2.St → Hp → Prop, (∃ m, W 0 m σ H1) ∧ ∀ i m σ H, W i m σ H →
    (J.stop i H ∧ D.nx σ H) ∨ (J.go i H ∧ ∃ N : L2.St → Hp → Prop, (∀ σ' H', N σ' H' → ∃ m', m' < m ∧ W (i + 1) m' σ' H') ∧ ∀ x H', J.yld i H x H' → g x σ H' fun σ2 H2 => b { D with nx := N, ct := N, bk := D.nx } σ2 H2)) : tFor wi g b D σ H := h
theorem r_iList {R : It → Hp → Prop} (h : te σ H fun x H1 => ∃ a, x = .ref a ∧ (∃ xs, SqL K H1 a xs) ∧ R (Itl K a) H1) : iList K te σ H R := h
theorem r_iTup {R : It → Hp → Prop} (h : te σ H fun x H1 => ∃ a, x = .ref a ∧ (∃ xs, SqT K H1 a xs) ∧ R (Itt K a) H1) : iTup K te σ H R := h
theorem r_it {a : Addr} {P : Prop} {R : Addr → Prop} (p : P) (h : R a) : P ∧ R a := ⟨p, h⟩
theorem r_rng1 {tA : TA} {R : It → Hp → Prop} (h : tA σ H fun vs H1 => ∃ j : Int, vs = [.int j] ∧ -(2 ^ 62) ≤ j ∧ j < 2 ^ 62 ∧ R (Itr 0 j.toNat) H1) : iRng1 tA σ H R := h
theorem r_rng2 {tA : TA} {R : It → Hp → Prop} (h : tA σ H fun vs H1 => ∃ i j : Int, vs = [.int i, .int j] ∧ (-(2 ^ 62) ≤ i ∧ i < 2 ^ 62 ∧ -(2 ^ 62) ≤ j ∧ j < 2 ^ 62) ∧ R (Itr i (j - i).toNat) H1) : iRng2 tA σ H R := h
theorem r_int1 {i : Int} (h : Q (.int i) H) : (∃ j, [V.int i] = [.int j] ∧ Q (.int j) H) ∨ ∃ k, [V.int i] = [.bl k] ∧ Q (.int (if k then 1 else 0)) H := .inl ⟨i, rfl, h⟩
theorem r_if {c : Prop} [Decidable c] {A B : Prop} (h1 : c → A) (h2 : ¬ c → B) : if decide c = true then A else B := by
  by_cases h : c
  · rw [decide_eq_true h, if_pos rfl]
    exact h1 h
  · rw [decide_eq_false h, if_neg Bool.false_ne_true]
    exact h2 h
theorem r_ifN {c : Prop} [Decidable c] {A B : Prop} (h1 : ¬ c → A) (h2 : c → B) : if (!decide c) = true then A else B := by
  by_cases h : c
  · rw [decide_eq_true h]
    exact h2 h
  · rw [decide_eq_false h]
    exact h1 h
theorem r_ifT {A B : Prop} (h : A) : if true = true then A else B := h
theorem r_ifF {A B : Prop} (h : B) : if false = true then A else B := h
theorem r_ifNT {A B : Prop} (h : B) : if (!true) = true then A else B := h
theorem r_ifNF {A B : Prop} (h : A) : if (!false) = true then A else B := h
end

section
variable {σ : L2.St} {H : Hp} {D : Ends} {t u : TS}
theorem r_cut (Mid : L2.St → Hp → Prop) (h1 : t { D with nx := Mid } σ H) (h2 : ∀ σ' H', Mid σ' H' → u D σ' H') : C8.tCut t u D σ H := ⟨Mid, h1, h2⟩
end
/-! ### division by any int that is not nought -/
def CDivX (_ j : Int) : Prop := j ≠ 0 ∧ j.natAbs.log2 < 9000
theorem op_fdivX {X : Cx} : OpR X (binaryOp .FloorDiv) (rI CDivX fun i j => .int (i.fdiv j)) := opI fun _ _ _ _ _ _ _ hc q => PyProof.Rows.floordiv_int hc.1 q (.inl (PyProof.noPylong_of_log2 hc.2))

/-! ### heaps -/
section
variable {K : PySem.W.Frag} {H H' H1 : Hp} {a b p q : Addr} {xs ys : List V} {o : HO}
theorem sm_t (e : Same H H') (h : SqT K H a xs) : SqT K H' a xs := by
  rcases h with (h | ⟨o, h⟩) | h
  · exact .inl (.inl (e _ _ h))
  · exact .inl (.inr ⟨o, e _ _ h⟩)
  · exact .inr h
theorem sm_l (e : Same H H') (h : SqL K H a xs) : SqL K H' a xs := e.seq h
theorem sm_new (h : H p = none) : Same H (upd H p o) := fun b u e => by
  rw [upd_ne (ne_of_none e h)]
  exact e
def mn (H : Hp) (p : Addr) : Hp := fun b => if b = p then none else H b
theorem mn_same : mn H p p = none := if_pos rfl
theorem mn_ne (h : b ≠ p) : mn H p b = H b := if_neg h
theorem mn_le : Same (mn H p) H := fun b o e => by
  by_cases h : b = p
  · rw [h, mn_same] at e
    cases e
  · rw [mn_ne h] at e
    exact e
theorem mn_mono (e : Same H H') : Same (mn H p) (mn H' p) := fun b o h => by
  by_cases q : b = p
  · rw [q, mn_same] at h
    cases h
  · rw [mn_ne q] at h ⊢
    exact e _ _ h
theorem mn_upd : mn (upd H p o) p = mn H p := by
  funext b
  by_cases h : b = p
  · rw [h, mn_same, mn_same]
  · rw [mn_ne h, mn_ne h, upd_ne h]
/-- a tuple stands apart from a list -/
theorem mn_t (h : H p = some (.lst ys)) (s : SqT K H a xs) : SqT K (mn H p) a xs := by
  rcases s with (s | ⟨o, s⟩) | s
  · exact .inl (.inl (by rw [mn_ne (ne_of s h (fun z => by cases z))]; exact s))
  · exact .inl (.inr ⟨o, by rw [mn_ne (ne_of s h (fun z => by cases z))]; exact s⟩)
  · exact .inr s
/-- a list other than p -/
theorem mn_l (n : a ≠ p) (s : SqL K H a xs) : SqL K (mn H p) a xs := by
  rcases s with (s | ⟨o, s⟩) | s
  · exact .inl (.inl (by rw [mn_ne n]; exact s))
  · exact .inl (.inr ⟨o, by rw [mn_ne n]; exact s⟩)
  · exact .inr s
theorem mn_free (h : H a = none) : mn H p a = none := by
  by_cases q : a = p
  · rw [q, mn_same]
  · rw [mn_ne q]
    exact h
end

/-! ### rules whose reading names K outright (within a comprehension) -/
section
variable {X : Cx}
theorem ixT (K : PySem.W.Frag) (h : X.K = K := by rfl) : IxR X (rIxT K) := by
  subst h
  exact ix_tup
theorem ixL (K : PySem.W.Frag) (h : X.K = K := by rfl) : IxR X (rIxL K) := by
  subst h
  exact ix_list
theorem ixQ (K : PySem.W.Frag) (h : X.K = K := by rfl) : IxR X (rIx K) := by
  subst h
  exact ix_seq
end
/-! ### what is kept but for the list at p; tuples -/
def Fm (p : Addr) (H H' : Hp) : Prop := ∀ b o, b ≠ p → H b = some o → H' b = some o
section
variable {K : PySem.W.Frag} {H H' H1 : Hp} {a b p q : Addr} {xs ys : List V} {o : HO}
theorem Fm.refl : Fm p H H := fun _ _ _ h => h
theorem Fm.trans (e : Fm p H H1) (f : Fm p H1 H') : Fm p H H' := fun b o n h => f b o n (e b o n h)
theorem Same_fm (e : Same H H') : Fm p H H' := fun b o _ h => e b o h
theorem fm_of (e : Same (mn H p) (mn H' p)) : Fm p H H' := fun b o n h => by
  have := e b o (by rw [mn_ne n]; exact h)
  rw [mn_ne n] at this
  exact this
theorem Fm.mn (e : Fm p H H') : Same (mn H p) (mn H' p) := fun b o h => by
  by_cases q : b = p
  · rw [q, mn_same] at h
    cases h
  · rw [mn_ne q] at h ⊢
    exact e _ _ q h
theorem fm_new (h : H a = none) : Fm p H (upd H a o) := Same_fm (sm_new h)
theorem fm_upd : Fm p H (upd H p o) := fun b u n h => by
  rw [upd_ne n]
  exact h
/-- what stood free and is changed -/
theorem Fm.mut (e : Fm p H H') (h : H a = none) : Fm p H (upd H' a o) := fun b u n q => by
  rw [upd_ne (ne_of_none q h)]
  exact e b u n q
theorem Fm.free (e : Fm p H H') (n : a ≠ p) (h : H' a = none) : H a = none := by
  cases q : H a with
  | none => rfl
  | some u =>
    rw [e a u n q] at h
    cases h
/-- tuples are kept -/
def Tk (H H' : Hp) : Prop := ∀ b xs, (H b = some (.tup xs) → H' b = some (.tup xs)) ∧ ∀ o, H b = some (.frz o (.tup xs)) → H' b = some (.frz o (.tup xs))
theorem Tk.refl : Tk H H := fun _ _ => ⟨id, fun _ => id⟩
theorem Tk.trans (e : Tk H H1) (f : Tk H1 H') : Tk H H' := fun b xs => ⟨fun h => (f b xs).1 ((e b xs).1 h), fun o h => (f b xs).2 o ((e b xs).2 o h)⟩
theorem Same_tk (e : Same H H') : Tk H H' := fun b xs => ⟨e b _, fun _ => e b _⟩
theorem Fm.tk (e : Fm p H H') (h : H p = some (.lst ys)) : Tk H H' := fun b xs =>
  ⟨fun q => e b _ (ne_of q h (fun z => by cases z)) q, fun o q => e b _ (ne_of q h (fun z => by cases z)) q⟩
theorem tk_lst (h : H p = some (.lst ys)) : Tk H (upd H p o) := fun b xs =>
  ⟨fun q => by rw [upd_ne (ne_of q h (fun z => by cases z))]; exact q, fun o q => by rw [upd_ne (ne_of q h (fun z => by cases z))]; exact q⟩
theorem tk_dK {kvs : List (Key × V)} (h : H p = some (.dK kvs)) : Tk H (upd H p o) := fun b xs =>
  ⟨fun q => by rw [upd_ne (ne_of q h (fun z => by cases z))]; exact q, fun o q => by rw [upd_ne (ne_of q h (fun z => by cases z))]; exact q⟩
theorem tk_new (h : H p = none) : Tk H (upd H p o) := Same_tk (sm_new h)
theorem tk_t (e : Tk H H') (h : SqT K H a xs) : SqT K H' a xs := by
  rcases h with (h | ⟨o, h⟩) | h
  · exact .inl (.inl ((e _ _).1 h))
  · exact .inl (.inr ⟨o, (e _ _).2 o h⟩)
  · exact .inr h
end

/-! ### data -/
section
variable {K : PySem.W.Frag} {H H' : Hp}
mutual
theorem dp_mono (e : Same H H') : ∀ {v : V} {d : PyData}, Dp K H v d → Dp K H' v d
  | _, _, .non => .non
  | _, _, .bl b => .bl b
  | _, _, .int i => .int i
  | _, _, .str x => .str x
  | _, _, .lst s a => .lst (sm_l e s) (dpa_mono e a)
  | _, _, .tup s a => .tup (sm_t e s) (dpa_mono e a)
theorem dpa_mono (e : Same H H') : ∀ {vs : List V} {ds : List PyData}, DpAll K H vs ds → DpAll K H' vs ds
  | _, _, .nil => .nil
  | _, _, .cons h t => .cons (dp_mono e h) (dpa_mono e t)
end
theorem dpa_len : ∀ {vs : List V} {ds : List PyData}, DpAll K H vs ds → vs.length = ds.length
  | _, _, .nil => rfl
  | _, _, .cons _ t => congrArg (· + 1) (dpa_len t)
theorem dpa_get : ∀ {vs : List V} {ds : List PyData} {i : Nat} {d : PyData}, DpAll K H vs ds → ds[i]? = some d → ∃ v, vs[i]? = some v ∧ Dp K H v d
  | _, _, _, _, .nil, e => by simp at e
  | _, _, 0, _, .cons h _, e => by
    simp at e
    subst e
    exact ⟨_, rfl, h⟩
  | _, _, i + 1, d, .cons _ t, e => by
    obtain ⟨v, h1, h2⟩ := dpa_get (i := i) (d := d) t (by simpa using e)
    exact ⟨v, by simpa using h1, h2⟩
/-- data without lists -/
inductive Tu : PyData → Prop
  | non : Tu .none
  | bl (b : Bool) : Tu (.bool b)
  | int (i : Int) : Tu (.int i)
  | str (x : Str) : Tu (.str x)
  | tup {ds : List PyData} (h : ∀ d, d ∈ ds → Tu d) : Tu (.tuple ds)
mutual
theorem dp_tk (e : Tk H H') : ∀ {v : V} {d : PyData}, Tu d → Dp K H v d → Dp K H' v d
  | _, _, _, .non => .non
  | _, _, _, .bl b => .bl b
  | _, _, _, .int i => .int i
  | _, _, _, .str x => .str x
  | _, _, t, .lst s a => nomatch t
  | _, _, t, .tup s a => .tup (tk_t e s) (dpa_tk e (fun d hd => by cases t with | tup h => exact h d hd) a)
theorem dpa_tk (e : Tk H H') : ∀ {vs : List V} {ds : List PyData}, (∀ d, d ∈ ds → Tu d) → DpAll K H vs ds → DpAll K H' vs ds
  | _, _, _, .nil => .nil
  | _, _, t, .cons h r => .cons (dp_tk e (t _ (List.mem_cons_self ..)) h) (dpa_tk e (fun d hd => t d (List.mem_cons_of_mem _ hd)) r)
end
theorem dpa_app : ∀ {vs ws : List V} {ds es : List PyData}, DpAll K H vs ds → DpAll K H ws es → DpAll K H (vs ++ ws) (ds ++ es)
  | _, _, _, _, .nil, h => h
  | _, _, _, _, .cons a t, h => .cons a (dpa_app t h)
/-- the types of what is read -/
theorem tyx_t {a : Addr} {xs : List V} (s : SqT K H a xs) : TyX K H (.ref a) (.type "tuple") := by
  rcases s with (s | ⟨o, s⟩) | ⟨o, its, n, e, c, _⟩
  · exact .base (.tup s)
  · exact .fTuple s
  · exact .kTuple e c
theorem tyx_l {a : Addr} {xs : List V} (s : SqL K H a xs) : TyX K H (.ref a) (.type "list") := by
  rcases s with (s | ⟨o, s⟩) | ⟨o, its, n, e, c, _⟩
  · exact .base (.lst s)
  · exact .base (.frz s)
  · exact .kList e c
theorem r_isi {Q : VK} {x : V} {a c : String} (b : Bool) (ty : TyX K H x (.type a)) (e : kitB a c = some b) (h : Q (.bl b) H) : rIsi K [x, .ty c] H Q := ⟨x, .ty c, .type a, .type c, b, rfl, .ty c, ty, kit_ty e, h⟩
/-- data at most n deep -/
inductive Dn : Nat → PyData → Prop
  | non (n : Nat) : Dn n .none
  | bl (n : Nat) (b : Bool) : Dn n (.bool b)
  | int (n : Nat) (i : Int) : Dn n (.int i)
  | str (n : Nat) (x : Str) : Dn n (.str x)
  | tup {n : Nat} {ds : List PyData} (l : ds.length ≤ 100000) (h : ∀ d, d ∈ ds → Dn n d) : Dn (n + 1) (.tuple ds)
  | lst {n : Nat} {ds : List PyData} (l : ds.length ≤ 100000) (h : ∀ d, d ∈ ds → Dn n d) : Dn (n + 1) (.list ds)
theorem Dn.up : ∀ {n : Nat} {d : PyData}, Dn n d → Dn (n + 1) d
  | _, _, .non _ => .non _
  | _, _, .bl _ b => .bl _ b
  | _, _, .int _ i => .int _ i
  | _, _, .str _ x => .str _ x
  | _, _, .tup l h => .tup l fun d hd => (h d hd).up
  | _, _, .lst l h => .lst l fun d hd => (h d hd).up
end
end Bo

namespace Bo
open PySem L2
def topS (i : Nat) : Stmt := PySem.Challenge.pw_bestodds_k01_fractions.main.body.getD i (.Pass ⟨0, 0, 0, 0⟩)
abbrev s_ratio : Stmt := topS 2
abbrev s_plus : Stmt := topS 3
abbrev s_minus : Stmt := topS 4
abbrev s_times : Stmt := topS 5
abbrev s_over : Stmt := topS 6
abbrev s_is_less : Stmt := topS 7
abbrev s_l_tape : Stmt := topS 9
abbrev s_l_draw : Stmt := topS 10
abbrev s_l_equal : Stmt := topS 11
abbrev s_l_take : Stmt := topS 12
abbrev s_l_ratio : Stmt := topS 13
abbrev s_l_plus : Stmt := topS 14
abbrev s_l_times : Stmt := topS 15
abbrev s_l_over : Stmt := topS 16
abbrev s_l_number : Stmt := topS 17
abbrev s_law : Stmt := topS 18
structure Env (K : PySem.W.Frag) (mg : Str → Option Value) where
  a_ratio : Addr
  d_ratio : FuncData
  F_ratio : Fun K "ratio" "ratio" s_ratio a_ratio d_ratio
  b_ratio : Binds K d_ratio ["n", "d"] []
  g_ratio : mg "ratio" = some (.ref a_ratio)
  a_plus : Addr
  d_plus : FuncData
  F_plus : Fun K "plus" "plus" s_plus a_plus d_plus
  b_plus : Binds K d_plus ["a", "b"] []
  g_plus : mg "plus" = some (.ref a_plus)
  a_minus : Addr
  d_minus : FuncData
  F_minus : Fun K "minus" "minus" s_minus a_minus d_minus
  b_minus : Binds K d_minus ["a", "b"] []
  g_minus : mg "minus" = some (.ref a_minus)
  a_times : Addr
  d_times : FuncData
  F_times : Fun K "times" "times" s_times a_times d_times
  b_times : Binds K d_times ["a", "b"] []
  g_times : mg "times" = some (.ref a_times)
  a_over : Addr
  d_over : FuncData
  F_over : Fun K "over" "over" s_over a_over d_over
  b_over : Binds K d_over ["a", "b"] []
  g_over : mg "over" = some (.ref a_over)
  a_is_less : Addr
  d_is_less : FuncData
  F_is_less : Fun K "is_less" "is_less" s_is_less a_is_less d_is_less
  b_is_less : Binds K d_is_less ["a", "b"] []
  g_is_less : mg "is_less" = some (.ref a_is_less)
  a_l_tape : Addr
  d_l_tape : FuncData
  F_l_tape : Fun K "_law_tape" "_law_tape" s_l_tape a_l_tape d_l_tape
  b_l_tape : Binds K d_l_tape ["script"] []
  g_l_tape : mg "_law_tape" = some (.ref a_l_tape)
  a_l_draw : Addr
  d_l_draw : FuncData
  F_l_draw : Fun K "_law_draw" "_law_draw" s_l_draw a_l_draw d_l_draw
  b_l_draw : Binds K d_l_draw ["tape", "at", "many"] []
  g_l_draw : mg "_law_draw" = some (.ref a_l_draw)
  a_l_equal : Addr
  d_l_equal : FuncData
  F_l_equal : Fun K "_law_equal" "_law_equal" s_l_equal a_l_equal d_l_equal
  b_l_equal : Binds K d_l_equal ["actual", "due"] []
  g_l_equal : mg "_law_equal" = some (.ref a_l_equal)
  a_l_take : Addr
  d_l_take : FuncData
  F_l_take : Fun K "_law_take" "_law_take" s_l_take a_l_take d_l_take
  b_l_take : Binds K d_l_take ["state", "many"] []
  g_l_take : mg "_law_take" = some (.ref a_l_take)
  a_l_ratio : Addr
  d_l_ratio : FuncData
  F_l_ratio : Fun K "_law_ratio" "_law_ratio" s_l_ratio a_l_ratio d_l_ratio
  b_l_ratio : Binds K d_l_ratio ["n", "d"] []
  g_l_ratio : mg "_law_ratio" = some (.ref a_l_ratio)
  a_l_plus : Addr
  d_l_plus : FuncData
  F_l_plus : Fun K "_law_plus" "_law_plus" s_l_plus a_l_plus d_l_plus
  b_l_plus : Binds K d_l_plus ["a", "b"] []
  g_l_plus : mg "_law_plus" = some (.ref a_l_plus)
  a_l_times : Addr
  d_l_times : FuncData
  F_l_times : Fun K "_law_times" "_law_times" s_l_times a_l_times d_l_times
  b_l_times : Binds K d_l_times ["a", "b"] []
  g_l_times : mg "_law_times" = some (.ref a_l_times)
  a_l_over : Addr
  d_l_over : FuncData
  F_l_over : Fun K "_law_over" "_law_over" s_l_over a_l_over d_l_over
  b_l_over : Binds K d_l_over ["a", "b"] []
  g_l_over : mg "_law_over" = some (.ref a_l_over)
  a_l_number : Addr
  d_l_number : FuncData
  F_l_number : Fun K "_law_number" "_law_number" s_l_number a_l_number d_l_number
  b_l_number : Binds K d_l_number ["state"] []
  g_l_number : mg "_law_number" = some (.ref a_l_number)
  a_law : Addr
  d_law : FuncData
  F_law : Fun K "law" "law" s_law a_law d_law
  b_law : Binds K d_law ["script"] []
  g_law : mg "law" = some (.ref a_law)
  z_abs : mg "abs" = none
  z_bool : mg "bool" = none
  z_int : mg "int" = none
  z_isinstance : mg "isinstance" = none
  z_len : mg "len" = none
  z_list : mg "list" = none
  z_range : mg "range" = none
  z_str : mg "str" = none
  z_tuple : mg "tuple" = none
  z_gcd : mg "gcd" = some (.builtin "math.gcd")
/-! ### lowest terms -/
def rN (n d : Int) : Int := (if d < 0 then -n else n) / (Int.gcd n d : Int)
def rD (n d : Int) : Int := (d.natAbs : Int) / (Int.gcd n d : Int)
theorem gcd_pos {n d : Int} (h : d ≠ 0) : (0 : Int) < (Int.gcd n d : Int) := by
  have : 0 < Int.gcd n d := Int.gcd_pos_iff.mpr (.inr h)
  omega
theorem fdiv_of {n g m : Int} (hg : g ≠ 0) (e : n = g * m) : n.fdiv g = m := by
  rw [e]
  exact Int.mul_fdiv_cancel_left m hg
theorem ediv_of {n g m : Int} (hg : g ≠ 0) (e : n = g * m) : n / g = m := by
  rw [e]
  exact Int.mul_ediv_cancel_left m hg
theorem rN_pos {n d : Int} (h : 0 < d) : n.fdiv (Int.gcd n d : Int) = rN n d := by
  have hg := gcd_pos (n := n) (d := d) (by omega)
  obtain ⟨m, e⟩ := Int.gcd_dvd_left (a := n) (b := d)
  unfold rN
  rw [if_neg (by omega), fdiv_of (by omega) e, ediv_of (by omega) e]
theorem rN_neg {n d : Int} (h : d < 0) : n.fdiv (-(Int.gcd n d : Int)) = rN n d := by
  have hg := gcd_pos (n := n) (d := d) (by omega)
  obtain ⟨m, e⟩ := Int.gcd_dvd_left (a := n) (b := d)
  unfold rN
  rw [if_pos h, fdiv_of (m := -m) (by omega) (by rw [Int.neg_mul_neg]; exact e), ediv_of (m := -m) (by omega) (by rw [Int.mul_neg, ← e])]
theorem rD_pos {n d : Int} (h : 0 < d) : d.fdiv (Int.gcd n d : Int) = rD n d := by
  have hg := gcd_pos (n := n) (d := d) (by omega)
  obtain ⟨m, e⟩ := Int.gcd_dvd_right (a := n) (b := d)
  unfold rD
  have ha : (d.natAbs : Int) = d := by omega
  rw [ha, fdiv_of (by omega) e, ediv_of (by omega) e]
theorem rD_neg {n d : Int} (h : d < 0) : d.fdiv (-(Int.gcd n d : Int)) = rD n d := by
  have hg := gcd_pos (n := n) (d := d) (by omega)
  obtain ⟨m, e⟩ := Int.gcd_dvd_right (a := n) (b := d)
  unfold rD
  have ha : (d.natAbs : Int) = -d := by omega
  rw [ha, fdiv_of (m := -m) (by omega) (by rw [Int.neg_mul_neg]; exact e), ediv_of (m := -m) (by omega) (by rw [Int.mul_neg, ← e])]
theorem gcd_le {n d : Int} (h : d ≠ 0) : Int.gcd n d ≤ d.natAbs := Int.gcd_le_natAbs_right n h
theorem gcd_div {n d g m : Int} (h : d ≠ 0) (hb : d.natAbs < 2 ^ 8000) (e : g.natAbs = Int.gcd n d) : CDivX m g := by
  have hg := gcd_pos (n := n) h
  refine ⟨by omega, Nat.lt_of_lt_of_le (PySem.Flt.log2_lt_of (by decide : 0 < 8000) ?_) (by decide)⟩
  rw [e]
  exact Nat.lt_of_le_of_lt (gcd_le h) hb
theorem rD_pos' {n d : Int} (h : d ≠ 0) : 0 < rD n d := by
  have hg := gcd_pos (n := n) h
  have hl := gcd_le (n := n) h
  unfold rD
  exact Int.ediv_pos_of_pos_of_dvd (by omega) (by omega) (by
    have := Int.gcd_dvd_right (a := n) (b := d)
    exact (Int.dvd_natAbs).mpr this)
theorem div_le_abs (a : Int) {g : Int} (hg : 0 < g) : (a / g).natAbs ≤ a.natAbs := by
  obtain ⟨k, rfl⟩ : ∃ k : Nat, g = k := ⟨g.toNat, by omega⟩
  exact Int.natAbs_ediv_le_natAbs a k
theorem rN_le {n d : Int} (h : d ≠ 0) : (rN n d).natAbs ≤ n.natAbs := by
  have hg := gcd_pos (n := n) h
  unfold rN
  refine Nat.le_trans (div_le_abs _ hg) ?_
  split <;> omega
theorem rD_le {n d : Int} (h : d ≠ 0) : (rD n d).natAbs ≤ d.natAbs := by
  have hg := gcd_pos (n := n) h
  unfold rD
  refine Nat.le_trans (div_le_abs _ hg) ?_
  omega
/-- lowest terms are kept by a common factor -/
theorem rN_scale {n d c : Int} (_ : d ≠ 0) (hc : 0 < c) : rN (n * c) (d * c) = rN n d := by
  have e : (Int.gcd (n * c) (d * c) : Int) = (Int.gcd n d : Int) * c := by
    rw [Int.gcd_mul_right]
    have : (c.natAbs : Int) = c := by omega
    rw [Int.natCast_mul, this]
  unfold rN
  rw [e]
  by_cases h : d < 0
  · rw [if_pos h, if_pos (Int.mul_neg_of_neg_of_pos h hc), ← Int.neg_mul]
    exact Int.mul_ediv_mul_of_pos_left _ _ hc
  · rw [if_neg h, if_neg (by have := Int.mul_nonneg (Int.not_lt.mp h) (Int.le_of_lt hc); omega)]
    exact Int.mul_ediv_mul_of_pos_left _ _ hc
theorem rD_scale {n d c : Int} (_ : d ≠ 0) (hc : 0 < c) : rD (n * c) (d * c) = rD n d := by
  have e : (Int.gcd (n * c) (d * c) : Int) = (Int.gcd n d : Int) * c := by
    rw [Int.gcd_mul_right]
    have : (c.natAbs : Int) = c := by omega
    rw [Int.natCast_mul, this]
  unfold rD
  have e2 : ((d * c).natAbs : Int) = (d.natAbs : Int) * c := by
    rw [Int.natAbs_mul]
    have : (c.natAbs : Int) = c := by omega
    rw [Int.natCast_mul, this]
  rw [e, e2]
  exact Int.mul_ediv_mul_of_pos_left _ _ hc
/-! ### Euclid's way as the law walks it -/
/-- behind i steps: the divisor is kept, the product falls -/
structure Eu (g : Nat) (P : Nat) (i : Nat) (a b : Int) : Prop where
  a0 : 0 ≤ a
  b0 : 0 < b
  gc : Int.gcd a b = g
  pr : 0 < i → a < b
  fall : a.toNat * b.toNat * 2 ^ (i - 1) ≤ P
theorem gcd_mod0 (a b : Int) : Int.gcd (b % a) a = Int.gcd a b := by
  have e : b % a = b - a * (b / a) := Int.emod_def b a
  refine Nat.dvd_antisymm ?_ ?_
  · have h1 := Int.gcd_dvd_left (a := b % a) (b := a)
    have h2 := Int.gcd_dvd_right (a := b % a) (b := a)
    have h3 : ((Int.gcd (b % a) a : Nat) : Int) ∣ b := by
      have h4 := Int.dvd_add h1 (Int.dvd_trans h2 (Int.dvd_mul_right a (b / a)))
      rw [Int.emod_add_mul_ediv] at h4
      exact h4
    exact Int.dvd_gcd h2 h3
  · have h1 := Int.gcd_dvd_left (a := a) (b := b)
    have h2 := Int.gcd_dvd_right (a := a) (b := b)
    have h3 : ((Int.gcd a b : Nat) : Int) ∣ b % a := by
      rw [e]
      exact Int.dvd_sub h2 (Int.dvd_trans h1 (Int.dvd_mul_right a _))
    exact Int.dvd_gcd h3 h1
theorem Eu.step {g P i : Nat} {a b : Int} (e : Eu g P i a b) (h : a ≠ 0) : Eu g P (i + 1) (b.fmod a) a := by
  obtain ⟨a0, b0, gc, pr, fall⟩ := e
  have ha : 0 < a := by omega
  have em : b.fmod a = b % a := Int.fmod_eq_emod_of_nonneg b (by omega)
  rw [em]
  have m0 := Int.emod_nonneg b h
  have m1 := Int.emod_lt_of_pos b ha
  refine ⟨m0, ha, ?_, fun _ => m1, ?_⟩
  · rw [← gc]
    exact gcd_mod0 a b
  · show (b % a).toNat * a.toNat * 2 ^ i ≤ P
    refine Nat.le_trans ?_ fall
    cases i with
    | zero =>
      show (b % a).toNat * a.toNat * 1 ≤ a.toNat * b.toNat * 1
      rw [Nat.mul_one, Nat.mul_one, Nat.mul_comm]
      have hle : b % a ≤ b := by
        by_cases hb : b < a
        · rw [Int.emod_eq_of_lt (by omega) hb]
          exact Int.le_refl _
        · omega
      exact Nat.mul_le_mul_left _ (by omega)
    | succ j =>
      have hab := pr (by omega)
      have hq : a + b % a ≤ b := by
        have h1 := Int.mul_ediv_add_emod b a
        have h2 : 1 ≤ b / a := Int.le_ediv_of_mul_le ha (by omega)
        have h3 : a * 1 ≤ a * (b / a) := Int.mul_le_mul_of_nonneg_left h2 (by omega)
        omega
      have h2 : 2 * (b % a).toNat ≤ b.toNat := by omega
      show (b % a).toNat * a.toNat * 2 ^ (j + 1) ≤ a.toNat * b.toNat * 2 ^ j
      rw [Nat.pow_succ, ← Nat.mul_assoc, Nat.mul_right_comm _ _ 2]
      refine Nat.mul_le_mul_right _ ?_
      rw [Nat.mul_comm ((b % a).toNat * a.toNat) 2, ← Nat.mul_assoc, Nat.mul_comm (2 * (b % a).toNat)]
      exact Nat.mul_le_mul_left _ h2
theorem Eu.done {g P i : Nat} {a b : Int} (e : Eu g P i a b) (h : P < 2 ^ (i - 1)) : a = 0 := by
  obtain ⟨a0, b0, gc, pr, fall⟩ := e
  by_cases ha : a = 0
  · exact ha
  · exfalso
    have h1 : 1 ≤ a.toNat * b.toNat := Nat.mul_pos (by omega) (by omega)
    have h2 := Nat.mul_le_mul_right (2 ^ (i - 1)) h1
    omega
theorem Eu.zero {g P i : Nat} {a b : Int} (e : Eu g P i a b) (h : a = 0) : b = (g : Int) := by
  obtain ⟨a0, b0, gc, pr, fall⟩ := e
  subst h
  rw [Int.gcd_zero_left] at gc
  omega
/-! ### steps of a reading -/
local macro_rules | `(tactic| walk_at "rd1") => `(tactic| (first
  | with_reducible refine r_seq ?_
  | with_reducible refine r_asg ?_
  | with_reducible refine r_name ?_
  | ((with_reducible refine r_var ?_); (refine ⟨_, rfl, ?_⟩))
  | with_reducible refine r_c ?_
  | with_reducible refine r_op ?_
  | with_reducible refine r_un ?_
  | with_reducible refine r_i0 ?_
  | with_reducible refine r_u ?_
  | with_reducible refine r_eqI ?_
  | with_reducible refine r_neI ?_
  | with_reducible refine r_eqS ?_
  | with_reducible refine r_eqB ?_
  | with_reducible refine r_tst ?_
  | with_reducible refine r_tB ?_
  | with_reducible refine r_bl ?_
  | with_reducible refine r_not ?_
  | with_reducible refine r_and ?_
  | with_reducible refine r_or ?_
  | with_reducible refine r_andV ?_
  | with_reducible refine r_orV ?_
  | with_reducible refine r_notV ?_
  | with_reducible refine r_ifs ?_
  | with_reducible refine r_ifE ?_
  | with_reducible refine r_ret ?_
  | with_reducible refine r_retN ?_
  | with_reducible refine r_next ?_
  | with_reducible refine r_brk ?_
  | with_reducible refine r_cont ?_
  | with_reducible refine r_drop ?_
  | with_reducible refine r_nil ?_
  | with_reducible refine r_cons ?_
  | with_reducible refine r_tup ?_
  | with_reducible refine r_lst ?_
  | with_reducible refine r_cb ?_
  | with_reducible refine r_call ?_
  | with_reducible refine r_chain ?_
  | ((with_reducible show V.non = V.non ∧ _); (refine ⟨rfl, ?_⟩))
  | with_reducible refine r_gsub ?_
  | with_reducible refine r_sl ?_
  | with_reducible refine r_nopart ?_
  | with_reducible refine r_part ?_
  | ((with_reducible show ∃ i, V.int _ = V.int i ∧ _); (refine ⟨_, rfl, ?_⟩))
  | with_reducible refine r_bm ?_
  | with_reducible refine r_bm0 ?_
  | with_reducible refine r_dput ?_
  | with_reducible refine r_dnew ?_
  | with_reducible refine r_for ?_
  | with_reducible refine r_iList ?_
  | with_reducible refine r_iTup ?_
  | with_reducible refine r_rng1 ?_
  | with_reducible refine r_rng2 ?_
  | ((with_reducible show (∃ j, [V.int _] = [V.int j] ∧ _) ∨ (∃ k, [V.int _] = [V.bl k] ∧ _)); (refine Or.inl ⟨_, rfl, ?_⟩))
  | ((with_reducible show ∃ j, [V.int _] = [V.int j] ∧ _); (refine ⟨_, rfl, ?_⟩))
  | ((with_reducible show (-(2 ^ 62) : Int) ≤ _ ∧ _ < (2 ^ 62 : Int) ∧ _); (refine ⟨by decide, by decide, ?_⟩))
  | with_reducible refine r_ifT ?_
  | with_reducible refine r_ifF ?_
  | with_reducible refine r_ifNT ?_
  | with_reducible refine r_ifNF ?_
  | (refine r_iC ?_ ?_; (first | exact Or.inl ⟨by decide, by decide⟩ | exact Or.inr ⟨by decide, by decide⟩ | exact ⟨by decide, by decide, by decide⟩ | exact ⟨by decide, by decide⟩ | (show (0 : Int) < _; decide)))))
local macro_rules | `(tactic| walk_at "rd") => `(tactic| repeat walk_at "rd1")
/-! ### the law's draws -/
def TapeOk (ts : List Int) : Prop := (∀ x ∈ ts, 0 ≤ x ∧ x < 2147483629) ∧ ts.length ≤ 3000
theorem map_get {l : List Int} {i : Nat} {y : V} (h : (l.map V.int)[i]? = some y) : ∃ z, l[i]? = some z ∧ y = V.int z := by
  rw [List.getElem?_map] at h
  cases e : l[i]? with
  | none => rw [e] at h; cases h
  | some z => rw [e] at h; exact ⟨z, rfl, (Option.some.inj h).symm⟩
def sp_l_tape (K : PySem.W.Frag) : Sp := fun vs H Q _ => ∃ (a : Addr) (ns : List Int), vs = [.ref a] ∧ SqL K H a (ns.map V.int) ∧ ns.length ≤ 63 ∧
  ∀ (t : Addr) (ts : List Int) (H' : Hp), Same H H' → H t = none → H' t = some (.lst (ts.map V.int)) → TapeOk ts → Q (.ref t) H'
theorem ap_int (ts : List Int) (z : Int) : ts.map V.int ++ [V.int z] = (ts ++ [z]).map V.int := by simp
theorem tape_app {ts : List Int} {z : Int} (h : ∀ x ∈ ts, 0 ≤ x ∧ x < 2147483629) (h0 : 0 ≤ z) (h1 : z < 2147483629) : ∀ x ∈ ts ++ [z], 0 ≤ x ∧ x < 2147483629 := by
  intro x hx
  rcases List.mem_append.mp hx with q | q
  · exact h x q
  · rw [List.mem_singleton.mp q]
    exact ⟨h0, h1⟩
theorem same_mut {H H' : Hp} {t : Addr} {o : HO} (e : Same H H') (h : H t = none) : Same H (upd H' t o) := fun b u q => by
  rw [upd_ne (ne_of_none q h)]
  exact e b u q
theorem sc_l_tape : FnScope ["script", "tape", "cell", "number", "k", "first"] ["script"] (defScope s_l_tape) := ⟨rfl, rfl, rfl, by decide +kernel, rfl, by decide +kernel, by decide +kernel⟩
theorem ok_l_tape {P : Program} {w : World} {K : PySem.W.Frag} {mg : Str → Option Value} {base : Heap} (T : Env K mg) : FnOk P w K mg base CX0 1 T.a_l_tape T.d_l_tape ["script"] (sp_l_tape K) := by
  refine T.F_l_tape.ok sc_l_tape (fun vs H Q E h => ?_) (fun cdv A outer s H vs Q E hr h => ?_)
  · obtain ⟨a, ns, rfl, _⟩ := h
    rfl
  · obtain ⟨a, ns, rfl, hS, hlen, k⟩ := h
    refine ⟨_, (pss_cons (ps_set (i := 1) sc_l_tape.nd rfl (Or.inl rfl) (pe_lst pa_nil))
      (pss_cons (ps_for PassesOwn.never rfl (pi_list (pv 0)) (pg_name (i := 2) sc_l_tape.nd rfl (Or.inl rfl)) (pss_cons (ps_set (i := 3) sc_l_tape.nd rfl (Or.inl rfl) (pe_op op_mul pe_int (pe_callTy call_int1 (by rfl) T.z_int (by decide +kernel) (pa_cons (pv 2) pa_nil))))
      (C8.pss_cut (ps_if (pt_cmpR op_lt (pv 3) pe_int (nomark _)) (pss_one (ps_set (i := 3) sc_l_tape.nd rfl (Or.inl rfl) (pe_op op_sub (pe_un un_neg pe_int) (pv 3)))) pss_nil)
      (pss_one (ps_if (pt_cmpR op_ge (pv 3) (pe_op op_pow pe_int pe_int) (nomark _)) (pss_one (ps_for PassesOwn.never rfl (pi_range1 (by rfl) T.z_range (pa_cons pe_int pa_nil)) (pg_name (i := 4) sc_l_tape.nd rfl (Or.inl rfl)) (pss_one (ps_if (pt_cmpR op_gt (pv 3) pe_int (nomark _)) (pss_cons (ps_expr (pe_bm PySem.F.plainAttrs_list PySem.F.slot_list_append PySem.F.type_list_append mt_append (pv 1) (pa_cons (pe_op op_mod (pe_callTy call_int1 (by rfl) T.z_int (by decide +kernel) (pa_cons (pv 3) pa_nil)) pe_int) pa_nil)))
      (pss_one (ps_set (i := 3) sc_l_tape.nd rfl (Or.inl rfl) (pe_op op_fdiv (pv 3) pe_int)))) pss_nil)))) (pss_one (ps_for PassesOwn.never rfl (pi_range1 (by rfl) T.z_range (pa_cons pe_int pa_nil)) (pg_name (i := 4) sc_l_tape.nd rfl (Or.inl rfl)) (pss_cons (ps_set (i := 5) sc_l_tape.nd rfl (Or.inl rfl) (pe_op op_mod (pe_callTy call_int1 (by rfl) T.z_int (by decide +kernel) (pa_cons (pe_op op_add (pe_op op_add (pe_op op_mul (pv 3) pe_int) (pe_op op_mul (pv 4) pe_int)) pe_int) pa_nil)) pe_int))
      (pss_one (ps_expr (pe_bm PySem.F.plainAttrs_list PySem.F.slot_list_append PySem.F.type_list_append mt_append (pv 1) (pa_cons (pe_op op_mod (pe_callTy call_int1 (by rfl) T.z_int (by decide +kernel) (pa_cons (pe_op op_add (pe_op op_mul (pv 5) pe_int) (pe_op op_fdiv (pv 5) pe_int)) pa_nil)) pe_int) pa_nil))))))))))))
      (pss_one (ps_ret (pv 1))))), ?_⟩
    walk_at "rd"
    refine ⟨by decide, fun t ht => ?_⟩
    walk_at "rd"
    refine ⟨a, rfl, ⟨_, sm_l (sm_new ht) hS⟩, for_list (K := K) (a := a) (xs := ns.map V.int) (fun i σ H' => ∃ (ts : List Int) (v2 v3 v4 v5 : Option V), σ = [some (.ref a), some (.ref t), v2, v3, v4, v5] ∧ Same H H' ∧ H' t = some (.lst (ts.map V.int)) ∧ (∀ x ∈ ts, 0 ≤ x ∧ x < 2147483629) ∧ ts.length ≤ 40 * i)
      ⟨[], none, none, none, none, rfl, sm_new ht, upd_same, by simp, by simp⟩ (fun i σ H' _ ⟨_, _, _, _, _, _, s5, _⟩ => sm_l s5 hS) ?_ ?_⟩
    · rintro i y σ H' hi ⟨ts, v2, v3, v4, v5, rfl, s5, hT, hb, hl⟩
      have hi63 : i < 63 := by
        have q := (List.getElem?_eq_some_iff.mp hi).1
        rw [List.length_map] at q
        omega
      obtain ⟨z, hz, rfl⟩ := map_get hi
      walk_at "rd"
      refine r_cut (fun σ' H1 => ∃ m : Int, 0 ≤ m ∧ σ' = [some (.ref a), some (.ref t), some (.int z), some (.int m), v4, v5] ∧ H1 = H') ?_ ?_
      · walk_at "rd"
        refine r_if (fun c => ?_) (fun c => ?_)
        · walk_at "rd"
          exact ⟨_, by omega, rfl, rfl⟩
        · walk_at "rd"
          exact ⟨_, by omega, rfl, rfl⟩
      · rintro σ' H1 ⟨m, hm, rfl, rfl⟩
        walk_at "rd"
        refine r_if (fun c => ?_) (fun c => ?_)
        · walk_at "rd"
          refine for_range (n := 40) (fun j σ H2 => ∃ (m : Int) (us : List Int) (v4 : Option V), 0 ≤ m ∧ σ = [some (.ref a), some (.ref t), some (.int z), some (.int m), v4, v5] ∧ Same H H2 ∧ H2 t = some (.lst (us.map V.int)) ∧ (∀ x ∈ us, 0 ≤ x ∧ x < 2147483629) ∧ us.length ≤ 40 * i + j)
            ⟨m, ts, _, hm, rfl, s5, hT, hb, hl⟩ ?_ ?_
          · rintro j σ H2 hj ⟨m, us, v4, hm, rfl, s6, hU, hu, hul⟩
            walk_at "rd"
            refine r_if (fun c => ?_) (fun c => ?_)
            · walk_at "rd"
              refine r_tyL (SqL.of hU) ?_
              walk_at "rd"
              refine r_app hU (by rw [List.length_map]; omega) ?_
              walk_at "rd"
              refine ⟨_, us ++ [m % 1000], _, Int.ediv_nonneg hm (by decide), rfl, same_mut s6 ht, by rw [ap_int]; exact upd_same, tape_app hu (Int.emod_nonneg _ (by decide)) (by have := Int.emod_lt_of_pos m (show (0 : Int) < 1000 by decide); omega), by rw [List.length_append]; simp; omega⟩
            · walk_at "rd"
              exact ⟨m, us, _, hm, rfl, s6, hU, hu, by omega⟩
          · rintro σ H2 ⟨m, us, v4, hm, rfl, s6, hU, hu, hul⟩
            exact ⟨us, _, _, _, _, rfl, s6, hU, hu, by omega⟩
        · walk_at "rd"
          refine for_range (n := 3) (fun j σ H2 => ∃ (us : List Int) (v4 v5 : Option V), σ = [some (.ref a), some (.ref t), some (.int z), some (.int m), v4, v5] ∧ Same H H2 ∧ H2 t = some (.lst (us.map V.int)) ∧ (∀ x ∈ us, 0 ≤ x ∧ x < 2147483629) ∧ us.length ≤ 40 * i + j)
            ⟨ts, _, _, rfl, s5, hT, hb, hl⟩ ?_ ?_
          · rintro j σ H2 hj ⟨us, v4, v5, rfl, s6, hU, hu, hul⟩
            walk_at "rd"
            refine r_tyL (SqL.of hU) ?_
            walk_at "rd"
            refine r_app hU (by rw [List.length_map]; omega) ?_
            walk_at "rd"
            refine ⟨us ++ [_], _, _, rfl, same_mut s6 ht, by rw [ap_int]; exact upd_same, tape_app hu (Int.emod_nonneg _ (by decide)) (Int.emod_lt_of_pos _ (by decide)), by rw [List.length_append]; simp; omega⟩
          · rintro σ H2 ⟨us, v4, v5, rfl, s6, hU, hu, hul⟩
            exact ⟨us, _, _, _, _, rfl, s6, hU, hu, by omega⟩
    · rintro σ H' ⟨ts, v2, v3, v4, v5, rfl, s5, hT, hb, hl⟩
      walk_at "rd"
      exact k t ts H' s5 ht hT ⟨hb, by rw [List.length_map] at hl; omega⟩
/-- a draw below m out of a tape -/
def sp_l_draw (K : PySem.W.Frag) : Sp := fun vs H Q _ => ∃ (t : Addr) (ts : List Int) (at_ m : Int), vs = [.ref t, .int at_, .int m] ∧ SqL K H t (ts.map V.int) ∧ TapeOk ts ∧ 0 ≤ at_ ∧ at_ ≤ 2 ^ 41 ∧ 0 < m ∧
  ∀ r : Int, 0 ≤ r → r < m → Q (.int r) H
theorem at_map {ts : List Int} {i : Int} (h0 : 0 ≤ i) (h : i < (ts.length : Int)) : ∃ z, z ∈ ts ∧ atI (ts.map V.int) i = some (V.int z) := by
  obtain ⟨j, rfl⟩ : ∃ j : Nat, i = (j : Int) := ⟨i.toNat, by omega⟩
  have hj : j < ts.length := by omega
  refine ⟨ts[j], List.getElem_mem hj, at_of (j := j) rfl ?_⟩
  rw [List.getElem?_map, List.getElem?_eq_getElem hj]
  rfl
theorem modN {i m : Int} (h : 0 < m) : 0 ≤ i.fmod m ∧ i.fmod m < m := ⟨Int.fmod_nonneg_of_pos i h, Int.fmod_lt_of_pos i h⟩
theorem sc_l_draw : FnScope ["tape", "at", "many", "number"] ["tape", "at", "many"] (defScope s_l_draw) := ⟨rfl, rfl, rfl, by decide +kernel, rfl, by decide +kernel, by decide +kernel⟩
theorem ok_l_draw {P : Program} {w : World} {K : PySem.W.Frag} {mg : Str → Option Value} {base : Heap} (T : Env K mg) : FnOk P w K mg base CX0 1 T.a_l_draw T.d_l_draw ["tape", "at", "many"] (sp_l_draw K) := by
  refine T.F_l_draw.ok sc_l_draw (fun vs H Q E h => ?_) (fun cdv A outer s H vs Q E hr h => ?_)
  · obtain ⟨t, ts, at_, m, rfl, _⟩ := h
    rfl
  · obtain ⟨t, ts, at_, m, rfl, hT, ⟨hb, hl⟩, h0, h1, hm, k⟩ := h
    refine ⟨_, (pss_cons (ps_if (pt_cmpR op_lt (pv 1) (pe_callB call_len_seq (by rfl) T.z_len (by decide +kernel) (pa_cons (pv 0) pa_nil)) (nomark _)) (pss_one (ps_ret (pe_op op_modN (pe_callTy call_int1 (by rfl) T.z_int (by decide +kernel) (pa_cons (pe_ix ix_list (pv 0) (pv 1) (fun _ _ => rfl)) pa_nil)) (pv 2)))) pss_nil)
      (pss_cons (ps_set (i := 3) sc_l_draw.nd rfl (Or.inl rfl) pe_int)
      (C8.pss_cut (ps_if (pt_cmpR op_gt (pe_callB call_len_seq (by rfl) T.z_len (by decide +kernel) (pa_cons (pv 0) pa_nil)) pe_int (nomark _)) (pss_one (ps_set (i := 3) sc_l_draw.nd rfl (Or.inl rfl) (pe_ix ix_list (pv 0) (pe_op op_modN (pe_callTy call_int1 (by rfl) T.z_int (by decide +kernel) (pa_cons (pv 1) pa_nil)) (pe_callB call_len_seq (by rfl) T.z_len (by decide +kernel) (pa_cons (pv 0) pa_nil))) (fun _ _ => rfl)))) pss_nil)
      (pss_one (ps_ret (pe_op op_modN (pe_op op_mod (pe_callTy call_int1 (by rfl) T.z_int (by decide +kernel) (pa_cons (pe_op op_add (pe_op op_mul (pe_op op_mul (pe_op op_add (pv 3) (pv 1)) (pe_op op_add (pv 1) pe_int)) pe_int) (pe_op op_mul (pv 1) pe_int)) pa_nil)) pe_int) (pv 2))))))), ?_⟩
    walk_at "rd"
    refine ⟨t, _, rfl, .inl hT, ?_⟩
    walk_at "rd"
    refine r_if (fun c => ?_) (fun c => ?_)
    · walk_at "rd"
      obtain ⟨z, hz, ha⟩ := at_map h0 (by rw [List.length_map] at c; exact c)
      refine r_ixL hT ha ?_
      walk_at "rd"
      refine r_iC (by omega) ?_
      exact k _ (modN hm).1 (modN hm).2
    · walk_at "rd"
      refine r_cut (fun σ' H1 => ∃ n : Int, 0 ≤ n ∧ n < 2147483629 ∧ σ' = [some (.ref t), some (.int at_), some (.int m), some (.int n)] ∧ H1 = H) ?_ ?_
      · walk_at "rd"
        refine ⟨t, _, rfl, .inl hT, ?_⟩
        walk_at "rd"
        refine r_if (fun c => ?_) (fun c => ?_)
        · walk_at "rd"
          refine ⟨t, _, rfl, .inl hT, ?_⟩
          refine r_iC (by omega) ?_
          have hp : 0 < ((ts.map V.int).length : Int) := c
          obtain ⟨z, hz, ha⟩ := at_map (ts := ts) (modN (i := at_) hp).1 (by have := (modN (i := at_) hp).2; rw [List.length_map] at this ⊢; exact this)
          refine r_ixL hT ha ?_
          walk_at "rd"
          exact ⟨z, (hb z hz).1, (hb z hz).2, rfl, rfl⟩
        · walk_at "rd"
          exact ⟨1, by decide, by decide, rfl, rfl⟩
      · rintro σ' H1 ⟨n, n0, n1, rfl, rfl⟩
        walk_at "rd"
        refine r_iC (.inl ⟨by omega, by omega⟩) ?_
        walk_at "rd"
        refine r_iC (by omega) ?_
        exact k _ (modN hm).1 (modN hm).2
/-! ### the law's state: a list of the tape and the place -/
structure Tp (K : PySem.W.Frag) (H : Hp) (p t : Addr) (ts : List Int) (n : Int) : Prop where
  at_ : ∃ i : Int, H p = some (.lst [.ref t, .int i]) ∧ 0 ≤ i ∧ i ≤ n
  tape : SqL K (mn H p) t (ts.map V.int)
  ok : TapeOk ts
theorem Tp.obj {K : PySem.W.Frag} {H : Hp} {p t : Addr} {ts : List Int} {n : Int} (T : Tp K H p t ts n) : ∃ xs, H p = some (.lst xs) := by
  obtain ⟨i, h, _⟩ := T.at_
  exact ⟨_, h⟩
/-- a call that leaves all that was -/
theorem Tp.same {K : PySem.W.Frag} {H H' : Hp} {p t : Addr} {ts : List Int} {n : Int} (T : Tp K H p t ts n) (e : Same H H') : Tp K H' p t ts n := by
  obtain ⟨⟨i, h, h0, h1⟩, tp, ok⟩ := T
  exact ⟨⟨i, e _ _ h, h0, h1⟩, sm_l (mn_mono e) tp, ok⟩
theorem Tp.mono {K : PySem.W.Frag} {H : Hp} {p t : Addr} {ts : List Int} {n m : Int} (T : Tp K H p t ts n) (h : n ≤ m) : Tp K H p t ts m := by
  obtain ⟨⟨i, e, h0, h1⟩, tp, ok⟩ := T
  exact ⟨⟨i, e, h0, by omega⟩, tp, ok⟩
def sp_l_take (K : PySem.W.Frag) : Sp := fun vs H Q _ => ∃ (p t : Addr) (ts : List Int) (n m : Int), vs = [.ref p, .int m] ∧ Tp K H p t ts n ∧ n ≤ 2 ^ 40 ∧ 0 < m ∧
  ∀ (r : Int) (H' : Hp), 0 ≤ r → r < m → Tp K H' p t ts (n + 1) → Same (mn H p) (mn H' p) → (∀ b, b ≠ p → H' b = H b) → Q (.int r) H'
theorem sc_l_take : FnScope ["state", "many"] ["state", "many"] (defScope s_l_take) := ⟨rfl, rfl, rfl, by decide +kernel, rfl, by decide +kernel, by decide +kernel⟩
theorem ok_l_take {P : Program} {w : World} {K : PySem.W.Frag} {mg : Str → Option Value} {base : Heap} (T : Env K mg) : FnOk P w K mg base CX0 2 T.a_l_take T.d_l_take ["state", "many"] (sp_l_take K) := by
  refine T.F_l_take.ok sc_l_take (fun vs H Q E h => ?_) (fun cdv A outer s H vs Q E hr h => ?_)
  · obtain ⟨p, t, ts, n, m, rfl, _⟩ := h
    rfl
  · obtain ⟨p, t, ts, n, m, rfl, ⟨⟨i, h, h0, h1⟩, tp, ok⟩, hn, hm, k⟩ := h
    have G_l_draw := ok_l_draw (P := P) (w := w) (base := base) T
    have hr_l_draw : Room 1 _ := hr.mono (by decide)
    refine ⟨_, (pss_cons (ps_asg (pe_op op_add (pe_ix ix_list (pv 0) pe_int (fun _ _ => rfl)) pe_int) (pg_sub (pv 0) pe_int set_list))
      (pss_one (ps_ret (pe_call G_l_draw hr_l_draw (by rfl) T.g_l_draw T.F_l_draw.kp T.b_l_draw .nil pass0 (pa_cons (pe_ix ix_list (pv 0) pe_int (fun _ _ => rfl)) (pa_cons (pe_ix ix_list (pv 0) pe_int (fun _ _ => rfl)) (pa_cons (pv 1) pa_nil))))))), ?_⟩
    walk_at "rd"
    refine r_ixL (SqL.of h) (v := .int i) rfl ?_
    walk_at "rd"
    refine r_setL h (j := 1) rfl ?_
    walk_at "rd"
    refine r_ixL (SqL.of upd_same) (v := .ref t) rfl ?_
    walk_at "rd"
    refine r_ixL (SqL.of upd_same) (v := .int (i + 1)) rfl ?_
    walk_at "rd"
    have e : mn (upd H p (.lst [.ref t, .int (i + 1)])) p = mn H p := mn_upd
    refine ⟨t, ts, i + 1, m, rfl, sm_l mn_le (by rw [← e] at tp; exact tp), ok, by omega, by omega, hm, fun r r0 r1 => ?_⟩
    refine k r _ r0 r1 ⟨⟨i + 1, upd_same, by omega, by omega⟩, by rw [← e] at tp; exact tp, ok⟩ ?_ fun b hb => upd_ne hb
    rw [← e]
    exact Same.refl _
/-! ### equal data are told equal -/
def sp_eq (K : PySem.W.Frag) : Nat → Sp
  | 0 => fun _ _ _ _ => False
  | n + 1 => fun vs H Q _ => ∃ (x y : V) (d : PyData), vs = [x, y] ∧ Dp K H x d ∧ Dp K H y d ∧ Dn n d ∧ Q (.bl true) H
theorem sc_l_equal : FnScope ["actual", "due", "k"] ["actual", "due"] (defScope s_l_equal) := ⟨rfl, rfl, rfl, by decide +kernel, rfl, by decide +kernel, by decide +kernel⟩
theorem len_map_int (ds : List PyData) (vs : List V) (e : vs.length = ds.length) (h : vs.length ≤ sizeLine) : (ds.length : Int) < 2 ^ 62 := by
  have : sizeLine = 16777216 := sizeLine_eq
  omega
theorem ok_eq_rec {P : Program} {w : World} {K : PySem.W.Frag} {mg : Str → Option Value} {base : Heap} (T : Env K mg) : ∀ n, FnOk P w K mg base CX0 (n + 1) T.a_l_equal T.d_l_equal ["actual", "due"] (sp_eq K n)
  | 0 => T.F_l_equal.ok sc_l_equal (fun vs H Q E h => h.elim) (fun cdv A outer s H vs Q E hr h => h.elim)
  | n + 1 => by
    have G_l_equal := ok_eq_rec (P := P) (w := w) (base := base) T n
    refine T.F_l_equal.ok sc_l_equal (fun vs H Q E h => ?_) (fun cdv A outer s H vs Q E hr h => ?_)
    · obtain ⟨x, y, d, rfl, _⟩ := h
      rfl
    · obtain ⟨x, y, d, rfl, hx, hy, hd, k⟩ := h
      have hr_l_equal := hr
      refine ⟨_, (pss_cons (ps_if (pt_cmpR op_isN (pv 1) pe_non (nomark _)) (pss_one (ps_ret (pe_cmpR op_isN (pv 0) pe_non (nomark _)))) pss_nil)
      (pss_cons (ps_if (pt_val (pe_callB call_isi (by rfl) T.z_isinstance (by decide +kernel) (pa_cons (pv 1) (pa_cons (pe_bltn (v := .ty "bool") (by rfl) T.z_bool (by decide +kernel) rfl) pa_nil)))) (pss_one (ps_ret (pe_and (pe_callB call_isi (by rfl) T.z_isinstance (by decide +kernel) (pa_cons (pv 0) (pa_cons (pe_bltn (v := .ty "bool") (by rfl) T.z_bool (by decide +kernel) rfl) pa_nil))) (pe_one (pe_cmpR op_eq (pv 0) (pv 1) (nomark _)))))) pss_nil)
      (pss_cons (ps_if (pt_val (pe_callB call_isi (by rfl) T.z_isinstance (by decide +kernel) (pa_cons (pv 1) (pa_cons (pe_bltn (v := .ty "int") (by rfl) T.z_int (by decide +kernel) rfl) pa_nil)))) (pss_one (ps_ret (pe_and (pe_callB call_isi (by rfl) T.z_isinstance (by decide +kernel) (pa_cons (pv 0) (pa_cons (pe_bltn (v := .ty "int") (by rfl) T.z_int (by decide +kernel) rfl) pa_nil))) (pe_and (pe_not (pe_callB call_isi (by rfl) T.z_isinstance (by decide +kernel) (pa_cons (pv 0) (pa_cons (pe_bltn (v := .ty "bool") (by rfl) T.z_bool (by decide +kernel) rfl) pa_nil)))) (pe_one (pe_cmpR op_eq (pv 0) (pv 1) (nomark _))))))) pss_nil)
      (pss_cons (ps_if (pt_val (pe_callB call_isi (by rfl) T.z_isinstance (by decide +kernel) (pa_cons (pv 1) (pa_cons (pe_bltn (v := .ty "str") (by rfl) T.z_str (by decide +kernel) rfl) pa_nil)))) (pss_one (ps_ret (pe_and (pe_callB call_isi (by rfl) T.z_isinstance (by decide +kernel) (pa_cons (pv 0) (pa_cons (pe_bltn (v := .ty "str") (by rfl) T.z_str (by decide +kernel) rfl) pa_nil))) (pe_one (pe_cmpR op_eq (pv 0) (pv 1) (nomark _)))))) pss_nil)
      (pss_cons (ps_if (PW.pt (pw_and (pt_val (pe_callB call_isi (by rfl) T.z_isinstance (by decide +kernel) (pa_cons (pv 1) (pa_cons (pe_bltn (v := .ty "tuple") (by rfl) T.z_tuple (by decide +kernel) rfl) pa_nil)))) (pw_and1 (pt_not (pt_val (pe_callB call_isi (by rfl) T.z_isinstance (by decide +kernel) (pa_cons (pv 0) (pa_cons (pe_bltn (v := .ty "tuple") (by rfl) T.z_tuple (by decide +kernel) rfl) pa_nil)))))))) (pss_one (ps_ret pe_bl)) pss_nil)
      (pss_cons (ps_if (PW.pt (pw_and (pt_val (pe_callB call_isi (by rfl) T.z_isinstance (by decide +kernel) (pa_cons (pv 1) (pa_cons (pe_bltn (v := .ty "list") (by rfl) T.z_list (by decide +kernel) rfl) pa_nil)))) (pw_and1 (pt_not (pt_val (pe_callB call_isi (by rfl) T.z_isinstance (by decide +kernel) (pa_cons (pv 0) (pa_cons (pe_bltn (v := .ty "list") (by rfl) T.z_list (by decide +kernel) rfl) pa_nil)))))))) (pss_one (ps_ret pe_bl)) pss_nil)
      (pss_cons (ps_if (pt_cmpR op_ne (pe_callB call_len_seq (by rfl) T.z_len (by decide +kernel) (pa_cons (pv 0) pa_nil)) (pe_callB call_len_seq (by rfl) T.z_len (by decide +kernel) (pa_cons (pv 1) pa_nil)) (nomark _)) (pss_one (ps_ret pe_bl)) pss_nil)
      (pss_cons (ps_for PassesOwn.never rfl (pi_range1 (by rfl) T.z_range (pa_cons (pe_callB call_len_seq (by rfl) T.z_len (by decide +kernel) (pa_cons (pv 1) pa_nil)) pa_nil)) (pg_name (i := 2) sc_l_equal.nd rfl (Or.inl rfl)) (pss_one (ps_if (pt_not (pt_val (pe_call G_l_equal hr_l_equal (by rfl) T.g_l_equal T.F_l_equal.kp T.b_l_equal .nil pass0 (pa_cons (pe_ix ix_seq (pv 0) (pv 2) (fun _ _ => rfl)) (pa_cons (pe_ix ix_seq (pv 1) (pv 2) (fun _ _ => rfl)) pa_nil))))) (pss_one (ps_ret pe_bl)) pss_nil)))
      (pss_one (ps_ret pe_bl)))))))))), ?_⟩
      cases hd with
      | non =>
        cases hx
        cases hy
        walk_at "rd"
        refine r_if (fun _ => ?_) (fun c => absurd rfl c)
        walk_at "rd"
        exact k
      | bl _ b =>
        cases hx
        cases hy
        walk_at "rd"
        refine r_if (fun c => nomatch c) (fun _ => ?_)
        walk_at "rd"
        refine r_isi (a := "bool") true (.base (.bl b)) (by decide +kernel) ?_
        walk_at "rd"
        refine r_isi (a := "bool") true (.base (.bl b)) (by decide +kernel) ?_
        walk_at "rd"
        rw [decide_eq_true rfl]
        exact k
      | int _ i =>
        cases hx
        cases hy
        walk_at "rd"
        refine r_if (fun c => nomatch c) (fun _ => ?_)
        walk_at "rd"
        refine r_isi (a := "int") false (.base (.int i)) (by decide +kernel) ?_
        walk_at "rd"
        refine r_isi (a := "int") true (.base (.int i)) (by decide +kernel) ?_
        walk_at "rd"
        refine r_isi (a := "int") true (.base (.int i)) (by decide +kernel) ?_
        walk_at "rd"
        refine r_isi (a := "int") false (.base (.int i)) (by decide +kernel) ?_
        walk_at "rd"
        rw [decide_eq_true rfl]
        exact k
      | str _ z =>
        cases hx
        cases hy
        walk_at "rd"
        refine r_if (fun c => nomatch c) (fun _ => ?_)
        walk_at "rd"
        refine r_isi (a := "str") false (.base (.str z)) (by decide +kernel) ?_
        walk_at "rd"
        refine r_isi (a := "str") false (.base (.str z)) (by decide +kernel) ?_
        walk_at "rd"
        refine r_isi (a := "str") true (.base (.str z)) (by decide +kernel) ?_
        walk_at "rd"
        refine r_isi (a := "str") true (.base (.str z)) (by decide +kernel) ?_
        walk_at "rd"
        rw [decide_eq_true rfl]
        exact k
      | @tup m ds hl hd =>
        cases hx with
        | @tup a xs _ hs ha =>
        cases hy with
        | @tup b ys _ ht hb =>
        walk_at "rd"
        refine r_if (fun c => nomatch c) (fun _ => ?_)
        walk_at "rd"
        refine r_isi (a := "tuple") false (tyx_t ht) (by decide +kernel) ?_
        walk_at "rd"
        refine r_isi (a := "tuple") false (tyx_t ht) (by decide +kernel) ?_
        walk_at "rd"
        refine r_isi (a := "tuple") false (tyx_t ht) (by decide +kernel) ?_
        walk_at "rd"
        refine r_isi (a := "tuple") true (tyx_t ht) (by decide +kernel) ?_
        walk_at "rd"
        refine r_isi (a := "tuple") true (tyx_t hs) (by decide +kernel) ?_
        walk_at "rd"
        refine r_isi (a := "tuple") false (tyx_t ht) (by decide +kernel) ?_
        walk_at "rd"
        refine ⟨a, _, rfl, .inr hs, ?_⟩
        walk_at "rd"
        refine ⟨b, _, rfl, .inr ht, ?_⟩
        walk_at "rd"
        have lx := dpa_len ha
        have ly := dpa_len hb
        refine r_ifN (fun c => absurd (by rw [lx, ly]) c) (fun _ => ?_)
        walk_at "rd"
        refine ⟨b, _, rfl, .inr ht, ?_⟩
        walk_at "rd"
        refine ⟨by omega, by omega, ?_⟩
        refine for_range (n := ys.length) (fun i σ H2 => ∃ v : Option V, σ = [some (.ref a), some (.ref b), v] ∧ H2 = H) ⟨none, rfl, rfl⟩ ?_ ?_
        · rintro i σ H2 hi ⟨v, rfl, rfl⟩
          obtain ⟨d, hdi⟩ : ∃ d, ds[i]? = some d := ⟨ds[i]'(by omega), List.getElem?_eq_getElem (by omega)⟩
          obtain ⟨x, hx1, hx2⟩ := dpa_get ha hdi
          obtain ⟨y, hy1, hy2⟩ := dpa_get hb hdi
          walk_at "rd"
          refine r_ixQT hs (at_of (j := i) (by omega) hx1) ?_
          walk_at "rd"
          refine r_ixQT ht (at_of (j := i) (by omega) hy1) ?_
          walk_at "rd"
          refine ⟨x, y, d, rfl, hx2, hy2, hd d (List.mem_of_getElem? hdi), ?_⟩
          walk_at "rd"
          exact ⟨_, rfl, rfl⟩
        · rintro σ H2 ⟨v, rfl, rfl⟩
          walk_at "rd"
          exact k
      | @lst m ds hl hd =>
        cases hx with
        | @lst a xs _ hs ha =>
        cases hy with
        | @lst b ys _ ht hb =>
        walk_at "rd"
        refine r_if (fun c => nomatch c) (fun _ => ?_)
        walk_at "rd"
        refine r_isi (a := "list") false (tyx_l ht) (by decide +kernel) ?_
        walk_at "rd"
        refine r_isi (a := "list") false (tyx_l ht) (by decide +kernel) ?_
        walk_at "rd"
        refine r_isi (a := "list") false (tyx_l ht) (by decide +kernel) ?_
        walk_at "rd"
        refine r_isi (a := "list") false (tyx_l ht) (by decide +kernel) ?_
        walk_at "rd"
        refine r_isi (a := "list") true (tyx_l ht) (by decide +kernel) ?_
        walk_at "rd"
        refine r_isi (a := "list") true (tyx_l hs) (by decide +kernel) ?_
        walk_at "rd"
        refine ⟨a, _, rfl, .inl hs, ?_⟩
        walk_at "rd"
        refine ⟨b, _, rfl, .inl ht, ?_⟩
        walk_at "rd"
        have lx := dpa_len ha
        have ly := dpa_len hb
        refine r_ifN (fun c => absurd (by rw [lx, ly]) c) (fun _ => ?_)
        walk_at "rd"
        refine ⟨b, _, rfl, .inl ht, ?_⟩
        walk_at "rd"
        refine ⟨by omega, by omega, ?_⟩
        refine for_range (n := ys.length) (fun i σ H2 => ∃ v : Option V, σ = [some (.ref a), some (.ref b), v] ∧ H2 = H) ⟨none, rfl, rfl⟩ ?_ ?_
        · rintro i σ H2 hi ⟨v, rfl, rfl⟩
          obtain ⟨d, hdi⟩ : ∃ d, ds[i]? = some d := ⟨ds[i]'(by omega), List.getElem?_eq_getElem (by omega)⟩
          obtain ⟨x, hx1, hx2⟩ := dpa_get ha hdi
          obtain ⟨y, hy1, hy2⟩ := dpa_get hb hdi
          walk_at "rd"
          refine r_ixQL hs (at_of (j := i) (by omega) hx1) ?_
          walk_at "rd"
          refine r_ixQL ht (at_of (j := i) (by omega) hy1) ?_
          walk_at "rd"
          refine ⟨x, y, d, rfl, hx2, hy2, hd d (List.mem_of_getElem? hdi), ?_⟩
          walk_at "rd"
          exact ⟨_, rfl, rfl⟩
        · rintro σ H2 ⟨v, rfl, rfl⟩
          walk_at "rd"
          exact k
theorem ok_l_equal {P : Program} {w : World} {K : PySem.W.Frag} {mg : Str → Option Value} {base : Heap} (T : Env K mg) : FnOk P w K mg base CX0 3 T.a_l_equal T.d_l_equal ["actual", "due"] (sp_eq K (3 - 1)) := ok_eq_rec T _
/-! ### fractions of the program -/
def sp_ratio (K : PySem.W.Frag) : Sp := fun vs H Q _ => ∃ (n d : Int), vs = [.int n, .int d] ∧ d ≠ 0 ∧ d.natAbs < 2 ^ 8000 ∧
  ∀ (p : Addr) (H' : Hp), Same H H' → H p = none → H' p = some (.tup [.int (rN n d), .int (rD n d)]) → Q (.ref p) H'
theorem sc_ratio : FnScope ["n", "d", "shared"] ["n", "d"] (defScope s_ratio) := ⟨rfl, rfl, rfl, by decide +kernel, rfl, by decide +kernel, by decide +kernel⟩
theorem ok_ratio {P : Program} {w : World} {K : PySem.W.Frag} {mg : Str → Option Value} {base : Heap} (T : Env K mg) : FnOk P w K mg base CX0 1 T.a_ratio T.d_ratio ["n", "d"] (sp_ratio K) := by
  refine T.F_ratio.ok sc_ratio (fun vs H Q E h => ?_) (fun cdv A outer s H vs Q E hr h => ?_)
  · obtain ⟨n, d, rfl, _⟩ := h
    rfl
  · obtain ⟨n, d, rfl, hd, hb, k⟩ := h
    refine ⟨_, (pss_cons (ps_set (i := 2) sc_ratio.nd rfl (Or.inl rfl) (pe_callBfun cr_gcd (by rfl) T.z_gcd (pa_cons (pv 0) (pa_cons (pv 1) pa_nil))))
      (C8.pss_cut (ps_if (pt_cmpR op_lt (pv 1) pe_int (nomark _)) (pss_one (ps_set (i := 2) sc_ratio.nd rfl (Or.inl rfl) (pe_un un_neg (pv 2)))) pss_nil)
      (pss_one (ps_ret (pe_tup (pa_cons (pe_op op_fdivX (pv 0) (pv 2)) (pa_cons (pe_op op_fdivX (pv 1) (pv 2)) pa_nil))))))), ?_⟩
    walk_at "rd"
    refine ⟨n, d, rfl, ?_⟩
    walk_at "rd"
    refine r_cut (fun σ' H1 => ∃ g : Int, n.fdiv g = rN n d ∧ d.fdiv g = rD n d ∧ g.natAbs = Int.gcd n d ∧ σ' = [some (.int n), some (.int d), some (.int g)] ∧ H1 = H) ?_ ?_
    · walk_at "rd"
      refine r_if (fun c => ?_) (fun c => ?_)
      · walk_at "rd"
        exact ⟨_, rN_neg c, rD_neg c, by rw [Int.natAbs_neg]; rfl, rfl, rfl⟩
      · walk_at "rd"
        have c' : 0 < d := by omega
        exact ⟨_, rN_pos c', rD_pos c', rfl, rfl, rfl⟩
    · rintro σ' H1 ⟨g, g1, g2, g3, rfl, rfl⟩
      walk_at "rd"
      refine r_iC (gcd_div hd hb g3) ?_
      walk_at "rd"
      refine r_iC (gcd_div hd hb g3) ?_
      walk_at "rd"
      refine ⟨(by show 2 ≤ sizeLine; decide), fun p hp => ?_⟩
      refine k p _ (sm_new hp) hp ?_
      rw [upd_same, g1, g2]
theorem wide_pow {x : Int} {a b : Nat} (h : x.natAbs < 2 ^ a) (l : a ≤ b := by decide) : x.natAbs < 2 ^ b := Nat.lt_of_lt_of_le h (Nat.pow_le_pow_right (by decide) l)
def sp_plus (K : PySem.W.Frag) : Sp := fun vs H Q _ => ∃ (a b : Addr) (a0 a1 b0 b1 : Int), vs = [.ref a, .ref b] ∧ SqT K H a [.int a0, .int a1] ∧ SqT K H b [.int b0, .int b1] ∧
  (a0.natAbs < 2 ^ 3900 ∧ a1.natAbs < 2 ^ 3900 ∧ b0.natAbs < 2 ^ 3900 ∧ b1.natAbs < 2 ^ 3900) ∧ a1 * b1 ≠ 0 ∧
  ∀ (p : Addr) (H' : Hp), Same H H' → H p = none → H' p = some (.tup [.int (rN (a0 * b1 + b0 * a1) (a1 * b1)), .int (rD (a0 * b1 + b0 * a1) (a1 * b1))]) → Q (.ref p) H'
theorem sc_plus : FnScope ["a", "b"] ["a", "b"] (defScope s_plus) := ⟨rfl, rfl, rfl, by decide +kernel, rfl, by decide +kernel, by decide +kernel⟩
theorem ok_plus {P : Program} {w : World} {K : PySem.W.Frag} {mg : Str → Option Value} {base : Heap} (T : Env K mg) : FnOk P w K mg base CX0 2 T.a_plus T.d_plus ["a", "b"] (sp_plus K) := by
  refine T.F_plus.ok sc_plus (fun vs H Q E h => ?_) (fun cdv A outer s H vs Q E hr h => ?_)
  · obtain ⟨a, b, a0, a1, b0, b1, rfl, _⟩ := h
    rfl
  · obtain ⟨a, b, a0, a1, b0, b1, rfl, hA, hB, ⟨ha0, ha1, hb0, hb1⟩, hd, k⟩ := h
    have G_ratio := ok_ratio (P := P) (w := w) (base := base) T
    have hr_ratio : Room 1 _ := hr.mono (by decide)
    refine ⟨_, (pss_one (ps_ret (pe_call G_ratio hr_ratio (by rfl) T.g_ratio T.F_ratio.kp T.b_ratio .nil pass0 (pa_cons (pe_op op_add (pe_op op_mulW (pe_ix ix_tup (pv 0) pe_int (fun _ _ => rfl)) (pe_ix ix_tup (pv 1) pe_int (fun _ _ => rfl))) (pe_op op_mulW (pe_ix ix_tup (pv 1) pe_int (fun _ _ => rfl)) (pe_ix ix_tup (pv 0) pe_int (fun _ _ => rfl)))) (pa_cons (pe_op op_mulW (pe_ix ix_tup (pv 0) pe_int (fun _ _ => rfl)) (pe_ix ix_tup (pv 1) pe_int (fun _ _ => rfl))) pa_nil))))), ?_⟩
    walk_at "rd"
    refine r_ixT hA (v := .int a0) rfl ?_
    walk_at "rd"
    refine r_ixT hB (v := .int b1) rfl ?_
    refine r_iC (wide_mul ha0 hb1 (by decide) (by decide) (by decide)) ?_
    walk_at "rd"
    refine r_ixT hB (v := .int b0) rfl ?_
    walk_at "rd"
    refine r_ixT hA (v := .int a1) rfl ?_
    refine r_iC (wide_mul hb0 ha1 (by decide) (by decide) (by decide)) ?_
    walk_at "rd"
    refine r_ixT hA (v := .int a1) rfl ?_
    walk_at "rd"
    refine r_ixT hB (v := .int b1) rfl ?_
    refine r_iC (wide_mul ha1 hb1 (by decide) (by decide) (by decide)) ?_
    walk_at "rd"
    exact ⟨_, _, rfl, hd, wide_pow (wide_lt ha1 hb1), k⟩
def sp_minus (K : PySem.W.Frag) : Sp := fun vs H Q _ => ∃ (a b : Addr) (a0 a1 b0 b1 : Int), vs = [.ref a, .ref b] ∧ SqT K H a [.int a0, .int a1] ∧ SqT K H b [.int b0, .int b1] ∧
  (a0.natAbs < 2 ^ 3900 ∧ a1.natAbs < 2 ^ 3900 ∧ b0.natAbs < 2 ^ 3900 ∧ b1.natAbs < 2 ^ 3900) ∧ a1 * b1 ≠ 0 ∧
  ∀ (p : Addr) (H' : Hp), Same H H' → H p = none → H' p = some (.tup [.int (rN (a0 * b1 - b0 * a1) (a1 * b1)), .int (rD (a0 * b1 - b0 * a1) (a1 * b1))]) → Q (.ref p) H'
theorem sc_minus : FnScope ["a", "b"] ["a", "b"] (defScope s_minus) := ⟨rfl, rfl, rfl, by decide +kernel, rfl, by decide +kernel, by decide +kernel⟩
theorem ok_minus {P : Program} {w : World} {K : PySem.W.Frag} {mg : Str → Option Value} {base : Heap} (T : Env K mg) : FnOk P w K mg base CX0 2 T.a_minus T.d_minus ["a", "b"] (sp_minus K) := by
  refine T.F_minus.ok sc_minus (fun vs H Q E h => ?_) (fun cdv A outer s H vs Q E hr h => ?_)
  · obtain ⟨a, b, a0, a1, b0, b1, rfl, _⟩ := h
    rfl
  · obtain ⟨a, b, a0, a1, b0, b1, rfl, hA, hB, ⟨ha0, ha1, hb0, hb1⟩, hd, k⟩ := h
    have G_ratio := ok_ratio (P := P) (w := w) (base := base) T
    have hr_ratio : Room 1 _ := hr.mono (by decide)
    refine ⟨_, (pss_one (ps_ret (pe_call G_ratio hr_ratio (by rfl) T.g_ratio T.F_ratio.kp T.b_ratio .nil pass0 (pa_cons (pe_op op_sub (pe_op op_mulW (pe_ix ix_tup (pv 0) pe_int (fun _ _ => rfl)) (pe_ix ix_tup (pv 1) pe_int (fun _ _ => rfl))) (pe_op op_mulW (pe_ix ix_tup (pv 1) pe_int (fun _ _ => rfl)) (pe_ix ix_tup (pv 0) pe_int (fun _ _ => rfl)))) (pa_cons (pe_op op_mulW (pe_ix ix_tup (pv 0) pe_int (fun _ _ => rfl)) (pe_ix ix_tup (pv 1) pe_int (fun _ _ => rfl))) pa_nil))))), ?_⟩
    walk_at "rd"
    refine r_ixT hA (v := .int a0) rfl ?_
    walk_at "rd"
    refine r_ixT hB (v := .int b1) rfl ?_
    refine r_iC (wide_mul ha0 hb1 (by decide) (by decide) (by decide)) ?_
    walk_at "rd"
    refine r_ixT hB (v := .int b0) rfl ?_
    walk_at "rd"
    refine r_ixT hA (v := .int a1) rfl ?_
    refine r_iC (wide_mul hb0 ha1 (by decide) (by decide) (by decide)) ?_
    walk_at "rd"
    refine r_ixT hA (v := .int a1) rfl ?_
    walk_at "rd"
    refine r_ixT hB (v := .int b1) rfl ?_
    refine r_iC (wide_mul ha1 hb1 (by decide) (by decide) (by decide)) ?_
    walk_at "rd"
    exact ⟨_, _, rfl, hd, wide_pow (wide_lt ha1 hb1), k⟩
def sp_times (K : PySem.W.Frag) : Sp := fun vs H Q _ => ∃ (a b : Addr) (a0 a1 b0 b1 : Int), vs = [.ref a, .ref b] ∧ SqT K H a [.int a0, .int a1] ∧ SqT K H b [.int b0, .int b1] ∧
  (a0.natAbs < 2 ^ 3900 ∧ a1.natAbs < 2 ^ 3900 ∧ b0.natAbs < 2 ^ 3900 ∧ b1.natAbs < 2 ^ 3900) ∧ a1 * b1 ≠ 0 ∧
  ∀ (p : Addr) (H' : Hp), Same H H' → H p = none → H' p = some (.tup [.int (rN (a0 * b0) (a1 * b1)), .int (rD (a0 * b0) (a1 * b1))]) → Q (.ref p) H'
theorem sc_times : FnScope ["a", "b"] ["a", "b"] (defScope s_times) := ⟨rfl, rfl, rfl, by decide +kernel, rfl, by decide +kernel, by decide +kernel⟩
theorem ok_times {P : Program} {w : World} {K : PySem.W.Frag} {mg : Str → Option Value} {base : Heap} (T : Env K mg) : FnOk P w K mg base CX0 2 T.a_times T.d_times ["a", "b"] (sp_times K) := by
  refine T.F_times.ok sc_times (fun vs H Q E h => ?_) (fun cdv A outer s H vs Q E hr h => ?_)
  · obtain ⟨a, b, a0, a1, b0, b1, rfl, _⟩ := h
    rfl
  · obtain ⟨a, b, a0, a1, b0, b1, rfl, hA, hB, ⟨ha0, ha1, hb0, hb1⟩, hd, k⟩ := h
    have G_ratio := ok_ratio (P := P) (w := w) (base := base) T
    have hr_ratio : Room 1 _ := hr.mono (by decide)
    refine ⟨_, (pss_one (ps_ret (pe_call G_ratio hr_ratio (by rfl) T.g_ratio T.F_ratio.kp T.b_ratio .nil pass0 (pa_cons (pe_op op_mulW (pe_ix ix_tup (pv 0) pe_int (fun _ _ => rfl)) (pe_ix ix_tup (pv 1) pe_int (fun _ _ => rfl))) (pa_cons (pe_op op_mulW (pe_ix ix_tup (pv 0) pe_int (fun _ _ => rfl)) (pe_ix ix_tup (pv 1) pe_int (fun _ _ => rfl))) pa_nil))))), ?_⟩
    walk_at "rd"
    refine r_ixT hA (v := .int a0) rfl ?_
    walk_at "rd"
    refine r_ixT hB (v := .int b0) rfl ?_
    refine r_iC (wide_mul ha0 hb0 (by decide) (by decide) (by decide)) ?_
    walk_at "rd"
    refine r_ixT hA (v := .int a1) rfl ?_
    walk_at "rd"
    refine r_ixT hB (v := .int b1) rfl ?_
    refine r_iC (wide_mul ha1 hb1 (by decide) (by decide) (by decide)) ?_
    walk_at "rd"
    exact ⟨_, _, rfl, hd, wide_pow (wide_lt ha1 hb1), k⟩
def sp_over (K : PySem.W.Frag) : Sp := fun vs H Q _ => ∃ (a b : Addr) (a0 a1 b0 b1 : Int), vs = [.ref a, .ref b] ∧ SqT K H a [.int a0, .int a1] ∧ SqT K H b [.int b0, .int b1] ∧
  (a0.natAbs < 2 ^ 3900 ∧ a1.natAbs < 2 ^ 3900 ∧ b0.natAbs < 2 ^ 3900 ∧ b1.natAbs < 2 ^ 3900) ∧ a1 * b0 ≠ 0 ∧
  ∀ (p : Addr) (H' : Hp), Same H H' → H p = none → H' p = some (.tup [.int (rN (a0 * b1) (a1 * b0)), .int (rD (a0 * b1) (a1 * b0))]) → Q (.ref p) H'
theorem sc_over : FnScope ["a", "b"] ["a", "b"] (defScope s_over) := ⟨rfl, rfl, rfl, by decide +kernel, rfl, by decide +kernel, by decide +kernel⟩
theorem ok_over {P : Program} {w : World} {K : PySem.W.Frag} {mg : Str → Option Value} {base : Heap} (T : Env K mg) : FnOk P w K mg base CX0 2 T.a_over T.d_over ["a", "b"] (sp_over K) := by
  refine T.F_over.ok sc_over (fun vs H Q E h => ?_) (fun cdv A outer s H vs Q E hr h => ?_)
  · obtain ⟨a, b, a0, a1, b0, b1, rfl, _⟩ := h
    rfl
  · obtain ⟨a, b, a0, a1, b0, b1, rfl, hA, hB, ⟨ha0, ha1, hb0, hb1⟩, hd, k⟩ := h
    have G_ratio := ok_ratio (P := P) (w := w) (base := base) T
    have hr_ratio : Room 1 _ := hr.mono (by decide)
    refine ⟨_, (pss_one (ps_ret (pe_call G_ratio hr_ratio (by rfl) T.g_ratio T.F_ratio.kp T.b_ratio .nil pass0 (pa_cons (pe_op op_mulW (pe_ix ix_tup (pv 0) pe_int (fun _ _ => rfl)) (pe_ix ix_tup (pv 1) pe_int (fun _ _ => rfl))) (pa_cons (pe_op op_mulW (pe_ix ix_tup (pv 0) pe_int (fun _ _ => rfl)) (pe_ix ix_tup (pv 1) pe_int (fun _ _ => rfl))) pa_nil))))), ?_⟩
    walk_at "rd"
    refine r_ixT hA (v := .int a0) rfl ?_
    walk_at "rd"
    refine r_ixT hB (v := .int b1) rfl ?_
    refine r_iC (wide_mul ha0 hb1 (by decide) (by decide) (by decide)) ?_
    walk_at "rd"
    refine r_ixT hA (v := .int a1) rfl ?_
    walk_at "rd"
    refine r_ixT hB (v := .int b0) rfl ?_
    refine r_iC (wide_mul ha1 hb0 (by decide) (by decide) (by decide)) ?_
    walk_at "rd"
    exact ⟨_, _, rfl, hd, wide_pow (wide_lt ha1 hb0), k⟩
def sp_is_less (K : PySem.W.Frag) : Sp := fun vs H Q _ => ∃ (a b : Addr) (a0 a1 b0 b1 : Int), vs = [.ref a, .ref b] ∧ SqT K H a [.int a0, .int a1] ∧ SqT K H b [.int b0, .int b1] ∧
  (a0.natAbs < 2 ^ 3900 ∧ a1.natAbs < 2 ^ 3900 ∧ b0.natAbs < 2 ^ 3900 ∧ b1.natAbs < 2 ^ 3900) ∧ Q (.bl (decide (a0 * b1 < b0 * a1))) H
theorem sc_is_less : FnScope ["a", "b"] ["a", "b"] (defScope s_is_less) := ⟨rfl, rfl, rfl, by decide +kernel, rfl, by decide +kernel, by decide +kernel⟩
theorem ok_is_less {P : Program} {w : World} {K : PySem.W.Frag} {mg : Str → Option Value} {base : Heap} (T : Env K mg) : FnOk P w K mg base CX0 1 T.a_is_less T.d_is_less ["a", "b"] (sp_is_less K) := by
  refine T.F_is_less.ok sc_is_less (fun vs H Q E h => ?_) (fun cdv A outer s H vs Q E hr h => ?_)
  · obtain ⟨a, b, a0, a1, b0, b1, rfl, _⟩ := h
    rfl
  · obtain ⟨a, b, a0, a1, b0, b1, rfl, hA, hB, ⟨ha0, ha1, hb0, hb1⟩, k⟩ := h
    refine ⟨_, (pss_one (ps_ret (pe_cmpR op_lt (pe_op op_mulW (pe_ix ix_tup (pv 0) pe_int (fun _ _ => rfl)) (pe_ix ix_tup (pv 1) pe_int (fun _ _ => rfl))) (pe_op op_mulW (pe_ix ix_tup (pv 1) pe_int (fun _ _ => rfl)) (pe_ix ix_tup (pv 0) pe_int (fun _ _ => rfl))) (nomark _)))), ?_⟩
    walk_at "rd"
    refine r_ixT hA (v := .int a0) rfl ?_
    walk_at "rd"
    refine r_ixT hB (v := .int b1) rfl ?_
    refine r_iC (wide_mul ha0 hb1 (by decide) (by decide) (by decide)) ?_
    walk_at "rd"
    refine r_ixT hB (v := .int b0) rfl ?_
    walk_at "rd"
    refine r_ixT hA (v := .int a1) rfl ?_
    refine r_iC (wide_mul hb0 ha1 (by decide) (by decide) (by decide)) ?_
    walk_at "rd"
    exact k
/-! ### fractions of the law -/
def sp_l_ratio (K : PySem.W.Frag) : Sp := fun vs H Q _ => ∃ (n d : Int), vs = [.int n, .int d] ∧ d ≠ 0 ∧ n.natAbs < 2 ^ 900 ∧ d.natAbs < 2 ^ 900 ∧
  ∀ (p : Addr) (H' : Hp), Same H H' → H p = none → H' p = some (.tup [.int (rN n d), .int (rD n d)]) → Q (.ref p) H'
theorem big_prod {x y : Nat} (hx : x < 2 ^ 900) (hy : y < 2 ^ 900) : x * y < 2 ^ (1999 : Nat) := by
  have h1 : x * y < 2 ^ (900 + 900) := by
    rw [Nat.pow_add]
    exact Nat.mul_lt_mul'' hx hy
  exact Nat.lt_of_lt_of_le h1 (Nat.pow_le_pow_right (by decide) (by decide))
theorem sc_l_ratio : FnScope ["n", "d", "a", "b", "k", "rest"] ["n", "d"] (defScope s_l_ratio) := ⟨rfl, rfl, rfl, by decide +kernel, rfl, by decide +kernel, by decide +kernel⟩
theorem ok_l_ratio {P : Program} {w : World} {K : PySem.W.Frag} {mg : Str → Option Value} {base : Heap} (T : Env K mg) : FnOk P w K mg base CX0 1 T.a_l_ratio T.d_l_ratio ["n", "d"] (sp_l_ratio K) := by
  refine T.F_l_ratio.ok sc_l_ratio (fun vs H Q E h => ?_) (fun cdv A outer s H vs Q E hr h => ?_)
  · obtain ⟨n, d, rfl, _⟩ := h
    rfl
  · obtain ⟨n, d, rfl, hd, hn, hb, k⟩ := h
    refine ⟨_, (C8.pss_cut (ps_if (pt_cmpR op_lt (pv 1) pe_int (nomark _)) (pss_cons (ps_set (i := 0) sc_l_ratio.nd rfl (Or.inl rfl) (pe_op op_sub pe_int (pv 0)))
      (pss_one (ps_set (i := 1) sc_l_ratio.nd rfl (Or.inl rfl) (pe_op op_sub pe_int (pv 1))))) pss_nil)
      (pss_cons (ps_set (i := 2) sc_l_ratio.nd rfl (Or.inl rfl) (pe_callB call_abs (by rfl) T.z_abs (by decide +kernel) (pa_cons (pv 0) pa_nil)))
      (pss_cons (ps_set (i := 3) sc_l_ratio.nd rfl (Or.inl rfl) (pv 1))
      (pss_cons (ps_for PassesOwn.never rfl (pi_range1 (by rfl) T.z_range (pa_cons pe_int pa_nil)) (pg_name (i := 4) sc_l_ratio.nd rfl (Or.inl rfl)) (pss_cons (ps_if (pt_cmpR op_eq (pv 2) pe_int (nomark _)) (pss_one ps_break) pss_nil)
      (pss_cons (ps_set (i := 5) sc_l_ratio.nd rfl (Or.inl rfl) (pe_op op_modN (pe_callTy call_int1 (by rfl) T.z_int (by decide +kernel) (pa_cons (pv 3) pa_nil)) (pv 2)))
      (pss_cons (ps_set (i := 3) sc_l_ratio.nd rfl (Or.inl rfl) (pv 2))
      (pss_one (ps_set (i := 2) sc_l_ratio.nd rfl (Or.inl rfl) (pv 5)))))))
      (pss_one (ps_ret (pe_tup (pa_cons (pe_op op_fdivX (pv 0) (pv 3)) (pa_cons (pe_op op_fdivX (pv 1) (pv 3)) pa_nil))))))))), ?_⟩
    walk_at "rd"
    refine r_cut (fun σ' H1 => ∃ m e : Int, 0 < e ∧ m.natAbs = n.natAbs ∧ e.natAbs = d.natAbs ∧ m / (Int.gcd n d : Int) = rN n d ∧ e / (Int.gcd n d : Int) = rD n d ∧ σ' = [some (.int m), some (.int e), none, none, none, none] ∧ H1 = H) ?_ ?_
    · walk_at "rd"
      refine r_if (fun c => ?_) (fun c => ?_)
      · walk_at "rd"
        refine ⟨0 - n, 0 - d, by omega, by omega, by omega, ?_, ?_, rfl, rfl⟩
        · unfold rN
          rw [if_pos c, Int.zero_sub]
        · unfold rD
          have : (d.natAbs : Int) = 0 - d := by omega
          rw [this]
      · walk_at "rd"
        refine ⟨n, d, by omega, rfl, rfl, ?_, ?_, rfl, rfl⟩
        · unfold rN
          rw [if_neg c]
        · unfold rD
          have : (d.natAbs : Int) = d := by omega
          rw [this]
    · rintro σ' H1 ⟨m, e, he, hm, hed, e1, e2, rfl, rfl⟩
      have eg : Int.gcd n d = Int.gcd m e := by
        show Nat.gcd n.natAbs d.natAbs = Nat.gcd m.natAbs e.natAbs
        rw [hm, hed]
      have ab : (if m < 0 then -m else m) = (m.natAbs : Int) := by
        split <;> omega
      walk_at "rd"
      rw [ab]
      refine for_range (n := 2000) (fun i σ H2 => ∃ (a b : Int) (v4 v5 : Option V), Eu (Int.gcd n d) (n.natAbs * d.natAbs) i a b ∧ σ = [some (.int m), some (.int e), some (.int a), some (.int b), v4, v5] ∧ H2 = H1)
        ⟨m.natAbs, e, none, none, ⟨by omega, he, by rw [eg]; show Nat.gcd (m.natAbs : Int).natAbs e.natAbs = _; rw [Int.natAbs_natCast]; rfl, fun z => absurd z (by decide), by
          show (m.natAbs : Int).toNat * e.toNat * 1 ≤ _
          rw [Nat.mul_one]
          have q1 : (m.natAbs : Int).toNat = n.natAbs := by omega
          have q2 : e.toNat = d.natAbs := by omega
          rw [q1, q2]
          exact Nat.le_refl _⟩, rfl, rfl⟩ ?_ ?_
      · rintro i σ H2 hi ⟨a, b, v4, v5, hE, rfl, rfl⟩
        walk_at "rd"
        refine r_if (fun c => ?_) (fun c => ?_)
        · walk_at "rd"
          have hb2 := hE.zero c
          subst hb2
          refine r_iC (gcd_div hd (Nat.lt_of_lt_of_le hb (Nat.pow_le_pow_right (by decide) (by decide))) (Int.natAbs_natCast _)) ?_
          walk_at "rd"
          refine r_iC (gcd_div hd (Nat.lt_of_lt_of_le hb (Nat.pow_le_pow_right (by decide) (by decide))) (Int.natAbs_natCast _)) ?_
          walk_at "rd"
          refine ⟨(by show 2 ≤ sizeLine; decide), fun p hp => ?_⟩
          refine k p _ (sm_new hp) hp ?_
          have g0 := gcd_pos (n := n) hd
          rw [upd_same, Int.fdiv_eq_ediv_of_nonneg _ (by omega), Int.fdiv_eq_ediv_of_nonneg _ (by omega), e1, e2]
        · walk_at "rd"
          refine r_iC c ?_
          walk_at "rd"
          exact ⟨_, _, _, _, hE.step c, rfl, rfl⟩
      · rintro σ H2 ⟨a, b, v4, v5, hE, rfl, rfl⟩
        have c := hE.done (big_prod hn hb)
        have hb2 := hE.zero c
        subst hb2
        walk_at "rd"
        refine r_iC (gcd_div hd (Nat.lt_of_lt_of_le hb (Nat.pow_le_pow_right (by decide) (by decide))) (Int.natAbs_natCast _)) ?_
        walk_at "rd"
        refine r_iC (gcd_div hd (Nat.lt_of_lt_of_le hb (Nat.pow_le_pow_right (by decide) (by decide))) (Int.natAbs_natCast _)) ?_
        walk_at "rd"
        refine ⟨(by show 2 ≤ sizeLine; decide), fun p hp => ?_⟩
        refine k p _ (sm_new hp) hp ?_
        have g0 := gcd_pos (n := n) hd
        rw [upd_same, Int.fdiv_eq_ediv_of_nonneg _ (by omega), Int.fdiv_eq_ediv_of_nonneg _ (by omega), e1, e2]
theorem big_mul {x y : Int} (hx : x.natAbs < 2 ^ 440) (hy : y.natAbs < 2 ^ 440) : (x * y).natAbs < 2 ^ 900 := Nat.lt_of_lt_of_le (wide_lt hx hy) (Nat.pow_le_pow_right (by decide) (by decide))
theorem big_sum {x y z u : Int} (hx : x.natAbs < 2 ^ 440) (hy : y.natAbs < 2 ^ 440) (hz : z.natAbs < 2 ^ 440) (hu : u.natAbs < 2 ^ 440) : (x * y + z * u).natAbs < 2 ^ 900 := by
  have h1 := wide_lt hx hy
  have h2 := wide_lt hz hu
  have h3 : (x * y + z * u).natAbs ≤ (x * y).natAbs + (z * u).natAbs := Int.natAbs_add_le _ _
  have h4 : 2 ^ (440 + 440) + 2 ^ (440 + 440) ≤ 2 ^ 900 := by
    have e : 2 ^ (440 + 440) + 2 ^ (440 + 440) = 2 ^ (440 + 440 + 1) := by rw [Nat.pow_succ 2 (440 + 440), Nat.mul_two]
    rw [e]
    exact Nat.pow_le_pow_right (by decide) (by decide)
  exact Nat.lt_of_lt_of_le (Nat.lt_of_le_of_lt h3 (Nat.add_lt_add h1 h2)) h4
def sp_l_plus (K : PySem.W.Frag) : Sp := fun vs H Q _ => ∃ (a b : Addr) (a0 a1 b0 b1 : Int), vs = [.ref a, .ref b] ∧ SqT K H a [.int a0, .int a1] ∧ SqT K H b [.int b0, .int b1] ∧
  (a0.natAbs < 2 ^ 440 ∧ a1.natAbs < 2 ^ 440 ∧ b0.natAbs < 2 ^ 440 ∧ b1.natAbs < 2 ^ 440) ∧ a1 * b1 ≠ 0 ∧
  ∀ (p : Addr) (H' : Hp), Same H H' → H p = none → H' p = some (.tup [.int (rN (a0 * b1 + b0 * a1) (a1 * b1)), .int (rD (a0 * b1 + b0 * a1) (a1 * b1))]) → Q (.ref p) H'
theorem sc_l_plus : FnScope ["a", "b"] ["a", "b"] (defScope s_l_plus) := ⟨rfl, rfl, rfl, by decide +kernel, rfl, by decide +kernel, by decide +kernel⟩
theorem ok_l_plus {P : Program} {w : World} {K : PySem.W.Frag} {mg : Str → Option Value} {base : Heap} (T : Env K mg) : FnOk P w K mg base CX0 2 T.a_l_plus T.d_l_plus ["a", "b"] (sp_l_plus K) := by
  refine T.F_l_plus.ok sc_l_plus (fun vs H Q E h => ?_) (fun cdv A outer s H vs Q E hr h => ?_)
  · obtain ⟨a, b, a0, a1, b0, b1, rfl, _⟩ := h
    rfl
  · obtain ⟨a, b, a0, a1, b0, b1, rfl, hA, hB, ⟨ha0, ha1, hb0, hb1⟩, hd, k⟩ := h
    have G_l_ratio := ok_l_ratio (P := P) (w := w) (base := base) T
    have hr_l_ratio : Room 1 _ := hr.mono (by decide)
    refine ⟨_, (pss_one (ps_ret (pe_call G_l_ratio hr_l_ratio (by rfl) T.g_l_ratio T.F_l_ratio.kp T.b_l_ratio .nil pass0 (pa_cons (pe_op op_add (pe_op op_mulW (pe_ix ix_tup (pv 0) pe_int (fun _ _ => rfl)) (pe_ix ix_tup (pv 1) pe_int (fun _ _ => rfl))) (pe_op op_mulW (pe_ix ix_tup (pv 1) pe_int (fun _ _ => rfl)) (pe_ix ix_tup (pv 0) pe_int (fun _ _ => rfl)))) (pa_cons (pe_op op_mulW (pe_ix ix_tup (pv 0) pe_int (fun _ _ => rfl)) (pe_ix ix_tup (pv 1) pe_int (fun _ _ => rfl))) pa_nil))))), ?_⟩
    walk_at "rd"
    refine r_ixT hA (v := .int a0) rfl ?_
    walk_at "rd"
    refine r_ixT hB (v := .int b1) rfl ?_
    refine r_iC (wide_mul ha0 hb1 (by decide) (by decide) (by decide)) ?_
    walk_at "rd"
    refine r_ixT hB (v := .int b0) rfl ?_
    walk_at "rd"
    refine r_ixT hA (v := .int a1) rfl ?_
    refine r_iC (wide_mul hb0 ha1 (by decide) (by decide) (by decide)) ?_
    walk_at "rd"
    refine r_ixT hA (v := .int a1) rfl ?_
    walk_at "rd"
    refine r_ixT hB (v := .int b1) rfl ?_
    refine r_iC (wide_mul ha1 hb1 (by decide) (by decide) (by decide)) ?_
    walk_at "rd"
    refine ⟨_, _, rfl, hd, big_sum ha0 hb1 hb0 ha1 , big_mul ha1 hb1, k⟩
def sp_l_times (K : PySem.W.Frag) : Sp := fun vs H Q _ => ∃ (a b : Addr) (a0 a1 b0 b1 : Int), vs = [.ref a, .ref b] ∧ SqT K H a [.int a0, .int a1] ∧ SqT K H b [.int b0, .int b1] ∧
  (a0.natAbs < 2 ^ 440 ∧ a1.natAbs < 2 ^ 440 ∧ b0.natAbs < 2 ^ 440 ∧ b1.natAbs < 2 ^ 440) ∧ a1 * b1 ≠ 0 ∧
  ∀ (p : Addr) (H' : Hp), Same H H' → H p = none → H' p = some (.tup [.int (rN (a0 * b0) (a1 * b1)), .int (rD (a0 * b0) (a1 * b1))]) → Q (.ref p) H'
theorem sc_l_times : FnScope ["a", "b"] ["a", "b"] (defScope s_l_times) := ⟨rfl, rfl, rfl, by decide +kernel, rfl, by decide +kernel, by decide +kernel⟩
theorem ok_l_times {P : Program} {w : World} {K : PySem.W.Frag} {mg : Str → Option Value} {base : Heap} (T : Env K mg) : FnOk P w K mg base CX0 2 T.a_l_times T.d_l_times ["a", "b"] (sp_l_times K) := by
  refine T.F_l_times.ok sc_l_times (fun vs H Q E h => ?_) (fun cdv A outer s H vs Q E hr h => ?_)
  · obtain ⟨a, b, a0, a1, b0, b1, rfl, _⟩ := h
    rfl
  · obtain ⟨a, b, a0, a1, b0, b1, rfl, hA, hB, ⟨ha0, ha1, hb0, hb1⟩, hd, k⟩ := h
    have G_l_ratio := ok_l_ratio (P := P) (w := w) (base := base) T
    have hr_l_ratio : Room 1 _ := hr.mono (by decide)
    refine ⟨_, (pss_one (ps_ret (pe_call G_l_ratio hr_l_ratio (by rfl) T.g_l_ratio T.F_l_ratio.kp T.b_l_ratio .nil pass0 (pa_cons (pe_op op_mulW (pe_ix ix_tup (pv 0) pe_int (fun _ _ => rfl)) (pe_ix ix_tup (pv 1) pe_int (fun _ _ => rfl))) (pa_cons (pe_op op_mulW (pe_ix ix_tup (pv 0) pe_int (fun _ _ => rfl)) (pe_ix ix_tup (pv 1) pe_int (fun _ _ => rfl))) pa_nil))))), ?_⟩
    walk_at "rd"
    refine r_ixT hA (v := .int a0) rfl ?_
    walk_at "rd"
    refine r_ixT hB (v := .int b0) rfl ?_
    refine r_iC (wide_mul ha0 hb0 (by decide) (by decide) (by decide)) ?_
    walk_at "rd"
    refine r_ixT hA (v := .int a1) rfl ?_
    walk_at "rd"
    refine r_ixT hB (v := .int b1) rfl ?_
    refine r_iC (wide_mul ha1 hb1 (by decide) (by decide) (by decide)) ?_
    walk_at "rd"
    refine ⟨_, _, rfl, hd, big_mul ha0 hb0, big_mul ha1 hb1, k⟩
def sp_l_over (K : PySem.W.Frag) : Sp := fun vs H Q _ => ∃ (a b : Addr) (a0 a1 b0 b1 : Int), vs = [.ref a, .ref b] ∧ SqT K H a [.int a0, .int a1] ∧ SqT K H b [.int b0, .int b1] ∧
  (a0.natAbs < 2 ^ 440 ∧ a1.natAbs < 2 ^ 440 ∧ b0.natAbs < 2 ^ 440 ∧ b1.natAbs < 2 ^ 440) ∧ a1 * b0 ≠ 0 ∧
  ∀ (p : Addr) (H' : Hp), Same H H' → H p = none → H' p = some (.tup [.int (rN (a0 * b1) (a1 * b0)), .int (rD (a0 * b1) (a1 * b0))]) → Q (.ref p) H'
theorem sc_l_over : FnScope ["a", "b"] ["a", "b"] (defScope s_l_over) := ⟨rfl, rfl, rfl, by decide +kernel, rfl, by decide +kernel, by decide +kernel⟩
theorem ok_l_over {P : Program} {w : World} {K : PySem.W.Frag} {mg : Str → Option Value} {base : Heap} (T : Env K mg) : FnOk P w K mg base CX0 2 T.a_l_over T.d_l_over ["a", "b"] (sp_l_over K) := by
  refine T.F_l_over.ok sc_l_over (fun vs H Q E h => ?_) (fun cdv A outer s H vs Q E hr h => ?_)
  · obtain ⟨a, b, a0, a1, b0, b1, rfl, _⟩ := h
    rfl
  · obtain ⟨a, b, a0, a1, b0, b1, rfl, hA, hB, ⟨ha0, ha1, hb0, hb1⟩, hd, k⟩ := h
    have G_l_ratio := ok_l_ratio (P := P) (w := w) (base := base) T
    have hr_l_ratio : Room 1 _ := hr.mono (by decide)
    refine ⟨_, (pss_one (ps_ret (pe_call G_l_ratio hr_l_ratio (by rfl) T.g_l_ratio T.F_l_ratio.kp T.b_l_ratio .nil pass0 (pa_cons (pe_op op_mulW (pe_ix ix_tup (pv 0) pe_int (fun _ _ => rfl)) (pe_ix ix_tup (pv 1) pe_int (fun _ _ => rfl))) (pa_cons (pe_op op_mulW (pe_ix ix_tup (pv 0) pe_int (fun _ _ => rfl)) (pe_ix ix_tup (pv 1) pe_int (fun _ _ => rfl))) pa_nil))))), ?_⟩
    walk_at "rd"
    refine r_ixT hA (v := .int a0) rfl ?_
    walk_at "rd"
    refine r_ixT hB (v := .int b1) rfl ?_
    refine r_iC (wide_mul ha0 hb1 (by decide) (by decide) (by decide)) ?_
    walk_at "rd"
    refine r_ixT hA (v := .int a1) rfl ?_
    walk_at "rd"
    refine r_ixT hB (v := .int b0) rfl ?_
    refine r_iC (wide_mul ha1 hb0 (by decide) (by decide) (by decide)) ?_
    walk_at "rd"
    refine ⟨_, _, rfl, hd, big_mul ha0 hb1, big_mul ha1 hb0, k⟩
/-! ### equal fractions, equal bools -/
section
variable {K : PySem.W.Frag} {H : Hp} {Q : VK} {E : XK}
theorem fr_dp {q : Addr} {x y : Int} (h : SqT K H q [.int x, .int y]) : Dp K H (.ref q) (.tuple [.int x, .int y]) := .tup h (.cons (.int _) (.cons (.int _) .nil))
theorem fr_dn (n : Nat) (x y : Int) : Dn (n + 1) (.tuple [.int x, .int y]) := .tup (by show 2 ≤ 100000; decide) fun d hd => by
  rcases List.mem_cons.mp hd with rfl | hd
  · exact .int _ _
  · rcases List.mem_cons.mp hd with rfl | hd
    · exact .int _ _
    · cases hd
theorem eq_fr {n : Nat} {q r : Addr} {x y x' y' : Int} (h1 : SqT K H q [.int x, .int y]) (h2 : SqT K H r [.int x', .int y']) (e1 : x = x') (e2 : y = y') (k : Q (.bl true) H) : sp_eq K (n + 2) [.ref q, .ref r] H Q E := by
  subst e1 e2
  exact ⟨_, _, _, rfl, fr_dp h1, fr_dp h2, fr_dn _ _ _, k⟩
theorem eq_bl {n : Nat} {b c : Bool} (e : b = c) (k : Q (.bl true) H) : sp_eq K (n + 1) [.bl b, .bl c] H Q E := by
  subst e
  exact ⟨_, _, _, rfl, .bl _, .bl _, .bl _ _, k⟩
end
def sp_l_number (K : PySem.W.Frag) : Sp := fun vs H Q _ => ∃ (p t : Addr) (ts : List Int) (n : Int), vs = [.ref p] ∧ Tp K H p t ts n ∧ n ≤ 2 ^ 39 ∧
  ∀ (r : Int) (H' : Hp), r.natAbs < 10 ^ 9 → Tp K H' p t ts (n + 3) → Same (mn H p) (mn H' p) → Q (.int r) H'
theorem sc_l_number : FnScope ["state", "size"] ["state"] (defScope s_l_number) := ⟨rfl, rfl, rfl, by decide +kernel, rfl, by decide +kernel, by decide +kernel⟩
theorem num_le {r1 r2 z : Int} (h1 : 0 ≤ r1) (h2 : r1 < z) (hz : z ≤ 10 ^ 9) (h3 : 0 ≤ r2) (h4 : r2 < 2) : (r1 * (1 - 2 * r2)).natAbs < 10 ^ 9 := by
  rcases (by omega : r2 = 0 ∨ r2 = 1) with rfl | rfl
  · rw [show (1 - 2 * 0 : Int) = 1 from rfl, Int.mul_one]
    omega
  · rw [show (1 - 2 * 1 : Int) = -1 from rfl, Int.mul_neg, Int.mul_one]
    omega
theorem ok_l_number {P : Program} {w : World} {K : PySem.W.Frag} {mg : Str → Option Value} {base : Heap} (T : Env K mg) : FnOk P w K mg base CX0 3 T.a_l_number T.d_l_number ["state"] (sp_l_number K) := by
  refine T.F_l_number.ok sc_l_number (fun vs H Q E h => ?_) (fun cdv A outer s H vs Q E hr h => ?_)
  · obtain ⟨p, t, ts, n, rfl, _⟩ := h
    rfl
  · obtain ⟨p, t, ts, n, rfl, hT, hn, k⟩ := h
    have G_l_take := ok_l_take (P := P) (w := w) (base := base) T
    have hr_l_take : Room 2 _ := hr.mono (by decide)
    refine ⟨_, (pss_cons (ps_set (i := 1) sc_l_number.nd rfl (Or.inl rfl) (pe_ix ix_list (pe_lst (pa_cons pe_int (pa_cons pe_int (pa_cons pe_int (pa_cons (pe_op op_pow pe_int pe_int) pa_nil))))) (pe_call G_l_take hr_l_take (by rfl) T.g_l_take T.F_l_take.kp T.b_l_take .nil pass0 (pa_cons (pv 0) (pa_cons pe_int pa_nil))) (fun _ _ => rfl)))
      (pss_one (ps_ret (pe_op op_mul (pe_call G_l_take hr_l_take (by rfl) T.g_l_take T.F_l_take.kp T.b_l_take .nil pass0 (pa_cons (pv 0) (pa_cons (pv 1) pa_nil))) (pe_op op_sub pe_int (pe_op op_mul pe_int (pe_call G_l_take hr_l_take (by rfl) T.g_l_take T.F_l_take.kp T.b_l_take .nil pass0 (pa_cons (pv 0) (pa_cons pe_int pa_nil))))))))), ?_⟩
    walk_at "rd"
    refine ⟨(by show 4 ≤ sizeLine; decide), fun q hq => ?_⟩
    walk_at "rd"
    obtain ⟨xs, hp⟩ := hT.obj
    have nq : q ≠ p := (ne_of_none hp hq).symm
    refine ⟨p, t, ts, n, 4, rfl, hT.same (sm_new hq), by omega, by decide, fun r H1 r0 r1 T1 s1 e1 => ?_⟩
    have hL : H1 q = some (.lst (([4, 30, 1000, 10 ^ 9] : List Int).map V.int)) := (e1 q nq).trans upd_same
    obtain ⟨z, hz, ha⟩ := at_map (ts := [4, 30, 1000, 10 ^ 9]) r0 (by simpa using r1)
    have hz2 : 0 < z ∧ z ≤ 10 ^ 9 := by
      have : ∀ z ∈ ([4, 30, 1000, 10 ^ 9] : List Int), 0 < z ∧ z ≤ 10 ^ 9 := by decide
      exact this z hz
    refine r_ixL (SqL.of hL) ha ?_
    walk_at "rd"
    refine ⟨p, t, ts, n + 1, z, rfl, T1, by omega, hz2.1, fun r' H2 r0' r1' T2 s2 _ => ?_⟩
    walk_at "rd"
    refine ⟨p, t, ts, n + 1 + 1, 2, rfl, T2, by omega, by decide, fun r2 H3 r20 r21 T3 s3 _ => ?_⟩
    walk_at "rd"
    refine r_iC (.inr ⟨by omega, by omega⟩) ?_
    exact k _ H3 (num_le r0' r1' hz2.2 r20 r21) (T3.mono (by omega)) (((mn_mono (sm_new hq)).trans s1).trans (s2.trans s3))
def sp_law (K : PySem.W.Frag) : Sp := fun vs H Q _ => ∃ (a : Addr) (ns : List Int), vs = [.ref a] ∧ SqL K H a (ns.map V.int) ∧ ns.length ≤ 63 ∧ ∀ H', Q (.bl true) H'
theorem sc_law : FnScope ["script", "state", "turn", "n", "d", "common", "a", "b"] ["script"] (defScope s_law) := ⟨rfl, rfl, rfl, by decide +kernel, rfl, by decide +kernel, by decide +kernel⟩
theorem small_pow {x : Int} (b : Nat) (h : x.natAbs ≤ 10 ^ 18) (l : 60 ≤ b := by decide) : x.natAbs < 2 ^ b :=
  Nat.lt_of_lt_of_le (Nat.lt_of_le_of_lt h (by decide : 10 ^ 18 < 2 ^ 60)) (Nat.pow_le_pow_right (by decide) l)
theorem ok_law {P : Program} {w : World} {K : PySem.W.Frag} {mg : Str → Option Value} {base : Heap} (T : Env K mg) : FnOk P w K mg base CX0 4 T.a_law T.d_law ["script"] (sp_law K) := by
  refine T.F_law.ok sc_law (fun vs H Q E h => ?_) (fun cdv A outer s H vs Q E hr h => ?_)
  · obtain ⟨a, ns, rfl, _⟩ := h
    rfl
  · obtain ⟨a, ns, rfl, hS, hlen, k⟩ := h
    have G_l_tape := ok_l_tape (P := P) (w := w) (base := base) T
    have hr_l_tape : Room 1 _ := hr.mono (by decide)
    have G_l_number := ok_l_number (P := P) (w := w) (base := base) T
    have hr_l_number : Room 3 _ := hr.mono (by decide)
    have G_l_ratio := ok_l_ratio (P := P) (w := w) (base := base) T
    have hr_l_ratio : Room 1 _ := hr.mono (by decide)
    have G_l_take := ok_l_take (P := P) (w := w) (base := base) T
    have hr_l_take : Room 2 _ := hr.mono (by decide)
    have G_l_equal := ok_l_equal (P := P) (w := w) (base := base) T
    have hr_l_equal : Room 3 _ := hr.mono (by decide)
    have G_minus := ok_minus (P := P) (w := w) (base := base) T
    have hr_minus : Room 2 _ := hr.mono (by decide)
    have G_l_plus := ok_l_plus (P := P) (w := w) (base := base) T
    have hr_l_plus : Room 2 _ := hr.mono (by decide)
    have G_ratio := ok_ratio (P := P) (w := w) (base := base) T
    have hr_ratio : Room 1 _ := hr.mono (by decide)
    have G_plus := ok_plus (P := P) (w := w) (base := base) T
    have hr_plus : Room 2 _ := hr.mono (by decide)
    have G_times := ok_times (P := P) (w := w) (base := base) T
    have hr_times : Room 2 _ := hr.mono (by decide)
    have G_l_times := ok_l_times (P := P) (w := w) (base := base) T
    have hr_l_times : Room 2 _ := hr.mono (by decide)
    have G_over := ok_over (P := P) (w := w) (base := base) T
    have hr_over : Room 2 _ := hr.mono (by decide)
    have G_l_over := ok_l_over (P := P) (w := w) (base := base) T
    have hr_l_over : Room 2 _ := hr.mono (by decide)
    have G_is_less := ok_is_less (P := P) (w := w) (base := base) T
    have hr_is_less : Room 1 _ := hr.mono (by decide)
    refine ⟨_, (pss_cons (ps_set (i := 1) sc_law.nd rfl (Or.inl rfl) (pe_lst (pa_cons (pe_call G_l_tape hr_l_tape (by rfl) T.g_l_tape T.F_l_tape.kp T.b_l_tape .nil pass0 (pa_cons (pv 0) pa_nil)) (pa_cons pe_int pa_nil))))
      (pss_cons (ps_for PassesOwn.never rfl (pi_range1 (by rfl) T.z_range (pa_cons pe_int pa_nil)) (pg_name (i := 2) sc_law.nd rfl (Or.inl rfl)) (pss_cons (ps_set (i := 3) sc_law.nd rfl (Or.inl rfl) (pe_call G_l_number hr_l_number (by rfl) T.g_l_number T.F_l_number.kp T.b_l_number .nil pass0 (pa_cons (pv 1) pa_nil)))
      (pss_cons (ps_set (i := 4) sc_law.nd rfl (Or.inl rfl) (pe_call G_l_number hr_l_number (by rfl) T.g_l_number T.F_l_number.kp T.b_l_number .nil pass0 (pa_cons (pv 1) pa_nil)))
      (pss_cons (ps_set (i := 5) sc_law.nd rfl (Or.inl rfl) (pe_op op_add pe_int (pe_call G_l_take hr_l_take (by rfl) T.g_l_take T.F_l_take.kp T.b_l_take .nil pass0 (pa_cons (pv 1) (pa_cons pe_int pa_nil)))))
      (C8.pss_cut (ps_if (pt_cmpR op_eq (pv 4) pe_int (nomark _)) (pss_one (ps_set (i := 4) sc_law.nd rfl (Or.inl rfl) pe_int)) pss_nil)
      (pss_cons (ps_set (i := 6) sc_law.nd rfl (Or.inl rfl) (pe_call G_l_ratio hr_l_ratio (by rfl) T.g_l_ratio T.F_l_ratio.kp T.b_l_ratio .nil pass0 (pa_cons (pv 3) (pa_cons (pv 4) pa_nil))))
      (pss_cons (ps_if (PW.pt (pw_or (pt_not (pt_val (pe_call G_l_equal hr_l_equal (by rfl) T.g_l_equal T.F_l_equal.kp T.b_l_equal .nil pass0 (pa_cons (pe_call G_ratio hr_ratio (by rfl) T.g_ratio T.F_ratio.kp T.b_ratio .nil pass0 (pa_cons (pv 3) (pa_cons (pv 4) pa_nil))) (pa_cons (pv 6) pa_nil))))) (pw_or1 (pt_not (pt_val (pe_call G_l_equal hr_l_equal (by rfl) T.g_l_equal T.F_l_equal.kp T.b_l_equal .nil pass0 (pa_cons (pe_call G_ratio hr_ratio (by rfl) T.g_ratio T.F_ratio.kp T.b_ratio .nil pass0 (pa_cons (pe_op op_mulW (pv 3) (pv 5)) (pa_cons (pe_op op_mulW (pv 4) (pv 5)) pa_nil))) (pa_cons (pv 6) pa_nil)))))))) (pss_one (ps_ret pe_bl)) pss_nil)
      (pss_cons (ps_set (i := 7) sc_law.nd rfl (Or.inl rfl) (pe_call G_l_ratio hr_l_ratio (by rfl) T.g_l_ratio T.F_l_ratio.kp T.b_l_ratio .nil pass0 (pa_cons (pe_call G_l_number hr_l_number (by rfl) T.g_l_number T.F_l_number.kp T.b_l_number .nil pass0 (pa_cons (pv 1) pa_nil)) (pa_cons (pe_op op_add pe_int (pe_callB call_abs (by rfl) T.z_abs (by decide +kernel) (pa_cons (pe_call G_l_number hr_l_number (by rfl) T.g_l_number T.F_l_number.kp T.b_l_number .nil pass0 (pa_cons (pv 1) pa_nil)) pa_nil))) pa_nil))))
      (pss_cons (ps_if (PW.pt (pw_or (pt_not (pt_val (pe_call G_l_equal hr_l_equal (by rfl) T.g_l_equal T.F_l_equal.kp T.b_l_equal .nil pass0 (pa_cons (pe_call G_plus hr_plus (by rfl) T.g_plus T.F_plus.kp T.b_plus .nil pass0 (pa_cons (pv 6) (pa_cons (pv 7) pa_nil))) (pa_cons (pe_call G_l_plus hr_l_plus (by rfl) T.g_l_plus T.F_l_plus.kp T.b_l_plus .nil pass0 (pa_cons (pv 6) (pa_cons (pv 7) pa_nil))) pa_nil))))) (pw_or1 (pt_not (pt_val (pe_call G_l_equal hr_l_equal (by rfl) T.g_l_equal T.F_l_equal.kp T.b_l_equal .nil pass0 (pa_cons (pe_call G_times hr_times (by rfl) T.g_times T.F_times.kp T.b_times .nil pass0 (pa_cons (pv 6) (pa_cons (pv 7) pa_nil))) (pa_cons (pe_call G_l_times hr_l_times (by rfl) T.g_l_times T.F_l_times.kp T.b_l_times .nil pass0 (pa_cons (pv 6) (pa_cons (pv 7) pa_nil))) pa_nil)))))))) (pss_one (ps_ret pe_bl)) pss_nil)
      (pss_cons (ps_if (pt_not (pt_val (pe_call G_l_equal hr_l_equal (by rfl) T.g_l_equal T.F_l_equal.kp T.b_l_equal .nil pass0 (pa_cons (pe_call G_minus hr_minus (by rfl) T.g_minus T.F_minus.kp T.b_minus .nil pass0 (pa_cons (pv 6) (pa_cons (pv 7) pa_nil))) (pa_cons (pe_call G_l_plus hr_l_plus (by rfl) T.g_l_plus T.F_l_plus.kp T.b_l_plus .nil pass0 (pa_cons (pv 6) (pa_cons (pe_tup (pa_cons (pe_op op_sub pe_int (pe_ix ix_tup (pv 7) pe_int (fun _ _ => rfl))) (pa_cons (pe_ix ix_tup (pv 7) pe_int (fun _ _ => rfl)) pa_nil))) pa_nil))) pa_nil))))) (pss_one (ps_ret pe_bl)) pss_nil)
      (C8.pss_cut (ps_if (PW.pt (pw_and (pt_cmpR op_ne (pe_ix ix_tup (pv 7) pe_int (fun _ _ => rfl)) pe_int (nomark _)) (pw_and1 (pt_not (pt_val (pe_call G_l_equal hr_l_equal (by rfl) T.g_l_equal T.F_l_equal.kp T.b_l_equal .nil pass0 (pa_cons (pe_call G_over hr_over (by rfl) T.g_over T.F_over.kp T.b_over .nil pass0 (pa_cons (pv 6) (pa_cons (pv 7) pa_nil))) (pa_cons (pe_call G_l_over hr_l_over (by rfl) T.g_l_over T.F_l_over.kp T.b_l_over .nil pass0 (pa_cons (pv 6) (pa_cons (pv 7) pa_nil))) pa_nil)))))))) (pss_one (ps_ret pe_bl)) pss_nil)
      (pss_one (ps_if (PW.pt (pw_or (pt_not (pt_val (pe_call G_l_equal hr_l_equal (by rfl) T.g_l_equal T.F_l_equal.kp T.b_l_equal .nil pass0 (pa_cons (pe_call G_is_less hr_is_less (by rfl) T.g_is_less T.F_is_less.kp T.b_is_less .nil pass0 (pa_cons (pv 6) (pa_cons (pv 7) pa_nil))) (pa_cons (pe_cmpR op_lt (pe_op op_mulW (pe_ix ix_tup (pv 6) pe_int (fun _ _ => rfl)) (pe_ix ix_tup (pv 7) pe_int (fun _ _ => rfl))) (pe_op op_mulW (pe_ix ix_tup (pv 7) pe_int (fun _ _ => rfl)) (pe_ix ix_tup (pv 6) pe_int (fun _ _ => rfl))) (nomark _)) pa_nil))))) (pw_or1 (pt_not (pt_val (pe_call G_l_equal hr_l_equal (by rfl) T.g_l_equal T.F_l_equal.kp T.b_l_equal .nil pass0 (pa_cons (pe_call G_is_less hr_is_less (by rfl) T.g_is_less T.F_is_less.kp T.b_is_less .nil pass0 (pa_cons (pv 6) (pa_cons (pv 6) pa_nil))) (pa_cons pe_bl pa_nil)))))))) (pss_one (ps_ret pe_bl)) pss_nil)))))))))))))
      (pss_one (ps_ret pe_bl)))), ?_⟩
    walk_at "rd"
    refine ⟨a, ns, rfl, hS, hlen, fun t ts H1 s1 ht0 ht ok => ?_⟩
    walk_at "rd"
    refine ⟨(by show 2 ≤ sizeLine; decide), fun p hp => ?_⟩
    walk_at "rd"
    have ntp : t ≠ p := ne_of_none ht hp
    have T0 : Tp K (upd H1 p (.lst [.ref t, .int 0])) p t ts 0 := ⟨⟨0, upd_same, by decide, by decide⟩, by rw [mn_upd]; exact mn_l ntp (SqL.of ht), ok⟩
    refine for_range (n := 8) (fun i σ H2 => ∃ (v2 v3 v4 v5 v6 v7 : Option V), σ = [some (.ref a), some (.ref p), v2, v3, v4, v5, v6, v7] ∧ Tp K H2 p t ts (40 * i))
      ⟨_, _, _, _, _, _, rfl, T0.mono (by omega)⟩ ?_ ?_
    · rintro i σ H2 hi ⟨v2, v3, v4, v5, v6, v7, rfl, T2⟩
      walk_at "rd"
      refine ⟨p, t, ts, _, rfl, T2, by omega, fun n H3 hn T3 s3 => ?_⟩
      walk_at "rd"
      refine ⟨p, t, ts, _, rfl, T3, by omega, fun d H4 hd T4 s4 => ?_⟩
      walk_at "rd"
      refine ⟨p, t, ts, _, 30, rfl, T4, by omega, by decide, fun c H5 c0 c1 T5 s5 _ => ?_⟩
      walk_at "rd"
      refine r_cut (fun σ' H6 => ∃ e : Int, e ≠ 0 ∧ e.natAbs < 10 ^ 9 ∧ σ' = [some (.ref a), some (.ref p), some (.int (0 + i)), some (.int n), some (.int e), some (.int (1 + c)), v6, v7] ∧ H6 = H5) ?_ ?_
      · walk_at "rd"
        refine r_if (fun c => ?_) (fun c => ?_)
        · walk_at "rd"
          exact ⟨1, by decide, by decide, rfl, rfl⟩
        · walk_at "rd"
          exact ⟨d, c, hd, rfl, rfl⟩
      · rintro σ' H6 ⟨e, he, heb, rfl, rfl⟩
        walk_at "rd"
        refine ⟨n, e, rfl, he, small_pow _ (by omega), small_pow _ (by omega), fun pa H7 s7 _ hpa => ?_⟩
        have T7 := T5.same s7
        walk_at "rd"
        refine ⟨n, e, rfl, he, small_pow _ (by omega), fun q H8 s8 _ hq => ?_⟩
        have T8 := T7.same s8
        walk_at "rd"
        refine eq_fr (SqT.of hq) (SqT.of (s8 _ _ hpa)) rfl rfl ?_
        walk_at "rd"
        refine r_iC (wide_mul (a := 60) (b := 60) (small_pow _ (by omega)) (small_pow _ (by omega)) (by decide) (by decide) (by decide)) ?_
        walk_at "rd"
        refine r_iC (wide_mul (a := 60) (b := 60) (small_pow _ (by omega)) (small_pow _ (by omega)) (by decide) (by decide) (by decide)) ?_
        walk_at "rd"
        refine ⟨_, _, rfl, (Int.mul_ne_zero he (by omega)), wide_pow (wide_lt (a := 60) (b := 60) (small_pow _ (by omega)) (small_pow _ (by omega))), fun q2 H9 s9 _ hq2 => ?_⟩
        have T9 := T8.same s9
        walk_at "rd"
        refine eq_fr (SqT.of hq2) (SqT.of (s9 _ _ (s8 _ _ hpa))) (rN_scale he (by omega)) (rD_scale he (by omega)) ?_
        walk_at "rd"
        refine ⟨p, t, ts, _, rfl, T9, by omega, fun m Ha hm Ta sa => ?_⟩
        walk_at "rd"
        refine ⟨p, t, ts, _, rfl, Ta, by omega, fun l Hb hl Tb sb => ?_⟩
        walk_at "rd"
        have hl1 : (1 + if l < 0 then -l else l) ≠ 0 ∧ (1 + if l < 0 then -l else l).natAbs ≤ 10 ^ 9 := by
          split <;> omega
        obtain ⟨hl2, hl3⟩ := hl1
        generalize (1 + if l < 0 then -l else l) = f at hl2 hl3 ⊢
        refine ⟨m, f, rfl, hl2, small_pow _ (by omega), small_pow _ (by omega), fun pb Hc sc _ hpb => ?_⟩
        have Tc := Tb.same sc
        -- the two fractions
        have hA9 : SqT K (mn H9 p) pa [.int (rN n e), .int (rD n e)] := by
          obtain ⟨xs, hx⟩ := T9.obj
          exact mn_t hx (SqT.of (s9 _ _ (s8 _ _ hpa)))
        have hAc : SqT K Hc pa [.int (rN n e), .int (rD n e)] := sm_t sc (sm_t mn_le (sm_t (sa.trans sb) hA9))
        have hBc : SqT K Hc pb [.int (rN m f), .int (rD m f)] := SqT.of hpb
        have a0 := rN_le (n := n) he
        have a1 := rD_le (n := n) he
        have a2 := rD_pos' (n := n) he
        have b0 := rN_le (n := m) hl2
        have b1 := rD_le (n := m) hl2
        have b2 := rD_pos' (n := m) hl2
        have ha0 : (rN n e).natAbs ≤ 10 ^ 18 := by omega
        have ha1 : (rD n e).natAbs ≤ 10 ^ 18 := by omega
        have hb0 : (rN m f).natAbs ≤ 10 ^ 18 := by omega
        have hb1 : (rD m f).natAbs ≤ 10 ^ 18 := by omega
        generalize rN n e = A0 at *
        generalize rD n e = A1 at *
        generalize rN m f = B0 at *
        generalize rD m f = B1 at *
        have nz : A1 * B1 ≠ 0 := Int.mul_ne_zero (by omega) (by omega)
        have bd : ∀ b : Nat, 60 ≤ b → A0.natAbs < 2 ^ b ∧ A1.natAbs < 2 ^ b ∧ B0.natAbs < 2 ^ b ∧ B1.natAbs < 2 ^ b := fun b l => ⟨small_pow b ha0 l, small_pow b ha1 l, small_pow b hb0 l, small_pow b hb1 l⟩
        walk_at "rd"
        refine ⟨pa, pb, A0, A1, B0, B1, rfl, hAc, hBc, bd _ (by decide), nz, fun q1 Hd sd _ hq1 => ?_⟩
        walk_at "rd"
        refine ⟨pa, pb, A0, A1, B0, B1, rfl, sm_t sd hAc, sm_t sd hBc, bd _ (by decide), nz, fun q2 He se _ hq2 => ?_⟩
        walk_at "rd"
        refine eq_fr (SqT.of (se _ _ hq1)) (SqT.of hq2) rfl rfl ?_
        walk_at "rd"
        have hAe := sm_t se (sm_t sd hAc)
        have hBe := sm_t se (sm_t sd hBc)
        refine ⟨pa, pb, A0, A1, B0, B1, rfl, hAe, hBe, bd _ (by decide), nz, fun q3 Hf sf _ hq3 => ?_⟩
        walk_at "rd"
        refine ⟨pa, pb, A0, A1, B0, B1, rfl, sm_t sf hAe, sm_t sf hBe, bd _ (by decide), nz, fun q4 Hg sg _ hq4 => ?_⟩
        walk_at "rd"
        refine eq_fr (SqT.of (sg _ _ hq3)) (SqT.of hq4) rfl rfl ?_
        walk_at "rd"
        have hAg := sm_t sg (sm_t sf hAe)
        have hBg := sm_t sg (sm_t sf hBe)
        refine ⟨pa, pb, A0, A1, B0, B1, rfl, hAg, hBg, bd _ (by decide), nz, fun q5 Hh sh _ hq5 => ?_⟩
        walk_at "rd"
        refine r_ixT (sm_t sh hBg) (v := .int B0) rfl ?_
        walk_at "rd"
        refine r_ixT (sm_t sh hBg) (v := .int B1) rfl ?_
        walk_at "rd"
        refine ⟨(by show 2 ≤ sizeLine; decide), fun q6 hq6 => ?_⟩
        walk_at "rd"
        refine ⟨pa, q6, A0, A1, 0 - B0, B1, rfl, sm_t (sm_new hq6) (sm_t sh hAg), SqT.of upd_same, ⟨(bd _ (by decide)).1, (bd _ (by decide)).2.1, small_pow _ (by omega), (bd _ (by decide)).2.2.2⟩, nz, fun q7 Hi si _ hq7 => ?_⟩
        walk_at "rd"
        have em : A0 * B1 - B0 * A1 = A0 * B1 + (0 - B0) * A1 := by rw [Int.zero_sub, Int.neg_mul]; omega
        refine eq_fr (SqT.of (si _ _ (sm_new hq6 _ _ hq5))) (SqT.of hq7) (by rw [em]) (by rw [em]) ?_
        walk_at "rd"
        have hAi := sm_t si (sm_t (sm_new hq6 (o := .tup [.int (0 - B0), .int B1])) (sm_t sh hAg))
        have hBi := sm_t si (sm_t (sm_new hq6 (o := .tup [.int (0 - B0), .int B1])) (sm_t sh hBg))
        have Ti := (((((Tc.same sd).same se).same sf).same sg).same sh).same (sm_new hq6 (o := .tup [.int (0 - B0), .int B1])) |>.same si
        refine r_cut (fun σ' Hz => σ' = [some (.ref a), some (.ref p), some (.int (0 + i)), some (.int n), some (.int e), some (.int (1 + c)), some (.ref pa), some (.ref pb)] ∧ SqT K Hz pa [.int A0, .int A1] ∧ SqT K Hz pb [.int B0, .int B1] ∧ Tp K Hz p t ts (40 * (i + 1))) ?_ ?_
        · walk_at "rd"
          refine r_ixT hBi (v := .int B0) rfl ?_
          walk_at "rd"
          refine r_ifN (fun cb => ?_) (fun cb => ?_)
          · walk_at "rd"
            have nz2 : A1 * B0 ≠ 0 := Int.mul_ne_zero (by omega) cb
            refine ⟨pa, pb, A0, A1, B0, B1, rfl, hAi, hBi, bd _ (by decide), nz2, fun q8 Hj sj _ hq8 => ?_⟩
            walk_at "rd"
            refine ⟨pa, pb, A0, A1, B0, B1, rfl, sm_t sj hAi, sm_t sj hBi, bd _ (by decide), nz2, fun q9 Hk sk _ hq9 => ?_⟩
            walk_at "rd"
            refine eq_fr (SqT.of (sk _ _ hq8)) (SqT.of hq9) rfl rfl ?_
            walk_at "rd"
            exact ⟨rfl, sm_t sk (sm_t sj hAi), sm_t sk (sm_t sj hBi), ((Ti.same sj).same sk).mono (by omega)⟩
          · walk_at "rd"
            exact ⟨rfl, hAi, hBi, Ti.mono (by omega)⟩
        · rintro σ' Hz ⟨rfl, hAz, hBz, Tz⟩
          walk_at "rd"
          refine ⟨pa, pb, A0, A1, B0, B1, rfl, hAz, hBz, bd _ (by decide), ?_⟩
          walk_at "rd"
          refine r_ixT hAz (v := .int A0) rfl ?_
          walk_at "rd"
          refine r_ixT hBz (v := .int B1) rfl ?_
          refine r_iC (wide_mul (a := 60) (b := 60) (bd _ (by decide)).1 (bd _ (by decide)).2.2.2 (by decide) (by decide) (by decide)) ?_
          walk_at "rd"
          refine r_ixT hBz (v := .int B0) rfl ?_
          walk_at "rd"
          refine r_ixT hAz (v := .int A1) rfl ?_
          refine r_iC (wide_mul (a := 60) (b := 60) (bd _ (by decide)).2.2.1 (bd _ (by decide)).2.1 (by decide) (by decide) (by decide)) ?_
          walk_at "rd"
          refine eq_bl rfl ?_
          walk_at "rd"
          refine ⟨pa, pa, A0, A1, A0, A1, rfl, hAz, hAz, ⟨(bd _ (by decide)).1, (bd _ (by decide)).2.1, (bd _ (by decide)).1, (bd _ (by decide)).2.1⟩, ?_⟩
          walk_at "rd"
          refine eq_bl (decide_eq_false (Int.lt_irrefl _)) ?_
          walk_at "rd"
          exact ⟨_, _, _, _, _, _, rfl, Tz⟩
    · rintro σ H2 ⟨v2, v3, v4, v5, v6, v7, rfl, T2⟩
      walk_at "rd"
      exact k _
theorem all_mk {l : PySem.W.OpenLaw} {w : World} {K : PySem.W.Frag} {h : Heap} {mg : Str → Option Value} {fa f0 f1 f2 f3 f4 f5 f6 f7 f8 f9 f10 f11 f12 f13 f14 f15 : Addr} (X : K.In h) (G : h.Ns mainGlobals mg) (hfa : mg "law" = some (.ref fa))
    {od0 an0 : Option Addr} {sl0 : Array (Option Value)} {oc0 kV0 dc0 pm0 cd0 ct0 : Value}
    {od1 an1 : Option Addr} {sl1 : Array (Option Value)} {oc1 kV1 dc1 pm1 cd1 ct1 : Value}
    {od2 an2 : Option Addr} {sl2 : Array (Option Value)} {oc2 kV2 dc2 pm2 cd2 ct2 : Value}
    {od3 an3 : Option Addr} {sl3 : Array (Option Value)} {oc3 kV3 dc3 pm3 cd3 ct3 : Value}
    {od4 an4 : Option Addr} {sl4 : Array (Option Value)} {oc4 kV4 dc4 pm4 cd4 ct4 : Value}
    {od5 an5 : Option Addr} {sl5 : Array (Option Value)} {oc5 kV5 dc5 pm5 cd5 ct5 : Value}
    {od6 an6 : Option Addr} {sl6 : Array (Option Value)} {oc6 kV6 dc6 pm6 cd6 ct6 : Value}
    {od7 an7 : Option Addr} {sl7 : Array (Option Value)} {oc7 kV7 dc7 pm7 cd7 ct7 : Value}
    {od8 an8 : Option Addr} {sl8 : Array (Option Value)} {oc8 kV8 dc8 pm8 cd8 ct8 : Value}
    {od9 an9 : Option Addr} {sl9 : Array (Option Value)} {oc9 kV9 dc9 pm9 cd9 ct9 : Value}
    {od10 an10 : Option Addr} {sl10 : Array (Option Value)} {oc10 kV10 dc10 pm10 cd10 ct10 : Value}
    {od11 an11 : Option Addr} {sl11 : Array (Option Value)} {oc11 kV11 dc11 pm11 cd11 ct11 : Value}
    {od12 an12 : Option Addr} {sl12 : Array (Option Value)} {oc12 kV12 dc12 pm12 cd12 ct12 : Value}
    {od13 an13 : Option Addr} {sl13 : Array (Option Value)} {oc13 kV13 dc13 pm13 cd13 ct13 : Value}
    {od14 an14 : Option Addr} {sl14 : Array (Option Value)} {oc14 kV14 dc14 pm14 cd14 ct14 : Value}
    {od15 an15 : Option Addr} {sl15 : Array (Option Value)} {oc15 kV15 dc15 pm15 cd15 ct15 : Value}
    (a0 : PySem.W.nsIn K mainGlobals "ratio" = some (some (.ref f0))) (l0 : K.lookup f0 = some ⟨oc0, od0, .func (PySem.W.fnOf "ratio" "ratio" (defArgs s_ratio) (defBody s_ratio) (defScope s_ratio) .none kV0 dc0 pm0 an0 cd0 ct0), sl0⟩) (c0 : PySem.W.codeIn K cd0 "ratio" = true) (k0 : PySem.W.keepIn K (.ref f0) = true)
    (a1 : PySem.W.nsIn K mainGlobals "plus" = some (some (.ref f1))) (l1 : K.lookup f1 = some ⟨oc1, od1, .func (PySem.W.fnOf "plus" "plus" (defArgs s_plus) (defBody s_plus) (defScope s_plus) .none kV1 dc1 pm1 an1 cd1 ct1), sl1⟩) (c1 : PySem.W.codeIn K cd1 "plus" = true) (k1 : PySem.W.keepIn K (.ref f1) = true)
    (a2 : PySem.W.nsIn K mainGlobals "minus" = some (some (.ref f2))) (l2 : K.lookup f2 = some ⟨oc2, od2, .func (PySem.W.fnOf "minus" "minus" (defArgs s_minus) (defBody s_minus) (defScope s_minus) .none kV2 dc2 pm2 an2 cd2 ct2), sl2⟩) (c2 : PySem.W.codeIn K cd2 "minus" = true) (k2 : PySem.W.keepIn K (.ref f2) = true)
    (a3 : PySem.W.nsIn K mainGlobals "times" = some (some (.ref f3))) (l3 : K.lookup f3 = some ⟨oc3, od3, .func (PySem.W.fnOf "times" "times" (defArgs s_times) (defBody s_times) (defScope s_times) .none kV3 dc3 pm3 an3 cd3 ct3), sl3⟩) (c3 : PySem.W.codeIn K cd3 "times" = true) (k3 : PySem.W.keepIn K (.ref f3) = true)
    (a4 : PySem.W.nsIn K mainGlobals "over" = some (some (.ref f4))) (l4 : K.lookup f4 = some ⟨oc4, od4, .func (PySem.W.fnOf "over" "over" (defArgs s_over) (defBody s_over) (defScope s_over) .none kV4 dc4 pm4 an4 cd4 ct4), sl4⟩) (c4 : PySem.W.codeIn K cd4 "over" = true) (k4 : PySem.W.keepIn K (.ref f4) = true)
    (a5 : PySem.W.nsIn K mainGlobals "is_less" = some (some (.ref f5))) (l5 : K.lookup f5 = some ⟨oc5, od5, .func (PySem.W.fnOf "is_less" "is_less" (defArgs s_is_less) (defBody s_is_less) (defScope s_is_less) .none kV5 dc5 pm5 an5 cd5 ct5), sl5⟩) (c5 : PySem.W.codeIn K cd5 "is_less" = true) (k5 : PySem.W.keepIn K (.ref f5) = true)
    (a6 : PySem.W.nsIn K mainGlobals "_law_tape" = some (some (.ref f6))) (l6 : K.lookup f6 = some ⟨oc6, od6, .func (PySem.W.fnOf "_law_tape" "_law_tape" (defArgs s_l_tape) (defBody s_l_tape) (defScope s_l_tape) .none kV6 dc6 pm6 an6 cd6 ct6), sl6⟩) (c6 : PySem.W.codeIn K cd6 "_law_tape" = true) (k6 : PySem.W.keepIn K (.ref f6) = true)
    (a7 : PySem.W.nsIn K mainGlobals "_law_draw" = some (some (.ref f7))) (l7 : K.lookup f7 = some ⟨oc7, od7, .func (PySem.W.fnOf "_law_draw" "_law_draw" (defArgs s_l_draw) (defBody s_l_draw) (defScope s_l_draw) .none kV7 dc7 pm7 an7 cd7 ct7), sl7⟩) (c7 : PySem.W.codeIn K cd7 "_law_draw" = true) (k7 : PySem.W.keepIn K (.ref f7) = true)
    (a8 : PySem.W.nsIn K mainGlobals "_law_equal" = some (some (.ref f8))) (l8 : K.lookup f8 = some ⟨oc8, od8, .func (PySem.W.fnOf "_law_equal" "_law_equal" (defArgs s_l_equal) (defBody s_l_equal) (defScope s_l_equal) .none kV8 dc8 pm8 an8 cd8 ct8), sl8⟩) (c8 : PySem.W.codeIn K cd8 "_law_equal" = true) (k8 : PySem.W.keepIn K (.ref f8) = true)
    (a9 : PySem.W.nsIn K mainGlobals "_law_take" = some (some (.ref f9))) (l9 : K.lookup f9 = some ⟨oc9, od9, .func (PySem.W.fnOf "_law_take" "_law_take" (defArgs s_l_take) (defBody s_l_take) (defScope s_l_take) .none kV9 dc9 pm9 an9 cd9 ct9), sl9⟩) (c9 : PySem.W.codeIn K cd9 "_law_take" = true) (k9 : PySem.W.keepIn K (.ref f9) = true)
    (a10 : PySem.W.nsIn K mainGlobals "_law_ratio" = some (some (.ref f10))) (l10 : K.lookup f10 = some ⟨oc10, od10, .func (PySem.W.fnOf "_law_ratio" "_law_ratio" (defArgs s_l_ratio) (defBody s_l_ratio) (defScope s_l_ratio) .none kV10 dc10 pm10 an10 cd10 ct10), sl10⟩) (c10 : PySem.W.codeIn K cd10 "_law_ratio" = true) (k10 : PySem.W.keepIn K (.ref f10) = true)
    (a11 : PySem.W.nsIn K mainGlobals "_law_plus" = some (some (.ref f11))) (l11 : K.lookup f11 = some ⟨oc11, od11, .func (PySem.W.fnOf "_law_plus" "_law_plus" (defArgs s_l_plus) (defBody s_l_plus) (defScope s_l_plus) .none kV11 dc11 pm11 an11 cd11 ct11), sl11⟩) (c11 : PySem.W.codeIn K cd11 "_law_plus" = true) (k11 : PySem.W.keepIn K (.ref f11) = true)
    (a12 : PySem.W.nsIn K mainGlobals "_law_times" = some (some (.ref f12))) (l12 : K.lookup f12 = some ⟨oc12, od12, .func (PySem.W.fnOf "_law_times" "_law_times" (defArgs s_l_times) (defBody s_l_times) (defScope s_l_times) .none kV12 dc12 pm12 an12 cd12 ct12), sl12⟩) (c12 : PySem.W.codeIn K cd12 "_law_times" = true) (k12 : PySem.W.keepIn K (.ref f12) = true)
    (a13 : PySem.W.nsIn K mainGlobals "_law_over" = some (some (.ref f13))) (l13 : K.lookup f13 = some ⟨oc13, od13, .func (PySem.W.fnOf "_law_over" "_law_over" (defArgs s_l_over) (defBody s_l_over) (defScope s_l_over) .none kV13 dc13 pm13 an13 cd13 ct13), sl13⟩) (c13 : PySem.W.codeIn K cd13 "_law_over" = true) (k13 : PySem.W.keepIn K (.ref f13) = true)
    (a14 : PySem.W.nsIn K mainGlobals "_law_number" = some (some (.ref f14))) (l14 : K.lookup f14 = some ⟨oc14, od14, .func (PySem.W.fnOf "_law_number" "_law_number" (defArgs s_l_number) (defBody s_l_number) (defScope s_l_number) .none kV14 dc14 pm14 an14 cd14 ct14), sl14⟩) (c14 : PySem.W.codeIn K cd14 "_law_number" = true) (k14 : PySem.W.keepIn K (.ref f14) = true)
    (a15 : PySem.W.nsIn K mainGlobals "law" = some (some (.ref f15))) (l15 : K.lookup f15 = some ⟨oc15, od15, .func (PySem.W.fnOf "law" "law" (defArgs s_law) (defBody s_law) (defScope s_law) .none kV15 dc15 pm15 an15 cd15 ct15), sl15⟩) (c15 : PySem.W.codeIn K cd15 "law" = true) (k15 : PySem.W.keepIn K (.ref f15) = true)
    (z_abs : PySem.W.nsIn K mainGlobals "abs" = some none)
    (z_bool : PySem.W.nsIn K mainGlobals "bool" = some none)
    (z_int : PySem.W.nsIn K mainGlobals "int" = some none)
    (z_isinstance : PySem.W.nsIn K mainGlobals "isinstance" = some none)
    (z_len : PySem.W.nsIn K mainGlobals "len" = some none)
    (z_list : PySem.W.nsIn K mainGlobals "list" = some none)
    (z_range : PySem.W.nsIn K mainGlobals "range" = some none)
    (z_str : PySem.W.nsIn K mainGlobals "str" = some none)
    (z_tuple : PySem.W.nsIn K mainGlobals "tuple" = some none)
    (z_gcd : PySem.W.nsIn K mainGlobals "gcd" = some (some (.builtin "math.gcd")))
    : ∃ fd : FuncData, (∀ (s : Shared) (v : Value), BindsTo s fd ⟨[v], []⟩ [("script", v)]) ∧ ∀ base : Heap, K.In base → base.Ns mainGlobals mg → FnOk l.prog w K mg base CX0 4 fa fd ["script"] (sp_law K) := by
  have e := hfa.symm.trans (PySem.W.mg_of X G a15)
  cases e
  have F0 := fun_mk (st := s_ratio) l0 c0 k0
  have b0 := F0.binds (ps := ["n", "d"]) fun _ _ _ _ _ _ us hl => match us, hl with | [_, _], _ => rfl
  have F1 := fun_mk (st := s_plus) l1 c1 k1
  have b1 := F1.binds (ps := ["a", "b"]) fun _ _ _ _ _ _ us hl => match us, hl with | [_, _], _ => rfl
  have F2 := fun_mk (st := s_minus) l2 c2 k2
  have b2 := F2.binds (ps := ["a", "b"]) fun _ _ _ _ _ _ us hl => match us, hl with | [_, _], _ => rfl
  have F3 := fun_mk (st := s_times) l3 c3 k3
  have b3 := F3.binds (ps := ["a", "b"]) fun _ _ _ _ _ _ us hl => match us, hl with | [_, _], _ => rfl
  have F4 := fun_mk (st := s_over) l4 c4 k4
  have b4 := F4.binds (ps := ["a", "b"]) fun _ _ _ _ _ _ us hl => match us, hl with | [_, _], _ => rfl
  have F5 := fun_mk (st := s_is_less) l5 c5 k5
  have b5 := F5.binds (ps := ["a", "b"]) fun _ _ _ _ _ _ us hl => match us, hl with | [_, _], _ => rfl
  have F6 := fun_mk (st := s_l_tape) l6 c6 k6
  have b6 := F6.binds (ps := ["script"]) fun _ _ _ _ _ _ us hl => match us, hl with | [_], _ => rfl
  have F7 := fun_mk (st := s_l_draw) l7 c7 k7
  have b7 := F7.binds (ps := ["tape", "at", "many"]) fun _ _ _ _ _ _ us hl => match us, hl with | [_, _, _], _ => rfl
  have F8 := fun_mk (st := s_l_equal) l8 c8 k8
  have b8 := F8.binds (ps := ["actual", "due"]) fun _ _ _ _ _ _ us hl => match us, hl with | [_, _], _ => rfl
  have F9 := fun_mk (st := s_l_take) l9 c9 k9
  have b9 := F9.binds (ps := ["state", "many"]) fun _ _ _ _ _ _ us hl => match us, hl with | [_, _], _ => rfl
  have F10 := fun_mk (st := s_l_ratio) l10 c10 k10
  have b10 := F10.binds (ps := ["n", "d"]) fun _ _ _ _ _ _ us hl => match us, hl with | [_, _], _ => rfl
  have F11 := fun_mk (st := s_l_plus) l11 c11 k11
  have b11 := F11.binds (ps := ["a", "b"]) fun _ _ _ _ _ _ us hl => match us, hl with | [_, _], _ => rfl
  have F12 := fun_mk (st := s_l_times) l12 c12 k12
  have b12 := F12.binds (ps := ["a", "b"]) fun _ _ _ _ _ _ us hl => match us, hl with | [_, _], _ => rfl
  have F13 := fun_mk (st := s_l_over) l13 c13 k13
  have b13 := F13.binds (ps := ["a", "b"]) fun _ _ _ _ _ _ us hl => match us, hl with | [_, _], _ => rfl
  have F14 := fun_mk (st := s_l_number) l14 c14 k14
  have b14 := F14.binds (ps := ["state"]) fun _ _ _ _ _ _ us hl => match us, hl with | [_], _ => rfl
  have F15 := fun_mk (st := s_law) l15 c15 k15
  have b15 := F15.binds (ps := ["script"]) fun _ _ _ _ _ _ us hl => match us, hl with | [_], _ => rfl
  let T : Env K mg := { a_ratio := _, d_ratio := _, F_ratio := F0, b_ratio := b0, g_ratio := PySem.W.mg_of X G a0, a_plus := _, d_plus := _, F_plus := F1, b_plus := b1, g_plus := PySem.W.mg_of X G a1, a_minus := _, d_minus := _, F_minus := F2, b_minus := b2, g_minus := PySem.W.mg_of X G a2, a_times := _, d_times := _, F_times := F3, b_times := b3, g_times := PySem.W.mg_of X G a3, a_over := _, d_over := _, F_over := F4, b_over := b4, g_over := PySem.W.mg_of X G a4, a_is_less := _, d_is_less := _, F_is_less := F5, b_is_less := b5, g_is_less := PySem.W.mg_of X G a5, a_l_tape := _, d_l_tape := _, F_l_tape := F6, b_l_tape := b6, g_l_tape := PySem.W.mg_of X G a6, a_l_draw := _, d_l_draw := _, F_l_draw := F7, b_l_draw := b7, g_l_draw := PySem.W.mg_of X G a7, a_l_equal := _, d_l_equal := _, F_l_equal := F8, b_l_equal := b8, g_l_equal := PySem.W.mg_of X G a8, a_l_take := _, d_l_take := _, F_l_take := F9, b_l_take := b9, g_l_take := PySem.W.mg_of X G a9, a_l_ratio := _, d_l_ratio := _, F_l_ratio := F10, b_l_ratio := b10, g_l_ratio := PySem.W.mg_of X G a10, a_l_plus := _, d_l_plus := _, F_l_plus := F11, b_l_plus := b11, g_l_plus := PySem.W.mg_of X G a11, a_l_times := _, d_l_times := _, F_l_times := F12, b_l_times := b12, g_l_times := PySem.W.mg_of X G a12, a_l_over := _, d_l_over := _, F_l_over := F13, b_l_over := b13, g_l_over := PySem.W.mg_of X G a13, a_l_number := _, d_l_number := _, F_l_number := F14, b_l_number := b14, g_l_number := PySem.W.mg_of X G a14, a_law := _, d_law := _, F_law := F15, b_law := b15, g_law := PySem.W.mg_of X G a15, z_abs := PySem.W.mg_none_of X G z_abs, z_bool := PySem.W.mg_none_of X G z_bool, z_int := PySem.W.mg_none_of X G z_int, z_isinstance := PySem.W.mg_none_of X G z_isinstance, z_len := PySem.W.mg_none_of X G z_len, z_list := PySem.W.mg_none_of X G z_list, z_range := PySem.W.mg_none_of X G z_range, z_str := PySem.W.mg_none_of X G z_str, z_tuple := PySem.W.mg_none_of X G z_tuple, z_gcd := PySem.W.mg_of X G z_gcd }
  exact ⟨PySem.W.fnOf "law" "law" (defArgs s_law) (defBody s_law) (defScope s_law) .none kV15 dc15 pm15 an15 cd15 ct15, fun s v => .of_eq rfl, fun base _ _ => ok_law T⟩
end Bo
open PySem PySem.W PyProof.Rows
set_option maxRecDepth 100000 in
set_option maxHeartbeats 0 in
theorem PySem.Challenge.cw_bestodds_k01_fractions_holds : PySem.Challenge.rw_bestodds_k01_fractions.Holds := by
  w_on; o_law; k_head; (case hw => w_witness2)
  k_fill
  refine L2.walk_of (l := PySem.Challenge.rw_bestodds_k01_fractions) (n := 63) (k := 4) (x := "script") (CX := fun _ => L2.CX0) (sp := fun w => Bo.sp_law _) rfl (by decide) rfl ⟨rfl, by decide, by decide⟩ (fun w h Y => PySem.W.kIn_of Y) ?F (fun _ _ a ns hl _ hS => ⟨a, ns, rfl, hS, hl, fun _ => rfl⟩) (fun _ _ _ _ _ h => h)
  case F =>
    intro w mg fa h KX G hmg
    refine' Bo.all_mk KX G hmg ?a0 ?l0 ?c0 ?k0 ?a1 ?l1 ?c1 ?k1 ?a2 ?l2 ?c2 ?k2 ?a3 ?l3 ?c3 ?k3 ?a4 ?l4 ?c4 ?k4 ?a5 ?l5 ?c5 ?k5 ?a6 ?l6 ?c6 ?k6 ?a7 ?l7 ?c7 ?k7 ?a8 ?l8 ?c8 ?k8 ?a9 ?l9 ?c9 ?k9 ?a10 ?l10 ?c10 ?k10 ?a11 ?l11 ?c11 ?k11 ?a12 ?l12 ?c12 ?k12 ?a13 ?l13 ?c13 ?k13 ?a14 ?l14 ?c14 ?k14 ?a15 ?l15 ?c15 ?k15 ?z_abs ?z_bool ?z_int ?z_isinstance ?z_len ?z_list ?z_range ?z_str ?z_tuple ?z_gcd
    (case a0 => k_is)
    (case l0 => k_is)
    (case c0 => k_is)
    (case k0 => k_is)
    (case a1 => k_is)
    (case l1 => k_is)
    (case c1 => k_is)
    (case k1 => k_is)
    (case a2 => k_is)
    (case l2 => k_is)
    (case c2 => k_is)
    (case k2 => k_is)
    (case a3 => k_is)
    (case l3 => k_is)
    (case c3 => k_is)
    (case k3 => k_is)
    (case a4 => k_is)
    (case l4 => k_is)
    (case c4 => k_is)
    (case k4 => k_is)
    (case a5 => k_is)
    (case l5 => k_is)
    (case c5 => k_is)
    (case k5 => k_is)
    (case a6 => k_is)
    (case l6 => k_is)
    (case c6 => k_is)
    (case k6 => k_is)
    (case a7 => k_is)
    (case l7 => k_is)
    (case c7 => k_is)
    (case k7 => k_is)
    (case a8 => k_is)
    (case l8 => k_is)
    (case c8 => k_is)
    (case k8 => k_is)
    (case a9 => k_is)
    (case l9 => k_is)
    (case c9 => k_is)
    (case k9 => k_is)
    (case a10 => k_is)
    (case l10 => k_is)
    (case c10 => k_is)
    (case k10 => k_is)
    (case a11 => k_is)
    (case l11 => k_is)
    (case c11 => k_is)
    (case k11 => k_is)
    (case a12 => k_is)
    (case l12 => k_is)
    (case c12 => k_is)
    (case k12 => k_is)
    (case a13 => k_is)
    (case l13 => k_is)
    (case c13 => k_is)
    (case k13 => k_is)
    (case a14 => k_is)
    (case l14 => k_is)
    (case c14 => k_is)
    (case k14 => k_is)
    (case a15 => k_is)
    (case l15 => k_is)
    (case c15 => k_is)
    (case k15 => k_is)
    (case z_abs => k_is)
    (case z_bool => k_is)
    (case z_int => k_is)
    (case z_isinstance => k_is)
    (case z_len => k_is)
    (case z_list => k_is)
    (case z_range => k_is)
    (case z_str => k_is)
    (case z_tuple => k_is)
    (case z_gcd => k_is)

