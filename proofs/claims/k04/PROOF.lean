import PyProof.Rows.All
import Wide.All
import OpenK.AllK
import Wide.FinOn
import HandS.ForMost
import HandS.IsInst
import HandS.Wide
import HandS.Gcd
import HandS.Codes
import HandS.DictTup
import Flt.Len
import PySem.Challenge.RW_bestodds_k04_moves_of_choices
set_option Elab.async false
set_option linter.all false
set_option maxRecDepth 100000
set_option maxHeartbeats 4000000
namespace Bo
open PySem L2

/-! ### readings, step by step -/
section
variable {σ : L2.St} {H : Hp} {Q : VK} {D : Ends} {ta tb te : TE} {t u : TS} {tt tu : TT} {K : PySem.W.Frag}
theorem r_seq (h : t { D with nx := u D } σ H) : tSeq t u D σ H := h
theorem r_asg {g : TG} (h : te σ H fun x H1 => g x σ H1 D.nx) : tAsg te g D σ H := h
theorem r_name {i : Nat} {v : V} {R : L2.St → Hp → Prop} (h : R (σ.set i (some v)) H) : gName i v σ H R := h
theorem r_var {i : Nat} (h : ∃ v, σ[i]? = some (some v) ∧ Q v H) : tVar i σ H Q := h
theorem r_c {v : V} (h : Q v H) : tC v σ H Q := h
theorem r_op {r : R2} (h : ta σ H fun x H1 => tb σ H1 fun y H2 => r x y H2 Q) : tOp r ta tb σ H Q := h
theorem r_un {r : V → Hp → VK → Prop} (h : ta σ H fun x H1 => r x H1 Q) : tUn r ta σ H Q := h
theorem r_i0 {g : Int → Int → V} {i j : Int} (h : Q (g i j) H) : rI0 g (.int i) (.int j) H Q := ⟨i, j, rfl, rfl, h⟩
theorem r_iC {C : Int → Int → Prop} {g : Int → Int → V} {i j : Int} (c : C i j) (h : Q (g i j) H) : rI C g (.int i) (.int j) H Q := ⟨i, j, rfl, rfl, c, h⟩
theorem r_u {g : Int → V} {i : Int} (h : Q (g i) H) : rU g (.int i) H Q := ⟨i, rfl, h⟩
theorem r_eqI {i j : Int} (h : Q (.bl (decide (i = j))) H) : rEq (.int i) (.int j) H Q := by
  refine ⟨rfl, ?_⟩
  have e : decide (V.int i = V.int j) = decide (i = j) := by
    by_cases q : i = j
    · subst q; simp
    · rw [decide_eq_false q, decide_eq_false fun z => q (V.int.inj z)]
  rw [e]
  exact h
theorem r_neI {i j : Int} (h : Q (.bl (!decide (i = j))) H) : rNe (.int i) (.int j) H Q := by
  refine ⟨rfl, ?_⟩
  have e : decide (V.int i = V.int j) = decide (i = j) := by
    by_cases q : i = j
    · subst q; simp
    · rw [decide_eq_false q, decide_eq_false fun z => q (V.int.inj z)]
  rw [e]
  exact h
theorem r_eqS {i j : Str} (h : Q (.bl (decide (i = j))) H) : rEq (.str i) (.str j) H Q := by
  refine ⟨rfl, ?_⟩
  have e : decide (V.str i = V.str j) = decide (i = j) := by
    by_cases q : i = j
    · subst q; simp
    · rw [decide_eq_false q, decide_eq_false fun z => q (V.str.inj z)]
  rw [e]
  exact h
theorem r_eqB {i j : Bool} (h : Q (.bl (decide (i = j))) H) : rEq (.bl i) (.bl j) H Q := by
  refine ⟨rfl, ?_⟩
  have e : decide (V.bl i = V.bl j) = decide (i = j) := by
    by_cases q : i = j
    · subst q; simp
    · rw [decide_eq_false q, decide_eq_false fun z => q (V.bl.inj z)]
  rw [e]
  exact h
theorem r_tst {R : Bool → Hp → Prop} (h : te σ H fun x H' => ∃ k, x = .bl k ∧ R k H') : tTest te σ H R := h
theorem r_tB {R : Bool → Hp → Prop} (h : te σ H fun x H' => ∃ k, x = .bl k ∧ R k H') : tB te σ H R := h
theorem r_bl {b : Bool} {R : Bool → Prop} (h : R b) : ∃ k, V.bl b = .bl k ∧ R k := ⟨b, rfl, h⟩
theorem r_not {R : Bool → Hp → Prop} (h : tt σ H fun c H1 => R (!c) H1) : tNot tt σ H R := h
theorem r_and {R : Bool → Hp → Prop} (h : tt σ H fun c H1 => if c = true then tu σ H1 R else R false H1) : tAnd tt tu σ H R := h
theorem r_or {R : Bool → Hp → Prop} (h : tt σ H fun c H1 => if c = true then R true H1 else tu σ H1 R) : tOr tt tu σ H R := h
theorem r_andV (h : ta σ H fun x H1 => ∃ c, x = .bl c ∧ if c = true then tb σ H1 Q else Q (.bl false) H1) : tAndV ta tb σ H Q := h
theorem r_orV (h : ta σ H fun x H1 => ∃ c, x = .bl c ∧ if c = true then Q (.bl true) H1 else tb σ H1 Q) : tOrV ta tb σ H Q := h
theorem r_notV (h : ta σ H fun x H1 => ∃ c, x = .bl c ∧ Q (.bl (!c)) H1) : tNotV ta σ H Q := h
theorem r_ifs (h : tt σ H fun b H1 => if b = true then t D σ H1 else u D σ H1) : tIfS tt t u D σ H := h
theorem r_ifE (h : tt σ H fun c H1 => if c = true then ta σ H1 Q else tb σ H1 Q) : tIf tt ta tb σ H Q := h
theorem r_ret (h : te σ H D.rt) : tRet te D σ H := h
theorem r_retN (h : D.rt .non H) : tRetN D σ H := h
theorem r_next (h : D.nx σ H) : tNext D σ H := h
theorem r_brk (h : D.bk σ H) : tBreak D σ H := h
theorem r_cont (h : D.ct σ H) : tCont D σ H := h
theorem r_drop (h : te σ H fun _ H1 => D.nx σ H1) : tDrop te D σ H := h
theorem r_nil {R : List V → Hp → Prop} (h : R [] H) : tNil σ H R := h
theorem r_cons {tr : TA} {R : List V → Hp → Prop} (h : ta σ H fun x H1 => tr σ H1 fun xs H2 => R (x :: xs) H2) : tCons ta tr σ H R := h
theorem r_tup {tA : TA} (h : tA σ H fun xs H1 => xs.length ≤ sizeLine ∧ ∀ p, H1 p = none → Q (.ref p) (upd H1 p (.tup xs))) : tTup tA σ H Q := h
theorem r_lst {tA : TA} (h : tA σ H fun xs H1 => xs.length ≤ sizeLine ∧ ∀ p, H1 p = none → Q (.ref p) (upd H1 p (.lst xs))) : tLst tA σ H Q := h
theorem r_cb {r : List V → Hp → VK → Prop} {tA : TA} (h : tA σ H fun vs H1 => r vs H1 Q) : tCB r tA σ H Q := h
theorem r_call {sp : Sp} {E : XK} {tA : TA} (h : tA σ H fun vs H1 => sp (vs ++ []) H1 Q E) : tCall sp [] E tA σ H Q := h
theorem r_ixT {p : Addr} {xs : List V} {i : Int} {v : V} (s : SqT K H p xs) (a : atI xs i = some v) (h : Q v H) : rIxT K (.ref p) (.int i) H Q := ⟨p, xs, i, v, rfl, rfl, s, a, h⟩
theorem r_ixL {p : Addr} {xs : List V} {i : Int} {v : V} (s : SqL K H p xs) (a : atI xs i = some v) (h : Q v H) : rIxL K (.ref p) (.int i) H Q := ⟨p, xs, i, v, rfl, rfl, s, a, h⟩
theorem r_gsub {to ti : TE} {ts : TSet} {v : V} {R : L2.St → Hp → Prop} (h : to σ H fun o H1 => ti σ H1 fun i H2 => ts o i v H2 fun H3 => R σ H3) : gSub to ti ts v σ H R := h
theorem r_setL {p : Addr} {xs : List V} {k : Int} {j : Nat} {v : V} {R : Hp → Prop} (h : H p = some (.lst xs)) (e : ixN xs.length k = some j) (q : R (upd H p (.lst (xs.set j v)))) : rSetL (.ref p) (.int k) v H R := ⟨p, xs, k, j, rfl, rfl, h, e, q⟩
theorem r_ixQT {p : Addr} {xs : List V} {i : Int} {v : V} (s : SqT K H p xs) (a : atI xs i = some v) (h : Q v H) : rIx K (.ref p) (.int i) H Q := .inr (.inl ⟨p, xs, i, v, rfl, rfl, s, a, h⟩)
theorem r_ixQL {p : Addr} {xs : List V} {i : Int} {v : V} (s : SqL K H p xs) (a : atI xs i = some v) (h : Q v H) : rIx K (.ref p) (.int i) H Q := .inl ⟨p, xs, i, v, rfl, rfl, s, a, h⟩
theorem r_gtup2 {p : Addr} {x y : V} {i j : Nat} {R : L2.St → Hp → Prop} (s : SqT K H p [x, y]) (h : R ((σ.set i (some x)).set j (some y)) H) : gTup K 2 (gCons (gName i) (gCons (gName j) gNil)) (.ref p) σ H R := ⟨p, _, rfl, s, rfl, x, [y], rfl, y, [], rfl, rfl, h⟩
theorem r_app {p : Addr} {xs : List V} {y : V} (h : H p = some (.lst xs)) (l : xs.length < 100000) (q : Q .non (upd H p (.lst (xs ++ [y])))) : rAppend (.ref p) [y] H Q := ⟨p, xs, y, rfl, rfl, h, Nat.lt_of_lt_of_le l (by decide), q⟩
theorem r_bm {T : String} {r : V → List V → Hp → VK → Prop} {tA : TA} (h : ta σ H fun x H1 => tyV K T x H1 ∧ tA σ H1 fun xs H2 => r x xs H2 Q) : tBM K T r ta tA σ H Q := h
theorem r_bm0 {T : String} {r : V → List V → Hp → VK → Prop} (h : ta σ H fun x H1 => tyV K T x H1 ∧ r x [] H1 Q) : tBM0 K T r ta σ H Q := h
theorem r_tyL {p : Addr} {xs : List V} {P : Prop} (h : SqL K H p xs) (k : P) : tyV K "list" (.ref p) H ∧ P := ⟨.inl ⟨rfl, _, h⟩, k⟩
theorem r_tyD {p : Addr} {kvs : List (Key × V)} {P : Prop} (h : H p = some (.dK kvs)) (k : P) : tyV K "dict" (.ref p) H ∧ P := ⟨.inr (.inr (.inl ⟨rfl, .inl ⟨_, h⟩⟩)), k⟩
theorem r_dput {td ty : TE} (h : te σ H fun v H1 => td σ H1 fun x H2 => ty σ H2 fun y H3 => ∃ a H4, x = .ref a ∧ DPut H3 a y v H4 ∧ D.nx σ H4) : sDPut td ty te D σ H := h
theorem r_dnew (h : ∀ p, H p = none → Q (.ref p) (upd H p (.dK []))) : tDNewK σ H Q := h
theorem r_lenS {p : Addr} {xs : List V} (s : SqL K H p xs ∨ SqT K H p xs) (h : Q (.int xs.length) H) : ∃ q ys, [V.ref p] = [.ref q] ∧ (SqL K H q ys ∨ SqT K H q ys) ∧ Q (.int ys.length) H := ⟨p, xs, rfl, s, h⟩
theorem r_tupL {p : Addr} {xs : List V} (s : SqL K H p xs) (h : ∀ q, H q = none → Q (.ref q) (upd H q (.tup xs))) : ∃ q ys, [V.ref p] = [.ref q] ∧ ((SqL K H q ys ∧ ∀ l, H l = none → Q (.ref l) (upd H l (.tup ys))) ∨ (SqT K H q ys ∧ Q (.ref q) H)) := ⟨p, xs, rfl, .inl ⟨s, h⟩⟩
theorem r_yes {R : Bool → Hp → Prop} (h : R true H) : tYes σ H R := h
theorem r_chain {r r' : R2} {tc : TE} (h : ta σ H fun x H1 => tb σ H1 fun y H2 => r x y H2 fun z H3 => ∃ k, z = .bl k ∧ if k = true then tc σ H3 fun v H4 => r' y v H4 Q else Q (.bl false) H3) : tChain r r' ta tb tc σ H Q := h
theorem r_for {wi : TI} {g : TG} {b : TS} (h : wi σ H fun J H1 => ∃ W : Nat → Nat → L2.St → Hp → Prop, (∃ m, W 0 m σ H1) ∧ ∀ i m σ H, W i m σ H →
    (J.stop i H ∧ D.nx σ H) ∨ (J.go i H ∧ ∃ N : L2.St → Hp → Prop, (∀ σ' H', N σ' H' → ∃ m', m' < m ∧ W (i + 1) m' σ' H') ∧ ∀ x H', J.yld i H x H' → g x σ H' fun σ2 H2 => b { D with nx := N, ct := N, bk := D.nx } σ2 H2)) : tFor wi g b D σ H := h
theorem r_iList {R : It → Hp → Prop} (h : te σ H fun x H1 => ∃ a, x = .ref a ∧ (∃ xs, SqL K H1 a xs) ∧ R (Itl K a) H1) : iList K te σ H R := h
theorem r_iTup {R : It → Hp → Prop} (h : te σ H fun x H1 => ∃ a, x = .ref a ∧ (∃ xs, SqT K H1 a xs) ∧ R (Itt K a) H1) : iTup K te σ H R := h
theorem r_it {a : Addr} {P : Prop} {R : Addr → Prop} (p : P) (h : R a) : P ∧ R a := ⟨p, h⟩
theorem r_rng1 {tA : TA} {R : It → Hp → Prop} (h : tA σ H fun vs H1 => ∃ j : Int, vs = [.int j] ∧ -(2 ^ 62) ≤ j ∧ j < 2 ^ 62 ∧ R (Itr 0 j.toNat) H1) : iRng1 tA σ H R := h
theorem r_rng2 {tA : TA} {R : It → Hp → Prop} (h : tA σ H fun vs H1 => ∃ i j : Int, vs = [.int i, .int j] ∧ (-(2 ^ 62) ≤ i ∧ i < 2 ^ 62 ∧ -(2 ^ 62) ≤ j ∧ j < 2 ^ 62) ∧ R (Itr i (j - i).toNat) H1) : iRng2 tA σ H R := h
theorem r_int1 {i : Int} (h : Q (.int i) H) : (∃ j, [V.int i] = [.int j] ∧ Q (.int j) H) ∨ ∃ k, [V.int i] = [.bl k] ∧ Q (.int (if k then 1 else 0)) H := .inl ⟨i, rfl, h⟩
theorem r_if {c : Prop} [Decidable c] {A B : Prop} (h1 : c → A) (h2 : ¬ c → B) : if decide c = true then A else B := by
  by_cases h : c
  · rw [decide_eq_true h, if_pos rfl]
    exact h1 h
  · rw [decide_eq_false h, if_neg Bool.false_ne_true]
    exact h2 h
theorem r_ifN {c : Prop} [Decidable c] {A B : Prop} (h1 : ¬ c → A) (h2 : c → B) : if (!decide c) = true then A else B := by
  by_cases h : c
  · rw [decide_eq_true h]
    exact h2 h
  · rw [decide_eq_false h]
    exact h1 h
theorem r_ifT {A B : Prop} (h : A) : if true = true then A else B := h
theorem r_ifF {A B : Prop} (h : B) : if false = true then A else B := h
theorem r_ifNT {A B : Prop} (h : B) : if (!true) = true then A else B := h
theorem r_ifNF {A B : Prop} (h : A) : if (!false) = true then A else B := h
end

section
variable {σ : L2.St} {H : Hp} {D : Ends} {t u : TS}
theorem r_cut (Mid : L2.St → Hp → Prop) (h1 : t { D with nx := Mid } σ H) (h2 : ∀ σ' H', Mid σ' H' → u D σ' H') : C8.tCut t u D σ H := ⟨Mid, h1, h2⟩
end
/-! ### division by any int that is not nought -/
def CDivX (_ j : Int) : Prop := j ≠ 0 ∧ j.natAbs.log2 < 9000
theorem op_fdivX {X : Cx} : OpR X (binaryOp .FloorDiv) (rI CDivX fun i j => .int (i.fdiv j)) := opI fun _ _ _ _ _ _ _ hc q => PyProof.Rows.floordiv_int hc.1 q (.inl (PyProof.noPylong_of_log2 hc.2))

/-! ### heaps -/
section
variable {K : PySem.W.Frag} {H H' H1 : Hp} {a b p q : Addr} {xs ys : List V} {o : HO}
theorem sm_t (e : Same H H') (h : SqT K H a xs) : SqT K H' a xs := by
  rcases h with (h | ⟨o, h⟩) | h
  · exact .inl (.inl (e _ _ h))
  · exact .inl (.inr ⟨o, e _ _ h⟩)
  · exact .inr h
theorem sm_l (e : Same H H') (h : SqL K H a xs) : SqL K H' a xs := e.seq h
theorem sm_new (h : H p = none) : Same H (upd H p o) := fun b u e => by
  rw [upd_ne (ne_of_none e h)]
  exact e
def mn (H : Hp) (p : Addr) : Hp := fun b => if b = p then none else H b
theorem mn_same : mn H p p = none := if_pos rfl
theorem mn_ne (h : b ≠ p) : mn H p b = H b := if_neg h
theorem mn_le : Same (mn H p) H := fun b o e => by
  by_cases h : b = p
  · rw [h, mn_same] at e
    cases e
  · rw [mn_ne h] at e
    exact e
theorem mn_mono (e : Same H H') : Same (mn H p) (mn H' p) := fun b o h => by
  by_cases q : b = p
  · rw [q, mn_same] at h
    cases h
  · rw [mn_ne q] at h ⊢
    exact e _ _ h
theorem mn_upd : mn (upd H p o) p = mn H p := by
  funext b
  by_cases h : b = p
  · rw [h, mn_same, mn_same]
  · rw [mn_ne h, mn_ne h, upd_ne h]
/-- a tuple stands apart from a list -/
theorem mn_t (h : H p = some (.lst ys)) (s : SqT K H a xs) : SqT K (mn H p) a xs := by
  rcases s with (s | ⟨o, s⟩) | s
  · exact .inl (.inl (by rw [mn_ne (ne_of s h (fun z => by cases z))]; exact s))
  · exact .inl (.inr ⟨o, by rw [mn_ne (ne_of s h (fun z => by cases z))]; exact s⟩)
  · exact .inr s
/-- a list other than p -/
theorem mn_l (n : a ≠ p) (s : SqL K H a xs) : SqL K (mn H p) a xs := by
  rcases s with (s | ⟨o, s⟩) | s
  · exact .inl (.inl (by rw [mn_ne n]; exact s))
  · exact .inl (.inr ⟨o, by rw [mn_ne n]; exact s⟩)
  · exact .inr s
theorem mn_free (h : H a = none) : mn H p a = none := by
  by_cases q : a = p
  · rw [q, mn_same]
  · rw [mn_ne q]
    exact h
end

/-! ### rules whose reading names K outright (within a comprehension) -/
section
variable {X : Cx}
theorem ixT (K : PySem.W.Frag) (h : X.K = K := by rfl) : IxR X (rIxT K) := by
  subst h
  exact ix_tup
theorem ixL (K : PySem.W.Frag) (h : X.K = K := by rfl) : IxR X (rIxL K) := by
  subst h
  exact ix_list
theorem ixQ (K : PySem.W.Frag) (h : X.K = K := by rfl) : IxR X (rIx K) := by
  subst h
  exact ix_seq
end
/-! ### what is kept but for the list at p; tuples -/
def Fm (p : Addr) (H H' : Hp) : Prop := ∀ b o, b ≠ p → H b = some o → H' b = some o
section
variable {K : PySem.W.Frag} {H H' H1 : Hp} {a b p q : Addr} {xs ys : List V} {o : HO}
theorem Fm.refl : Fm p H H := fun _ _ _ h => h
theorem Fm.trans (e : Fm p H H1) (f : Fm p H1 H') : Fm p H H' := fun b o n h => f b o n (e b o n h)
theorem Same_fm (e : Same H H') : Fm p H H' := fun b o _ h => e b o h
theorem fm_of (e : Same (mn H p) (mn H' p)) : Fm p H H' := fun b o n h => by
  have := e b o (by rw [mn_ne n]; exact h)
  rw [mn_ne n] at this
  exact this
theorem Fm.mn (e : Fm p H H') : Same (mn H p) (mn H' p) := fun b o h => by
  by_cases q : b = p
  · rw [q, mn_same] at h
    cases h
  · rw [mn_ne q] at h ⊢
    exact e _ _ q h
theorem fm_new (h : H a = none) : Fm p H (upd H a o) := Same_fm (sm_new h)
theorem fm_upd : Fm p H (upd H p o) := fun b u n h => by
  rw [upd_ne n]
  exact h
/-- what stood free and is changed -/
theorem Fm.mut (e : Fm p H H') (h : H a = none) : Fm p H (upd H' a o) := fun b u n q => by
  rw [upd_ne (ne_of_none q h)]
  exact e b u n q
theorem Fm.free (e : Fm p H H') (n : a ≠ p) (h : H' a = none) : H a = none := by
  cases q : H a with
  | none => rfl
  | some u =>
    rw [e a u n q] at h
    cases h
/-- tuples are kept -/
def Tk (H H' : Hp) : Prop := ∀ b xs, (H b = some (.tup xs) → H' b = some (.tup xs)) ∧ ∀ o, H b = some (.frz o (.tup xs)) → H' b = some (.frz o (.tup xs))
theorem Tk.refl : Tk H H := fun _ _ => ⟨id, fun _ => id⟩
theorem Tk.trans (e : Tk H H1) (f : Tk H1 H') : Tk H H' := fun b xs => ⟨fun h => (f b xs).1 ((e b xs).1 h), fun o h => (f b xs).2 o ((e b xs).2 o h)⟩
theorem Same_tk (e : Same H H') : Tk H H' := fun b xs => ⟨e b _, fun _ => e b _⟩
theorem Fm.tk (e : Fm p H H') (h : H p = some (.lst ys)) : Tk H H' := fun b xs =>
  ⟨fun q => e b _ (ne_of q h (fun z => by cases z)) q, fun o q => e b _ (ne_of q h (fun z => by cases z)) q⟩
theorem tk_lst (h : H p = some (.lst ys)) : Tk H (upd H p o) := fun b xs =>
  ⟨fun q => by rw [upd_ne (ne_of q h (fun z => by cases z))]; exact q, fun o q => by rw [upd_ne (ne_of q h (fun z => by cases z))]; exact q⟩
theorem tk_dK {kvs : List (Key × V)} (h : H p = some (.dK kvs)) : Tk H (upd H p o) := fun b xs =>
  ⟨fun q => by rw [upd_ne (ne_of q h (fun z => by cases z))]; exact q, fun o q => by rw [upd_ne (ne_of q h (fun z => by cases z))]; exact q⟩
theorem tk_new (h : H p = none) : Tk H (upd H p o) := Same_tk (sm_new h)
theorem tk_t (e : Tk H H') (h : SqT K H a xs) : SqT K H' a xs := by
  rcases h with (h | ⟨o, h⟩) | h
  · exact .inl (.inl ((e _ _).1 h))
  · exact .inl (.inr ⟨o, (e _ _).2 o h⟩)
  · exact .inr h
end

/-! ### data -/
section
variable {K : PySem.W.Frag} {H H' : Hp}
mutual
theorem dp_mono (e : Same H H') : ∀ {v : V} {d : PyData}, Dp K H v d → Dp K H' v d
  | _, _, .non => .non
  | _, _, .bl b => .bl b
  | _, _, .int i => .int i
  | _, _, .str x => .str x
  | _, _, .lst s a => .lst (sm_l e s) (dpa_mono e a)
  | _, _, .tup s a => .tup (sm_t e s) (dpa_mono e a)
theorem dpa_mono (e : Same H H') : ∀ {vs : List V} {ds : List PyData}, DpAll K H vs ds → DpAll K H' vs ds
  | _, _, .nil => .nil
  | _, _, .cons h t => .cons (dp_mono e h) (dpa_mono e t)
end
theorem dpa_len : ∀ {vs : List V} {ds : List PyData}, DpAll K H vs ds → vs.length = ds.length
  | _, _, .nil => rfl
  | _, _, .cons _ t => congrArg (· + 1) (dpa_len t)
theorem dpa_get : ∀ {vs : List V} {ds : List PyData} {i : Nat} {d : PyData}, DpAll K H vs ds → ds[i]? = some d → ∃ v, vs[i]? = some v ∧ Dp K H v d
  | _, _, _, _, .nil, e => by simp at e
  | _, _, 0, _, .cons h _, e => by
    simp at e
    subst e
    exact ⟨_, rfl, h⟩
  | _, _, i + 1, d, .cons _ t, e => by
    obtain ⟨v, h1, h2⟩ := dpa_get (i := i) (d := d) t (by simpa using e)
    exact ⟨v, by simpa using h1, h2⟩
/-- data without lists -/
inductive Tu : PyData → Prop
  | non : Tu .none
  | bl (b : Bool) : Tu (.bool b)
  | int (i : Int) : Tu (.int i)
  | str (x : Str) : Tu (.str x)
  | tup {ds : List PyData} (h : ∀ d, d ∈ ds → Tu d) : Tu (.tuple ds)
mutual
theorem dp_tk (e : Tk H H') : ∀ {v : V} {d : PyData}, Tu d → Dp K H v d → Dp K H' v d
  | _, _, _, .non => .non
  | _, _, _, .bl b => .bl b
  | _, _, _, .int i => .int i
  | _, _, _, .str x => .str x
  | _, _, t, .lst s a => nomatch t
  | _, _, t, .tup s a => .tup (tk_t e s) (dpa_tk e (fun d hd => by cases t with | tup h => exact h d hd) a)
theorem dpa_tk (e : Tk H H') : ∀ {vs : List V} {ds : List PyData}, (∀ d, d ∈ ds → Tu d) → DpAll K H vs ds → DpAll K H' vs ds
  | _, _, _, .nil => .nil
  | _, _, t, .cons h r => .cons (dp_tk e (t _ (List.mem_cons_self ..)) h) (dpa_tk e (fun d hd => t d (List.mem_cons_of_mem _ hd)) r)
end
theorem dpa_app : ∀ {vs ws : List V} {ds es : List PyData}, DpAll K H vs ds → DpAll K H ws es → DpAll K H (vs ++ ws) (ds ++ es)
  | _, _, _, _, .nil, h => h
  | _, _, _, _, .cons a t, h => .cons a (dpa_app t h)
/-- the types of what is read -/
theorem tyx_t {a : Addr} {xs : List V} (s : SqT K H a xs) : TyX K H (.ref a) (.type "tuple") := by
  rcases s with (s | ⟨o, s⟩) | ⟨o, its, n, e, c, _⟩
  · exact .base (.tup s)
  · exact .fTuple s
  · exact .kTuple e c
theorem tyx_l {a : Addr} {xs : List V} (s : SqL K H a xs) : TyX K H (.ref a) (.type "list") := by
  rcases s with (s | ⟨o, s⟩) | ⟨o, its, n, e, c, _⟩
  · exact .base (.lst s)
  · exact .base (.frz s)
  · exact .kList e c
theorem r_isi {Q : VK} {x : V} {a c : String} (b : Bool) (ty : TyX K H x (.type a)) (e : kitB a c = some b) (h : Q (.bl b) H) : rIsi K [x, .ty c] H Q := ⟨x, .ty c, .type a, .type c, b, rfl, .ty c, ty, kit_ty e, h⟩
/-- data at most n deep -/
inductive Dn : Nat → PyData → Prop
  | non (n : Nat) : Dn n .none
  | bl (n : Nat) (b : Bool) : Dn n (.bool b)
  | int (n : Nat) (i : Int) : Dn n (.int i)
  | str (n : Nat) (x : Str) : Dn n (.str x)
  | tup {n : Nat} {ds : List PyData} (l : ds.length ≤ 100000) (h : ∀ d, d ∈ ds → Dn n d) : Dn (n + 1) (.tuple ds)
  | lst {n : Nat} {ds : List PyData} (l : ds.length ≤ 100000) (h : ∀ d, d ∈ ds → Dn n d) : Dn (n + 1) (.list ds)
theorem Dn.up : ∀ {n : Nat} {d : PyData}, Dn n d → Dn (n + 1) d
  | _, _, .non _ => .non _
  | _, _, .bl _ b => .bl _ b
  | _, _, .int _ i => .int _ i
  | _, _, .str _ x => .str _ x
  | _, _, .tup l h => .tup l fun d hd => (h d hd).up
  | _, _, .lst l h => .lst l fun d hd => (h d hd).up
end
end Bo

/-! ### sorted(d.items()), d a dict of ints by ints: the pairs in some order -/
namespace Bo
open PySem L2 L2.DX
section
variable {X : Cx}
def rItemsK : V → List V → Hp → VK → Prop := fun x xs H Q => ∃ (a : Addr) (kvs : List (Key × V)), x = .ref a ∧ xs = [] ∧ H a = some (.dK kvs) ∧ ∀ p, H p = none → Q (.ref p) (upd H p (itemsO p a))
theorem mt_itemsK : MtR X "dict.items" rItemsK := by
  intro pins s σ H x xs v us Q I rx rxs h
  obtain ⟨a, kvs, rfl, rfl, ha, q⟩ := h
  cases rx
  cases rxs
  obtain ⟨z, hd, vs, rel, o, es, ep, ho, hx, hdat, _⟩ := dk_of I.hok ha
  refine DT.callItems (es := es) (ep := ep) hd ⟨o, ho, hx, hdat⟩ ?_
  exact ⟨.ref s.heap.objs.size, _, I.laid (t' := s.toks) (fun b u e => Heap.get?_push_of_some _ e) (Nat.le_refl _) (itemsO_ok (Heap.get?_push_size _ rfl)), rfl, q _ (I.hok.fresh (Nat.le_refl _))⟩
def kvI (e : Int × Int) : Key × V := (.inl e.1, .int e.2)
def rSortK : List V → Hp → VK → Prop := fun vs H Q => ∃ (p a : Addr) (ks : List (Int × Int)), vs = [.ref p] ∧ H p = some (itemsO p a) ∧ H a = some (.dK (ks.map kvI)) ∧ ks.length ≤ 1000 ∧
  ∀ (H' : Hp) (l : Addr) (ps : List (Addr × Int × Int)), Same H H' → H l = none → (ps.map (·.2)).Perm ks → H' l = some (.lst (ps.map fun z => V.ref z.1)) → (∀ z ∈ ps, H' z.1 = some (.tup [.int z.2.1, .int z.2.2])) → Q (.ref l) H'
theorem pairs_get {P : Program} {w : World} : ∀ {es : List DictEntry} {vs : List (Key × Value)} {j : Nat} {e : DictEntry}, Pairs (mixKind P w) es vs → es[j]? = some e → ∃ kv, vs[j]? = some kv ∧ keyIs kv.1 e.key = true ∧ e.val = kv.2
  | _, _, _, _, .nil, h => by simp at h
  | _, _, 0, _, .cons h1 h2 _, h => by
    simp at h
    subst h
    exact ⟨_, rfl, h1, h2⟩
  | _, _, j + 1, e, .cons _ _ t, h => by
    obtain ⟨kv, a, b⟩ := pairs_get (j := j) (e := e) t (by simpa using h)
    exact ⟨kv, by simpa using a, b⟩
theorem perm_pull {α β : Type} (f : α → β) {l : List α} {out : List β} (h : out.Perm (l.map f)) : ∃ zs : List α, zs.Perm l ∧ zs.map f = out := by
  generalize e : l.map f = m at h
  induction h generalizing l with
  | nil =>
    exact ⟨[], by rw [List.map_eq_nil_iff.mp e], rfl⟩
  | cons x h ih =>
    cases l with
    | nil => cases e
    | cons a l =>
      obtain ⟨e1, e2⟩ := List.cons.inj e
      obtain ⟨zs, p, q⟩ := ih e2
      exact ⟨a :: zs, p.cons a, by rw [List.map_cons, e1, q]⟩
  | swap x y l' =>
    cases l with
    | nil => cases e
    | cons a l =>
      cases l with
      | nil => cases e
      | cons b l =>
        simp only [List.map_cons, List.cons.injEq] at e
        obtain ⟨e1, e2, e3⟩ := e
        exact ⟨b :: a :: l, .swap a b l, by simp only [List.map_cons, e1, e2, e3]⟩
  | trans h1 h2 ih1 ih2 =>
    obtain ⟨zs, p, q⟩ := ih2 e
    obtain ⟨ws, p2, q2⟩ := ih1 q
    exact ⟨ws, p2.trans p, q2⟩
theorem refs_vals : ∀ zs : List (Addr × Int × Int), Vals (zs.map fun z => V.ref z.1) (zs.map fun z => Value.ref z.1)
  | [] => .nil
  | _ :: zs => .cons rfl (refs_vals zs)
theorem cr_sortK (hc : X.calm = true) : CallR X (.builtin "sorted") rSortK := by
  intro pins s σ H xs us Q I r h
  obtain ⟨p, a, ks, rfl, hp, ha, hn, q⟩ := h
  obtain rfl := Vals.ref1 r
  have view : s.heap.IsItemsView p a := (show ObjOk X.prog X.w H s.heap p (itemsO p a) from I.hok p _ hp).1
  obtain ⟨z, hd, vs, rel, o, es, ep, ho, hx, hdat, hes, hps, hnd⟩ := dk_of I.hok ha
  have l1 : (ks.map kvI).length = vs.length := Paired.length rel
  rw [List.length_map] at l1
  have l2 : es.size = vs.length := by
    have := hps.length
    simpa using this
  have hh : X.A.handled = none := I.ok.hd hc
  have szl : sizeLine = 16777216 := sizeLine_eq
  refine DT.sortedI (es := es) (ep := ep) hh view ⟨o, ho, hx, hdat⟩ (by omega) fun h' tk as hk hlt hl hG => ?_
  have lak : as.length = ks.length := by omega
  have nd : as.Nodup := List.Pairwise.imp (fun h => Nat.ne_of_lt h) hG.rise
  -- the pairs that were made
  have pr : ∀ (j : Nat) (b : Addr), as[j]? = some b → ∃ (e : Int × Int) (t u : Tok), ks[j]? = some e ∧ h'.get? b = some { cls := .type "tuple", data := .seq #[Value.int e.1 t, Value.int e.2 u] } := by
    intro j b hj
    obtain ⟨en, he, hg⟩ := hG.pairs j b hj
    have he' : es.toList[j]? = some en := by simpa using he
    obtain ⟨kv, hv, hky, hvl⟩ := pairs_get hps he'
    obtain ⟨e0, he0, r1, r2⟩ := pget rel hv
    rw [List.getElem?_map] at he0
    cases hkj : ks[j]? with
    | none =>
      rw [hkj] at he0
      exact nomatch (show (none : Option (Key × V)) = some e0 from he0)
    | some e =>
      rw [hkj] at he0
      have ee : kvI e = e0 := Option.some.inj he0
      subst ee
      have r1' : Sum.inl e.1 = kv.1 := r1
      rw [← r1'] at hky
      obtain ⟨t, et⟩ := Value.isInt_shape (k := e.1) (v := en.key) hky
      obtain ⟨u, eu⟩ : ∃ u, kv.2 = Value.int e.2 u := r2
      exact ⟨e, t, u, rfl, by rw [hg, et, hvl, eu]⟩
  have hob : (h'.push { cls := .type "list", data := .seq (as.map Value.ref).toArray }).get? h'.objs.size = some (PyProof.Rows.seqObj "list" (as.map Value.ref).toArray 0) := Heap.get?_push_size _ rfl
  have ne0 : ∀ b o, h'.get? b = some o → b ≠ h'.objs.size := fun b o e => Nat.ne_of_lt (Heap.lt_size e)
  have ka : ∀ b o, h'.get? b = some o → (h'.push { cls := .type "list", data := .seq (as.map Value.ref).toArray }).get? b = some o := fun b o e => Heap.get?_push_of_some _ e
  generalize hh2 : h'.push { cls := .type "list", data := .seq (as.map Value.ref).toArray } = h2 at hob ka ⊢
  refine wpAny_call_entry PyProof.Rows.slot_list_sort ⟨_, hob, rfl⟩ PyProof.Rows.entry_list_sort
    (Srt.list_sort_any hob (by rw [List.length_map]; omega) (fun h2' => Srt.pairs_sortable (s := { s with heap := h2, toks := tk }) (by omega) (fun v hv => ?_) fun o e => ?_) fun out hout => ⟨.none, rfl, ?_⟩) (PyProof.Rows.args_list_sort _)
  · obtain ⟨b, hb, rfl⟩ := List.mem_map.mp hv
    obtain ⟨j, hj⟩ := List.mem_iff_getElem?.mp hb
    obtain ⟨e, t, u, _, hg⟩ := pr j b hj
    exact ⟨e.1, e.2, b, _, t, u, 0, rfl, ka _ _ hg, rfl, rfl⟩
  · have e' : some o = some (PyProof.Rows.seqObj "list" (as.map Value.ref).toArray 0) := e.symm.trans hob
    cases e'
    intro c
    exact absurd (Value.type.inj c) (by decide)
  · show EP X pins σ Q (.ref h'.objs.size) { s with heap := PyProof.Rows.sortedHeap h2 h'.objs.size (as.map Value.ref) out.toArray, toks := tk }
    have kF : ∀ b o, b ≠ h'.objs.size → h2.get? b = some o → (PyProof.Rows.sortedHeap h2 h'.objs.size (as.map Value.ref) out.toArray).get? b = some o := fun b o hb e => (PyProof.Rows.sortedHeap_old hb (Heap.lt_size e)).trans e
    have kS : ∀ b o, s.heap.get? b = some o → (PyProof.Rows.sortedHeap h2 h'.objs.size (as.map Value.ref) out.toArray).get? b = some o := fun b o e => kF b o (ne0 _ _ (hk b o e)) (ka b o (hk b o e))
    obtain ⟨eF, heF⟩ := PyProof.Rows.sortedHeap_at (vs := as.map Value.ref) (out := out.toArray) hob
    have I1 : Inv X pins σ H { s with heap := PyProof.Rows.sortedHeap h2 h'.objs.size (as.map Value.ref) out.toArray, toks := tk } := I.kept (t' := tk) kS
    have hn0 : H h'.objs.size = none := I.hok.fresh (Nat.le_of_lt hlt)
    have eqz : ((as.zip ks).map fun z => Value.ref z.1) = as.map Value.ref := by
      have := List.map_fst_zip (l₁ := as) (l₂ := ks) (by omega)
      conv => rhs; rw [← this]
      rw [List.map_map]
      rfl
    obtain ⟨zs, pz, ez⟩ : ∃ zs : List (Addr × Int × Int), zs.Perm (as.zip ks) ∧ zs.map (fun z => Value.ref z.1) = out := by
      have hp2 : out.Perm ((as.zip ks).map fun z => Value.ref z.1) := by rw [eqz]; exact hout
      exact perm_pull (fun z : Addr × Int × Int => Value.ref z.1) hp2
    have idx : ∀ z ∈ zs, ∃ j : Nat, as[j]? = some z.1 ∧ ks[j]? = some z.2 := by
      intro z' hz'
      obtain ⟨j, hj⟩ := List.mem_iff_getElem?.mp (pz.mem_iff.mp hz')
      exact ⟨j, List.getElem?_zip_eq_some.mp hj⟩
    have hperm : (zs.map (·.2)).Perm ks := by
      have e := pz.map (·.2)
      have m2 : (as.zip ks).map (·.2) = ks := List.map_snd_zip (by omega)
      rw [m2] at e
      exact e
    have hlen : (zs.map fun z => V.ref z.1).length ≤ sizeLine := by
      have e := hperm.length_eq
      rw [List.length_map] at e
      rw [List.length_map]
      omega
    have rv : Vals (zs.map fun z => V.ref z.1) out := by
      rw [← ez]
      exact refs_vals zs
    have I2 : Inv X pins σ (upd H h'.objs.size (.lst (zs.map fun z => V.ref z.1))) { s with heap := PyProof.Rows.sortedHeap h2 h'.objs.size (as.map Value.ref) out.toArray, toks := tk } :=
      I1.take (h' := PyProof.Rows.sortedHeap h2 h'.objs.size (as.map Value.ref) out.toArray) (t' := tk) (fun b ob _ e => e) (I.fpOk (Nat.le_of_lt hlt) hn0) ⟨hlen, out, eF, rv, heF⟩
    obtain ⟨H2, I3, g, qt⟩ := takeT (P := fun b vs => ∃ (j : Nat) (e : Int × Int), as[j]? = some b ∧ ks[j]? = some e ∧ vs = [.int e.1, .int e.2]) I as _ I2 nd fun b hb => by
      obtain ⟨j, hj⟩ := List.mem_iff_getElem?.mp hb
      obtain ⟨e, t, u, he, hg⟩ := pr j b hj
      have hbl : s.heap.objs.size ≤ b := Nat.le_of_lt (hG.above b hb)
      refine ⟨hbl, ?_, [.int e.1, .int e.2], ⟨j, e, hj, he, rfl⟩, fun H3 => ⟨(by show 2 ≤ sizeLine; decide), [Value.int e.1 t, Value.int e.2 u], .cons ⟨t, rfl⟩ (.cons ⟨u, rfl⟩ .nil), ⟨_, kF _ _ (ne0 _ _ hg) (ka _ _ hg), rfl, 0, rfl⟩⟩⟩
      rw [upd_ne (ne0 _ _ hg)]
      exact I.hok.fresh hbl
    have gr : Same H H2 := fun b o e => g b o (by rw [upd_ne (ne_of_none e hn0)]; exact e)
    refine ⟨.ref h'.objs.size, H2, I3, rfl, q H2 h'.objs.size zs gr hn0 hperm (g _ _ upd_same) fun z' hz' => ?_⟩
    obtain ⟨i, i1, i2⟩ := idx z' hz'
    obtain ⟨vs', ⟨j, e, j1, j2, ev⟩, hH⟩ := qt z'.1 (List.mem_of_getElem? i1)
    have eij : i = j := (List.getElem?_inj (List.getElem?_eq_some_iff.mp i1).1 nd).mp (i1.trans j1.symm)
    subst eij
    have ee : e = z'.2 := Option.some.inj (j2.symm.trans i2)
    rw [ev, ee] at hH
    exact hH
end
end Bo

namespace Bo
open PySem L2
def topS (i : Nat) : Stmt := PySem.Challenge.pw_bestodds_k04_moves_of_choices.main.body.getD i (.Pass ⟨0, 0, 0, 0⟩)
abbrev s_ratio : Stmt := topS 2
abbrev s_plus : Stmt := topS 3
abbrev s_moves : Stmt := topS 5
abbrev s_l_tape : Stmt := topS 7
abbrev s_l_draw : Stmt := topS 8
abbrev s_l_equal : Stmt := topS 9
abbrev s_l_take : Stmt := topS 10
abbrev s_l_ratio : Stmt := topS 11
abbrev s_l_ends : Stmt := topS 15
abbrev s_l_choices : Stmt := topS 16
abbrev s_l_system : Stmt := topS 17
abbrev s_l_large : Stmt := topS 19
abbrev s_law : Stmt := topS 20
structure Env (K : PySem.W.Frag) (mg : Str → Option Value) where
  a_ratio : Addr
  d_ratio : FuncData
  F_ratio : Fun K "ratio" "ratio" s_ratio a_ratio d_ratio
  b_ratio : Binds K d_ratio ["n", "d"] []
  g_ratio : mg "ratio" = some (.ref a_ratio)
  a_plus : Addr
  d_plus : FuncData
  F_plus : Fun K "plus" "plus" s_plus a_plus d_plus
  b_plus : Binds K d_plus ["a", "b"] []
  g_plus : mg "plus" = some (.ref a_plus)
  a_moves : Addr
  d_moves : FuncData
  F_moves : Fun K "moves" "moves" s_moves a_moves d_moves
  b_moves : Binds K d_moves ["system", "state", "choice"] []
  g_moves : mg "moves" = some (.ref a_moves)
  a_l_tape : Addr
  d_l_tape : FuncData
  F_l_tape : Fun K "_law_tape" "_law_tape" s_l_tape a_l_tape d_l_tape
  b_l_tape : Binds K d_l_tape ["script"] []
  g_l_tape : mg "_law_tape" = some (.ref a_l_tape)
  a_l_draw : Addr
  d_l_draw : FuncData
  F_l_draw : Fun K "_law_draw" "_law_draw" s_l_draw a_l_draw d_l_draw
  b_l_draw : Binds K d_l_draw ["tape", "at", "many"] []
  g_l_draw : mg "_law_draw" = some (.ref a_l_draw)
  a_l_equal : Addr
  d_l_equal : FuncData
  F_l_equal : Fun K "_law_equal" "_law_equal" s_l_equal a_l_equal d_l_equal
  b_l_equal : Binds K d_l_equal ["actual", "due"] []
  g_l_equal : mg "_law_equal" = some (.ref a_l_equal)
  a_l_take : Addr
  d_l_take : FuncData
  F_l_take : Fun K "_law_take" "_law_take" s_l_take a_l_take d_l_take
  b_l_take : Binds K d_l_take ["state", "many"] []
  g_l_take : mg "_law_take" = some (.ref a_l_take)
  a_l_ratio : Addr
  d_l_ratio : FuncData
  F_l_ratio : Fun K "_law_ratio" "_law_ratio" s_l_ratio a_l_ratio d_l_ratio
  b_l_ratio : Binds K d_l_ratio ["n", "d"] []
  g_l_ratio : mg "_law_ratio" = some (.ref a_l_ratio)
  a_l_ends : Addr
  d_l_ends : FuncData
  F_l_ends : Fun K "_law_ends" "_law_ends" s_l_ends a_l_ends d_l_ends
  b_l_ends : Binds K d_l_ends ["state", "many"] []
  g_l_ends : mg "_law_ends" = some (.ref a_l_ends)
  a_l_choices : Addr
  d_l_choices : FuncData
  F_l_choices : Fun K "_law_choices" "_law_choices" s_l_choices a_l_choices d_l_choices
  b_l_choices : Binds K d_l_choices ["state", "many", "most"] []
  g_l_choices : mg "_law_choices" = some (.ref a_l_choices)
  a_l_system : Addr
  d_l_system : FuncData
  F_l_system : Fun K "_law_system" "_law_system" s_l_system a_l_system d_l_system
  b_l_system : Binds K d_l_system ["state", "most"] []
  g_l_system : mg "_law_system" = some (.ref a_l_system)
  a_l_large : Addr
  d_l_large : FuncData
  F_l_large : Fun K "_law_large" "_law_large" s_l_large a_l_large d_l_large
  b_l_large : Binds K d_l_large ["state", "many"] []
  g_l_large : mg "_law_large" = some (.ref a_l_large)
  a_law : Addr
  d_law : FuncData
  F_law : Fun K "law" "law" s_law a_law d_law
  b_law : Binds K d_law ["script"] []
  g_law : mg "law" = some (.ref a_law)
  z_abs : mg "abs" = none
  z_bool : mg "bool" = none
  z_int : mg "int" = none
  z_isinstance : mg "isinstance" = none
  z_len : mg "len" = none
  z_list : mg "list" = none
  z_range : mg "range" = none
  z_sorted : mg "sorted" = none
  z_str : mg "str" = none
  z_sum : mg "sum" = none
  z_tuple : mg "tuple" = none
  z_gcd : mg "gcd" = some (.builtin "math.gcd")
/-! ### lowest terms -/
def rN (n d : Int) : Int := (if d < 0 then -n else n) / (Int.gcd n d : Int)
def rD (n d : Int) : Int := (d.natAbs : Int) / (Int.gcd n d : Int)
theorem gcd_pos {n d : Int} (h : d ≠ 0) : (0 : Int) < (Int.gcd n d : Int) := by
  have : 0 < Int.gcd n d := Int.gcd_pos_iff.mpr (.inr h)
  omega
theorem fdiv_of {n g m : Int} (hg : g ≠ 0) (e : n = g * m) : n.fdiv g = m := by
  rw [e]
  exact Int.mul_fdiv_cancel_left m hg
theorem ediv_of {n g m : Int} (hg : g ≠ 0) (e : n = g * m) : n / g = m := by
  rw [e]
  exact Int.mul_ediv_cancel_left m hg
theorem rN_pos {n d : Int} (h : 0 < d) : n.fdiv (Int.gcd n d : Int) = rN n d := by
  have hg := gcd_pos (n := n) (d := d) (by omega)
  obtain ⟨m, e⟩ := Int.gcd_dvd_left (a := n) (b := d)
  unfold rN
  rw [if_neg (by omega), fdiv_of (by omega) e, ediv_of (by omega) e]
theorem rN_neg {n d : Int} (h : d < 0) : n.fdiv (-(Int.gcd n d : Int)) = rN n d := by
  have hg := gcd_pos (n := n) (d := d) (by omega)
  obtain ⟨m, e⟩ := Int.gcd_dvd_left (a := n) (b := d)
  unfold rN
  rw [if_pos h, fdiv_of (m := -m) (by omega) (by rw [Int.neg_mul_neg]; exact e), ediv_of (m := -m) (by omega) (by rw [Int.mul_neg, ← e])]
theorem rD_pos {n d : Int} (h : 0 < d) : d.fdiv (Int.gcd n d : Int) = rD n d := by
  have hg := gcd_pos (n := n) (d := d) (by omega)
  obtain ⟨m, e⟩ := Int.gcd_dvd_right (a := n) (b := d)
  unfold rD
  have ha : (d.natAbs : Int) = d := by omega
  rw [ha, fdiv_of (by omega) e, ediv_of (by omega) e]
theorem rD_neg {n d : Int} (h : d < 0) : d.fdiv (-(Int.gcd n d : Int)) = rD n d := by
  have hg := gcd_pos (n := n) (d := d) (by omega)
  obtain ⟨m, e⟩ := Int.gcd_dvd_right (a := n) (b := d)
  unfold rD
  have ha : (d.natAbs : Int) = -d := by omega
  rw [ha, fdiv_of (m := -m) (by omega) (by rw [Int.neg_mul_neg]; exact e), ediv_of (m := -m) (by omega) (by rw [Int.mul_neg, ← e])]
theorem gcd_le {n d : Int} (h : d ≠ 0) : Int.gcd n d ≤ d.natAbs := Int.gcd_le_natAbs_right n h
theorem gcd_div {n d g m : Int} (h : d ≠ 0) (hb : d.natAbs < 2 ^ 8000) (e : g.natAbs = Int.gcd n d) : CDivX m g := by
  have hg := gcd_pos (n := n) h
  refine ⟨by omega, Nat.lt_of_lt_of_le (PySem.Flt.log2_lt_of (by decide : 0 < 8000) ?_) (by decide)⟩
  rw [e]
  exact Nat.lt_of_le_of_lt (gcd_le h) hb
theorem rD_pos' {n d : Int} (h : d ≠ 0) : 0 < rD n d := by
  have hg := gcd_pos (n := n) h
  have hl := gcd_le (n := n) h
  unfold rD
  exact Int.ediv_pos_of_pos_of_dvd (by omega) (by omega) (by
    have := Int.gcd_dvd_right (a := n) (b := d)
    exact (Int.dvd_natAbs).mpr this)
theorem div_le_abs (a : Int) {g : Int} (hg : 0 < g) : (a / g).natAbs ≤ a.natAbs := by
  obtain ⟨k, rfl⟩ : ∃ k : Nat, g = k := ⟨g.toNat, by omega⟩
  exact Int.natAbs_ediv_le_natAbs a k
theorem rN_le {n d : Int} (h : d ≠ 0) : (rN n d).natAbs ≤ n.natAbs := by
  have hg := gcd_pos (n := n) h
  unfold rN
  refine Nat.le_trans (div_le_abs _ hg) ?_
  split <;> omega
theorem rD_le {n d : Int} (h : d ≠ 0) : (rD n d).natAbs ≤ d.natAbs := by
  have hg := gcd_pos (n := n) h
  unfold rD
  refine Nat.le_trans (div_le_abs _ hg) ?_
  omega
/-- lowest terms are kept by a common factor -/
theorem rN_scale {n d c : Int} (_ : d ≠ 0) (hc : 0 < c) : rN (n * c) (d * c) = rN n d := by
  have e : (Int.gcd (n * c) (d * c) : Int) = (Int.gcd n d : Int) * c := by
    rw [Int.gcd_mul_right]
    have : (c.natAbs : Int) = c := by omega
    rw [Int.natCast_mul, this]
  unfold rN
  rw [e]
  by_cases h : d < 0
  · rw [if_pos h, if_pos (Int.mul_neg_of_neg_of_pos h hc), ← Int.neg_mul]
    exact Int.mul_ediv_mul_of_pos_left _ _ hc
  · rw [if_neg h, if_neg (by have := Int.mul_nonneg (Int.not_lt.mp h) (Int.le_of_lt hc); omega)]
    exact Int.mul_ediv_mul_of_pos_left _ _ hc
theorem rD_scale {n d c : Int} (_ : d ≠ 0) (hc : 0 < c) : rD (n * c) (d * c) = rD n d := by
  have e : (Int.gcd (n * c) (d * c) : Int) = (Int.gcd n d : Int) * c := by
    rw [Int.gcd_mul_right]
    have : (c.natAbs : Int) = c := by omega
    rw [Int.natCast_mul, this]
  unfold rD
  have e2 : ((d * c).natAbs : Int) = (d.natAbs : Int) * c := by
    rw [Int.natAbs_mul]
    have : (c.natAbs : Int) = c := by omega
    rw [Int.natCast_mul, this]
  rw [e, e2]
  exact Int.mul_ediv_mul_of_pos_left _ _ hc
/-! ### Euclid's way as the law walks it -/
/-- behind i steps: the divisor is kept, the product falls -/
structure Eu (g : Nat) (P : Nat) (i : Nat) (a b : Int) : Prop where
  a0 : 0 ≤ a
  b0 : 0 < b
  gc : Int.gcd a b = g
  pr : 0 < i → a < b
  fall : a.toNat * b.toNat * 2 ^ (i - 1) ≤ P
theorem gcd_mod0 (a b : Int) : Int.gcd (b % a) a = Int.gcd a b := by
  have e : b % a = b - a * (b / a) := Int.emod_def b a
  refine Nat.dvd_antisymm ?_ ?_
  · have h1 := Int.gcd_dvd_left (a := b % a) (b := a)
    have h2 := Int.gcd_dvd_right (a := b % a) (b := a)
    have h3 : ((Int.gcd (b % a) a : Nat) : Int) ∣ b := by
      have h4 := Int.dvd_add h1 (Int.dvd_trans h2 (Int.dvd_mul_right a (b / a)))
      rw [Int.emod_add_mul_ediv] at h4
      exact h4
    exact Int.dvd_gcd h2 h3
  · have h1 := Int.gcd_dvd_left (a := a) (b := b)
    have h2 := Int.gcd_dvd_right (a := a) (b := b)
    have h3 : ((Int.gcd a b : Nat) : Int) ∣ b % a := by
      rw [e]
      exact Int.dvd_sub h2 (Int.dvd_trans h1 (Int.dvd_mul_right a _))
    exact Int.dvd_gcd h3 h1
theorem Eu.step {g P i : Nat} {a b : Int} (e : Eu g P i a b) (h : a ≠ 0) : Eu g P (i + 1) (b.fmod a) a := by
  obtain ⟨a0, b0, gc, pr, fall⟩ := e
  have ha : 0 < a := by omega
  have em : b.fmod a = b % a := Int.fmod_eq_emod_of_nonneg b (by omega)
  rw [em]
  have m0 := Int.emod_nonneg b h
  have m1 := Int.emod_lt_of_pos b ha
  refine ⟨m0, ha, ?_, fun _ => m1, ?_⟩
  · rw [← gc]
    exact gcd_mod0 a b
  · show (b % a).toNat * a.toNat * 2 ^ i ≤ P
    refine Nat.le_trans ?_ fall
    cases i with
    | zero =>
      show (b % a).toNat * a.toNat * 1 ≤ a.toNat * b.toNat * 1
      rw [Nat.mul_one, Nat.mul_one, Nat.mul_comm]
      have hle : b % a ≤ b := by
        by_cases hb : b < a
        · rw [Int.emod_eq_of_lt (by omega) hb]
          exact Int.le_refl _
        · omega
      exact Nat.mul_le_mul_left _ (by omega)
    | succ j =>
      have hab := pr (by omega)
      have hq : a + b % a ≤ b := by
        have h1 := Int.mul_ediv_add_emod b a
        have h2 : 1 ≤ b / a := Int.le_ediv_of_mul_le ha (by omega)
        have h3 : a * 1 ≤ a * (b / a) := Int.mul_le_mul_of_nonneg_left h2 (by omega)
        omega
      have h2 : 2 * (b % a).toNat ≤ b.toNat := by omega
      show (b % a).toNat * a.toNat * 2 ^ (j + 1) ≤ a.toNat * b.toNat * 2 ^ j
      rw [Nat.pow_succ, ← Nat.mul_assoc, Nat.mul_right_comm _ _ 2]
      refine Nat.mul_le_mul_right _ ?_
      rw [Nat.mul_comm ((b % a).toNat * a.toNat) 2, ← Nat.mul_assoc, Nat.mul_comm (2 * (b % a).toNat)]
      exact Nat.mul_le_mul_left _ h2
theorem Eu.done {g P i : Nat} {a b : Int} (e : Eu g P i a b) (h : P < 2 ^ (i - 1)) : a = 0 := by
  obtain ⟨a0, b0, gc, pr, fall⟩ := e
  by_cases ha : a = 0
  · exact ha
  · exfalso
    have h1 : 1 ≤ a.toNat * b.toNat := Nat.mul_pos (by omega) (by omega)
    have h2 := Nat.mul_le_mul_right (2 ^ (i - 1)) h1
    omega
theorem Eu.zero {g P i : Nat} {a b : Int} (e : Eu g P i a b) (h : a = 0) : b = (g : Int) := by
  obtain ⟨a0, b0, gc, pr, fall⟩ := e
  subst h
  rw [Int.gcd_zero_left] at gc
  omega
/-! ### fractions as rationals -/
theorem rN_rat {n d : Int} (h : d ≠ 0) : rN n d = (Rat.divInt n d).num := by
  rw [Rat.num_divInt, Int.gcd_comm]
  unfold rN
  by_cases c : d < 0
  · rw [if_pos c, Int.sign_eq_neg_one_of_neg c, Int.neg_one_mul]
  · rw [if_neg c, Int.sign_eq_one_of_pos (by omega), Int.one_mul]
theorem rD_rat {n d : Int} (h : d ≠ 0) : rD n d = ((Rat.divInt n d).den : Int) := by
  rw [Rat.den_divInt, if_neg h, Int.gcd_comm]
  unfold rD
  rw [Int.natCast_ediv]
def Fq (q : Rat) : List V := [.int q.num, .int (q.den : Int)]
def Bq (b : Nat) (q : Rat) : Prop := q.num.natAbs < 2 ^ b ∧ ((q.den : Int)).natAbs < 2 ^ b
theorem den_ne (q : Rat) : (q.den : Int) ≠ 0 := by
  have := q.den_nz
  omega
theorem fq_ratio {n d : Int} (h : d ≠ 0) : ([.int (rN n d), .int (rD n d)] : List V) = Fq (Rat.divInt n d) := by
  unfold Fq
  rw [rN_rat h, rD_rat h]
theorem q_plus (q r : Rat) : Rat.divInt (q.num * r.den + r.num * q.den) (q.den * r.den) = q + r := by
  conv => rhs; rw [← Rat.num_divInt_den q, ← Rat.num_divInt_den r, Rat.divInt_add_divInt _ _ (den_ne q) (den_ne r)]
theorem q_minus (q r : Rat) : Rat.divInt (q.num * r.den - r.num * q.den) (q.den * r.den) = q - r := by
  conv => rhs; rw [← Rat.num_divInt_den q, ← Rat.num_divInt_den r, Rat.divInt_sub_divInt _ _ (den_ne q) (den_ne r)]
theorem q_times (q r : Rat) : Rat.divInt (q.num * r.num) (q.den * r.den) = q * r := by
  conv => rhs; rw [← Rat.num_divInt_den q, ← Rat.num_divInt_den r, Rat.divInt_mul_divInt]
theorem divInt_eq {n d : Int} : Rat.divInt n d = (n : Rat) / (d : Rat) := Rat.divInt_eq_div n d
theorem num_den (q : Rat) : (q.num : Rat) / ((q.den : Int) : Rat) = q := by
  rw [← divInt_eq, Rat.num_divInt_den]
theorem q_over (q r : Rat) : Rat.divInt (q.num * r.den) (q.den * r.num) = q / r := by
  conv => rhs; rw [← Rat.num_divInt_den q, ← Rat.num_divInt_den r, Rat.div_def, Rat.inv_divInt, Rat.divInt_mul_divInt]
theorem num_ne {q : Rat} (h : q ≠ 0) : q.num ≠ 0 := fun e => h (Rat.num_eq_zero.mp e)
/-! ### steps of a reading -/
local macro_rules | `(tactic| walk_at "rd1") => `(tactic| (first
  | with_reducible refine r_seq ?_
  | with_reducible refine r_asg ?_
  | with_reducible refine r_name ?_
  | ((with_reducible refine r_var ?_); (refine ⟨_, rfl, ?_⟩))
  | with_reducible refine r_c ?_
  | with_reducible refine r_op ?_
  | with_reducible refine r_un ?_
  | with_reducible refine r_i0 ?_
  | with_reducible refine r_u ?_
  | with_reducible refine r_eqI ?_
  | with_reducible refine r_neI ?_
  | with_reducible refine r_eqS ?_
  | with_reducible refine r_eqB ?_
  | with_reducible refine r_tst ?_
  | with_reducible refine r_tB ?_
  | with_reducible refine r_bl ?_
  | with_reducible refine r_not ?_
  | with_reducible refine r_and ?_
  | with_reducible refine r_or ?_
  | with_reducible refine r_andV ?_
  | with_reducible refine r_orV ?_
  | with_reducible refine r_notV ?_
  | with_reducible refine r_ifs ?_
  | with_reducible refine r_ifE ?_
  | with_reducible refine r_ret ?_
  | with_reducible refine r_retN ?_
  | with_reducible refine r_next ?_
  | with_reducible refine r_brk ?_
  | with_reducible refine r_cont ?_
  | with_reducible refine r_drop ?_
  | with_reducible refine r_nil ?_
  | with_reducible refine r_cons ?_
  | with_reducible refine r_tup ?_
  | with_reducible refine r_lst ?_
  | with_reducible refine r_cb ?_
  | with_reducible refine r_call ?_
  | with_reducible refine r_chain ?_
  | ((with_reducible show V.non = V.non ∧ _); (refine ⟨rfl, ?_⟩))
  | with_reducible refine r_gsub ?_
  | with_reducible refine r_bm ?_
  | with_reducible refine r_bm0 ?_
  | with_reducible refine r_dput ?_
  | with_reducible refine r_dnew ?_
  | with_reducible refine r_for ?_
  | with_reducible refine r_iList ?_
  | with_reducible refine r_iTup ?_
  | with_reducible refine r_rng1 ?_
  | with_reducible refine r_rng2 ?_
  | ((with_reducible show (∃ j, [V.int _] = [V.int j] ∧ _) ∨ (∃ k, [V.int _] = [V.bl k] ∧ _)); (refine Or.inl ⟨_, rfl, ?_⟩))
  | ((with_reducible show ∃ j, [V.int _] = [V.int j] ∧ _); (refine ⟨_, rfl, ?_⟩))
  | ((with_reducible show (-(2 ^ 62) : Int) ≤ _ ∧ _ < (2 ^ 62 : Int) ∧ _); (refine ⟨by decide, by decide, ?_⟩))
  | with_reducible refine r_ifT ?_
  | with_reducible refine r_ifF ?_
  | with_reducible refine r_ifNT ?_
  | with_reducible refine r_ifNF ?_
  | (refine r_iC ?_ ?_; (first | exact Or.inl ⟨by decide, by decide⟩ | exact Or.inr ⟨by decide, by decide⟩ | exact ⟨by decide, by decide, by decide⟩ | exact ⟨by decide, by decide⟩ | (show (0 : Int) < _; decide)))))
local macro_rules | `(tactic| walk_at "rd") => `(tactic| repeat walk_at "rd1")
/-! ### the law's draws -/
def TapeOk (ts : List Int) : Prop := (∀ x ∈ ts, 0 ≤ x ∧ x < 2147483629) ∧ ts.length ≤ 3000
theorem map_get {l : List Int} {i : Nat} {y : V} (h : (l.map V.int)[i]? = some y) : ∃ z, l[i]? = some z ∧ y = V.int z := by
  rw [List.getElem?_map] at h
  cases e : l[i]? with
  | none => rw [e] at h; cases h
  | some z => rw [e] at h; exact ⟨z, rfl, (Option.some.inj h).symm⟩
def sp_l_tape (K : PySem.W.Frag) : Sp := fun vs H Q _ => ∃ (a : Addr) (ns : List Int), vs = [.ref a] ∧ SqL K H a (ns.map V.int) ∧ ns.length ≤ 63 ∧
  ∀ (t : Addr) (ts : List Int) (H' : Hp), Same H H' → H t = none → H' t = some (.lst (ts.map V.int)) → TapeOk ts → Q (.ref t) H'
theorem ap_int (ts : List Int) (z : Int) : ts.map V.int ++ [V.int z] = (ts ++ [z]).map V.int := by simp
theorem tape_app {ts : List Int} {z : Int} (h : ∀ x ∈ ts, 0 ≤ x ∧ x < 2147483629) (h0 : 0 ≤ z) (h1 : z < 2147483629) : ∀ x ∈ ts ++ [z], 0 ≤ x ∧ x < 2147483629 := by
  intro x hx
  rcases List.mem_append.mp hx with q | q
  · exact h x q
  · rw [List.mem_singleton.mp q]
    exact ⟨h0, h1⟩
theorem same_mut {H H' : Hp} {t : Addr} {o : HO} (e : Same H H') (h : H t = none) : Same H (upd H' t o) := fun b u q => by
  rw [upd_ne (ne_of_none q h)]
  exact e b u q
theorem sc_l_tape : FnScope ["script", "tape", "cell", "number", "k", "first"] ["script"] (defScope s_l_tape) := ⟨rfl, rfl, rfl, by decide +kernel, rfl, by decide +kernel, by decide +kernel⟩
theorem ok_l_tape {P : Program} {w : World} {K : PySem.W.Frag} {mg : Str → Option Value} {base : Heap} (T : Env K mg) : FnOk P w K mg base CX0 1 T.a_l_tape T.d_l_tape ["script"] (sp_l_tape K) := by
  refine T.F_l_tape.ok sc_l_tape (fun vs H Q E h => ?_) (fun cdv A outer s H vs Q E hr h => ?_)
  · obtain ⟨a, ns, rfl, _⟩ := h
    rfl
  · obtain ⟨a, ns, rfl, hS, hlen, k⟩ := h
    refine ⟨_, (pss_cons (ps_set (i := 1) sc_l_tape.nd rfl (Or.inl rfl) (pe_lst pa_nil))
      (pss_cons (ps_for PassesOwn.never rfl (pi_list (pv 0)) (pg_name (i := 2) sc_l_tape.nd rfl (Or.inl rfl)) (pss_cons (ps_set (i := 3) sc_l_tape.nd rfl (Or.inl rfl) (pe_op op_mul pe_int (pe_callTy call_int1 (by rfl) T.z_int (by decide +kernel) (pa_cons (pv 2) pa_nil))))
      (C8.pss_cut (ps_if (pt_cmpR op_lt (pv 3) pe_int (nomark _)) (pss_one (ps_set (i := 3) sc_l_tape.nd rfl (Or.inl rfl) (pe_op op_sub (pe_un un_neg pe_int) (pv 3)))) pss_nil)
      (pss_one (ps_if (pt_cmpR op_ge (pv 3) (pe_op op_pow pe_int pe_int) (nomark _)) (pss_one (ps_for PassesOwn.never rfl (pi_range1 (by rfl) T.z_range (pa_cons pe_int pa_nil)) (pg_name (i := 4) sc_l_tape.nd rfl (Or.inl rfl)) (pss_one (ps_if (pt_cmpR op_gt (pv 3) pe_int (nomark _)) (pss_cons (ps_expr (pe_bm PySem.F.plainAttrs_list PySem.F.slot_list_append PySem.F.type_list_append mt_append (pv 1) (pa_cons (pe_op op_mod (pe_callTy call_int1 (by rfl) T.z_int (by decide +kernel) (pa_cons (pv 3) pa_nil)) pe_int) pa_nil)))
      (pss_one (ps_set (i := 3) sc_l_tape.nd rfl (Or.inl rfl) (pe_op op_fdiv (pv 3) pe_int)))) pss_nil)))) (pss_one (ps_for PassesOwn.never rfl (pi_range1 (by rfl) T.z_range (pa_cons pe_int pa_nil)) (pg_name (i := 4) sc_l_tape.nd rfl (Or.inl rfl)) (pss_cons (ps_set (i := 5) sc_l_tape.nd rfl (Or.inl rfl) (pe_op op_mod (pe_callTy call_int1 (by rfl) T.z_int (by decide +kernel) (pa_cons (pe_op op_add (pe_op op_add (pe_op op_mul (pv 3) pe_int) (pe_op op_mul (pv 4) pe_int)) pe_int) pa_nil)) pe_int))
      (pss_one (ps_expr (pe_bm PySem.F.plainAttrs_list PySem.F.slot_list_append PySem.F.type_list_append mt_append (pv 1) (pa_cons (pe_op op_mod (pe_callTy call_int1 (by rfl) T.z_int (by decide +kernel) (pa_cons (pe_op op_add (pe_op op_mul (pv 5) pe_int) (pe_op op_fdiv (pv 5) pe_int)) pa_nil)) pe_int) pa_nil))))))))))))
      (pss_one (ps_ret (pv 1))))), ?_⟩
    walk_at "rd"
    refine ⟨by decide, fun t ht => ?_⟩
    walk_at "rd"
    refine ⟨a, rfl, ⟨_, sm_l (sm_new ht) hS⟩, for_list (K := K) (a := a) (xs := ns.map V.int) (fun i σ H' => ∃ (ts : List Int) (v2 v3 v4 v5 : Option V), σ = [some (.ref a), some (.ref t), v2, v3, v4, v5] ∧ Same H H' ∧ H' t = some (.lst (ts.map V.int)) ∧ (∀ x ∈ ts, 0 ≤ x ∧ x < 2147483629) ∧ ts.length ≤ 40 * i)
      ⟨[], none, none, none, none, rfl, sm_new ht, upd_same, by simp, by simp⟩ (fun i σ H' _ ⟨_, _, _, _, _, _, s5, _⟩ => sm_l s5 hS) ?_ ?_⟩
    · rintro i y σ H' hi ⟨ts, v2, v3, v4, v5, rfl, s5, hT, hb, hl⟩
      have hi63 : i < 63 := by
        have q := (List.getElem?_eq_some_iff.mp hi).1
        rw [List.length_map] at q
        omega
      obtain ⟨z, hz, rfl⟩ := map_get hi
      walk_at "rd"
      refine r_cut (fun σ' H1 => ∃ m : Int, 0 ≤ m ∧ σ' = [some (.ref a), some (.ref t), some (.int z), some (.int m), v4, v5] ∧ H1 = H') ?_ ?_
      · walk_at "rd"
        refine r_if (fun c => ?_) (fun c => ?_)
        · walk_at "rd"
          exact ⟨_, by omega, rfl, rfl⟩
        · walk_at "rd"
          exact ⟨_, by omega, rfl, rfl⟩
      · rintro σ' H1 ⟨m, hm, rfl, rfl⟩
        walk_at "rd"
        refine r_if (fun c => ?_) (fun c => ?_)
        · walk_at "rd"
          refine for_range (n := 40) (fun j σ H2 => ∃ (m : Int) (us : List Int) (v4 : Option V), 0 ≤ m ∧ σ = [some (.ref a), some (.ref t), some (.int z), some (.int m), v4, v5] ∧ Same H H2 ∧ H2 t = some (.lst (us.map V.int)) ∧ (∀ x ∈ us, 0 ≤ x ∧ x < 2147483629) ∧ us.length ≤ 40 * i + j)
            ⟨m, ts, _, hm, rfl, s5, hT, hb, hl⟩ ?_ ?_
          · rintro j σ H2 hj ⟨m, us, v4, hm, rfl, s6, hU, hu, hul⟩
            walk_at "rd"
            refine r_if (fun c => ?_) (fun c => ?_)
            · walk_at "rd"
              refine r_tyL (SqL.of hU) ?_
              walk_at "rd"
              refine r_app hU (by rw [List.length_map]; omega) ?_
              walk_at "rd"
              refine ⟨_, us ++ [m % 1000], _, Int.ediv_nonneg hm (by decide), rfl, same_mut s6 ht, by rw [ap_int]; exact upd_same, tape_app hu (Int.emod_nonneg _ (by decide)) (by have := Int.emod_lt_of_pos m (show (0 : Int) < 1000 by decide); omega), by rw [List.length_append]; simp; omega⟩
            · walk_at "rd"
              exact ⟨m, us, _, hm, rfl, s6, hU, hu, by omega⟩
          · rintro σ H2 ⟨m, us, v4, hm, rfl, s6, hU, hu, hul⟩
            exact ⟨us, _, _, _, _, rfl, s6, hU, hu, by omega⟩
        · walk_at "rd"
          refine for_range (n := 3) (fun j σ H2 => ∃ (us : List Int) (v4 v5 : Option V), σ = [some (.ref a), some (.ref t), some (.int z), some (.int m), v4, v5] ∧ Same H H2 ∧ H2 t = some (.lst (us.map V.int)) ∧ (∀ x ∈ us, 0 ≤ x ∧ x < 2147483629) ∧ us.length ≤ 40 * i + j)
            ⟨ts, _, _, rfl, s5, hT, hb, hl⟩ ?_ ?_
          · rintro j σ H2 hj ⟨us, v4, v5, rfl, s6, hU, hu, hul⟩
            walk_at "rd"
            refine r_tyL (SqL.of hU) ?_
            walk_at "rd"
            refine r_app hU (by rw [List.length_map]; omega) ?_
            walk_at "rd"
            refine ⟨us ++ [_], _, _, rfl, same_mut s6 ht, by rw [ap_int]; exact upd_same, tape_app hu (Int.emod_nonneg _ (by decide)) (Int.emod_lt_of_pos _ (by decide)), by rw [List.length_append]; simp; omega⟩
          · rintro σ H2 ⟨us, v4, v5, rfl, s6, hU, hu, hul⟩
            exact ⟨us, _, _, _, _, rfl, s6, hU, hu, by omega⟩
    · rintro σ H' ⟨ts, v2, v3, v4, v5, rfl, s5, hT, hb, hl⟩
      walk_at "rd"
      exact k t ts H' s5 ht hT ⟨hb, by rw [List.length_map] at hl; omega⟩
/-- a draw below m out of a tape -/
def sp_l_draw (K : PySem.W.Frag) : Sp := fun vs H Q _ => ∃ (t : Addr) (ts : List Int) (at_ m : Int), vs = [.ref t, .int at_, .int m] ∧ SqL K H t (ts.map V.int) ∧ TapeOk ts ∧ 0 ≤ at_ ∧ at_ ≤ 2 ^ 41 ∧ 0 < m ∧
  ∀ r : Int, 0 ≤ r → r < m → Q (.int r) H
theorem at_map {ts : List Int} {i : Int} (h0 : 0 ≤ i) (h : i < (ts.length : Int)) : ∃ z, z ∈ ts ∧ atI (ts.map V.int) i = some (V.int z) := by
  obtain ⟨j, rfl⟩ : ∃ j : Nat, i = (j : Int) := ⟨i.toNat, by omega⟩
  have hj : j < ts.length := by omega
  refine ⟨ts[j], List.getElem_mem hj, at_of (j := j) rfl ?_⟩
  rw [List.getElem?_map, List.getElem?_eq_getElem hj]
  rfl
theorem modN {i m : Int} (h : 0 < m) : 0 ≤ i.fmod m ∧ i.fmod m < m := ⟨Int.fmod_nonneg_of_pos i h, Int.fmod_lt_of_pos i h⟩
theorem sc_l_draw : FnScope ["tape", "at", "many", "number"] ["tape", "at", "many"] (defScope s_l_draw) := ⟨rfl, rfl, rfl, by decide +kernel, rfl, by decide +kernel, by decide +kernel⟩
theorem ok_l_draw {P : Program} {w : World} {K : PySem.W.Frag} {mg : Str → Option Value} {base : Heap} (T : Env K mg) : FnOk P w K mg base CX0 1 T.a_l_draw T.d_l_draw ["tape", "at", "many"] (sp_l_draw K) := by
  refine T.F_l_draw.ok sc_l_draw (fun vs H Q E h => ?_) (fun cdv A outer s H vs Q E hr h => ?_)
  · obtain ⟨t, ts, at_, m, rfl, _⟩ := h
    rfl
  · obtain ⟨t, ts, at_, m, rfl, hT, ⟨hb, hl⟩, h0, h1, hm, k⟩ := h
    refine ⟨_, (pss_cons (ps_if (pt_cmpR op_lt (pv 1) (pe_callB call_len_seq (by rfl) T.z_len (by decide +kernel) (pa_cons (pv 0) pa_nil)) (nomark _)) (pss_one (ps_ret (pe_op op_modN (pe_callTy call_int1 (by rfl) T.z_int (by decide +kernel) (pa_cons (pe_ix ix_list (pv 0) (pv 1) (fun _ _ => rfl)) pa_nil)) (pv 2)))) pss_nil)
      (pss_cons (ps_set (i := 3) sc_l_draw.nd rfl (Or.inl rfl) pe_int)
      (C8.pss_cut (ps_if (pt_cmpR op_gt (pe_callB call_len_seq (by rfl) T.z_len (by decide +kernel) (pa_cons (pv 0) pa_nil)) pe_int (nomark _)) (pss_one (ps_set (i := 3) sc_l_draw.nd rfl (Or.inl rfl) (pe_ix ix_list (pv 0) (pe_op op_modN (pe_callTy call_int1 (by rfl) T.z_int (by decide +kernel) (pa_cons (pv 1) pa_nil)) (pe_callB call_len_seq (by rfl) T.z_len (by decide +kernel) (pa_cons (pv 0) pa_nil))) (fun _ _ => rfl)))) pss_nil)
      (pss_one (ps_ret (pe_op op_modN (pe_op op_mod (pe_callTy call_int1 (by rfl) T.z_int (by decide +kernel) (pa_cons (pe_op op_add (pe_op op_mul (pe_op op_mul (pe_op op_add (pv 3) (pv 1)) (pe_op op_add (pv 1) pe_int)) pe_int) (pe_op op_mul (pv 1) pe_int)) pa_nil)) pe_int) (pv 2))))))), ?_⟩
    walk_at "rd"
    refine ⟨t, _, rfl, .inl hT, ?_⟩
    walk_at "rd"
    refine r_if (fun c => ?_) (fun c => ?_)
    · walk_at "rd"
      obtain ⟨z, hz, ha⟩ := at_map h0 (by rw [List.length_map] at c; exact c)
      refine r_ixL hT ha ?_
      walk_at "rd"
      refine r_iC (by omega) ?_
      exact k _ (modN hm).1 (modN hm).2
    · walk_at "rd"
      refine r_cut (fun σ' H1 => ∃ n : Int, 0 ≤ n ∧ n < 2147483629 ∧ σ' = [some (.ref t), some (.int at_), some (.int m), some (.int n)] ∧ H1 = H) ?_ ?_
      · walk_at "rd"
        refine ⟨t, _, rfl, .inl hT, ?_⟩
        walk_at "rd"
        refine r_if (fun c => ?_) (fun c => ?_)
        · walk_at "rd"
          refine ⟨t, _, rfl, .inl hT, ?_⟩
          refine r_iC (by omega) ?_
          have hp : 0 < ((ts.map V.int).length : Int) := c
          obtain ⟨z, hz, ha⟩ := at_map (ts := ts) (modN (i := at_) hp).1 (by have := (modN (i := at_) hp).2; rw [List.length_map] at this ⊢; exact this)
          refine r_ixL hT ha ?_
          walk_at "rd"
          exact ⟨z, (hb z hz).1, (hb z hz).2, rfl, rfl⟩
        · walk_at "rd"
          exact ⟨1, by decide, by decide, rfl, rfl⟩
      · rintro σ' H1 ⟨n, n0, n1, rfl, rfl⟩
        walk_at "rd"
        refine r_iC (.inl ⟨by omega, by omega⟩) ?_
        walk_at "rd"
        refine r_iC (by omega) ?_
        exact k _ (modN hm).1 (modN hm).2
/-! ### the law's state: a list of the tape and the place -/
structure Tp (H : Hp) (p t : Addr) (ts : List Int) (n : Int) : Prop where
  at_ : ∃ i : Int, H p = some (.lst [.ref t, .int i]) ∧ 0 ≤ i ∧ i ≤ n
  tape : H t = some (.lst (ts.map V.int))
  ne : t ≠ p
  ok : TapeOk ts
section
variable {H H' : Hp} {p t E : Addr} {ts : List Int} {n m : Int} {o : HO}
theorem Tp.obj (T : Tp H p t ts n) : ∃ xs, H p = some (.lst xs) := by
  obtain ⟨i, h, _⟩ := T.at_
  exact ⟨_, h⟩
theorem Tp.same (T : Tp H p t ts n) (e : Same H H') : Tp H' p t ts n := by
  obtain ⟨⟨i, h, h0, h1⟩, tp, ne, ok⟩ := T
  exact ⟨⟨i, e _ _ h, h0, h1⟩, e _ _ tp, ne, ok⟩
theorem Tp.mono (T : Tp H p t ts n) (h : n ≤ m) : Tp H p t ts m := by
  obtain ⟨⟨i, e, h0, h1⟩, tp, ne, ok⟩ := T
  exact ⟨⟨i, e, h0, by omega⟩, tp, ne, ok⟩
theorem Tp.new (T : Tp H p t ts n) (h : E ≠ p) : H E = none → H p ≠ none := fun _ z => by
  obtain ⟨xs, hx⟩ := T.obj
  rw [hx] at z
  cases z
/-- a new place is neither -/
theorem Tp.fresh (T : Tp H p t ts n) (h : H E = none) : E ≠ p ∧ E ≠ t := by
  obtain ⟨xs, hx⟩ := T.obj
  exact ⟨(ne_of_none hx h).symm, (ne_of_none T.tape h).symm⟩
/-- another object is changed -/
theorem Tp.other (T : Tp H p t ts n) (h : E ≠ p ∧ E ≠ t) : Tp (upd H E o) p t ts n := by
  obtain ⟨⟨i, e, h0, h1⟩, tp, ne, ok⟩ := T
  exact ⟨⟨i, by rw [upd_ne h.1.symm]; exact e, h0, h1⟩, by rw [upd_ne h.2.symm]; exact tp, ne, ok⟩
theorem Tp.tk (T : Tp H p t ts n) (e : Fm p H H') : Tk H H' := by
  obtain ⟨xs, hx⟩ := T.obj
  exact e.tk hx
end
def sp_l_take : Sp := fun vs H Q _ => ∃ (p t : Addr) (ts : List Int) (n m : Int), vs = [.ref p, .int m] ∧ Tp H p t ts n ∧ n ≤ 2 ^ 40 ∧ 0 < m ∧
  ∀ (r : Int) (H' : Hp), 0 ≤ r → r < m → Tp H' p t ts (n + 1) → (∀ b, b ≠ p → H' b = H b) → Q (.int r) H'
theorem fm_off {p : Addr} {H H' : Hp} (e : ∀ b, b ≠ p → H' b = H b) : Fm p H H' := fun b o n h => by
  rw [e b n]
  exact h
theorem sc_l_take : FnScope ["state", "many"] ["state", "many"] (defScope s_l_take) := ⟨rfl, rfl, rfl, by decide +kernel, rfl, by decide +kernel, by decide +kernel⟩
theorem ok_l_take {P : Program} {w : World} {K : PySem.W.Frag} {mg : Str → Option Value} {base : Heap} (T : Env K mg) : FnOk P w K mg base CX0 2 T.a_l_take T.d_l_take ["state", "many"] sp_l_take := by
  refine T.F_l_take.ok sc_l_take (fun vs H Q E h => ?_) (fun cdv A outer s H vs Q E hr h => ?_)
  · obtain ⟨p, t, ts, n, m, rfl, _⟩ := h
    rfl
  · obtain ⟨p, t, ts, n, m, rfl, ⟨⟨i, h, h0, h1⟩, tp, ne, ok⟩, hn, hm, k⟩ := h
    have G_l_draw := ok_l_draw (P := P) (w := w) (base := base) T
    have hr_l_draw : Room 1 _ := hr.mono (by decide)
    refine ⟨_, (pss_cons (ps_asg (pe_op op_add (pe_ix ix_list (pv 0) pe_int (fun _ _ => rfl)) pe_int) (pg_sub (pv 0) pe_int set_list))
      (pss_one (ps_ret (pe_call G_l_draw hr_l_draw (by rfl) T.g_l_draw T.F_l_draw.kp T.b_l_draw .nil pass0 (pa_cons (pe_ix ix_list (pv 0) pe_int (fun _ _ => rfl)) (pa_cons (pe_ix ix_list (pv 0) pe_int (fun _ _ => rfl)) (pa_cons (pv 1) pa_nil))))))), ?_⟩
    walk_at "rd"
    refine r_ixL (SqL.of h) (v := .int i) rfl ?_
    walk_at "rd"
    refine r_setL h (j := 1) rfl ?_
    walk_at "rd"
    refine r_ixL (SqL.of upd_same) (v := .ref t) rfl ?_
    walk_at "rd"
    refine r_ixL (SqL.of upd_same) (v := .int (i + 1)) rfl ?_
    walk_at "rd"
    have tp' : (upd H p (.lst [.ref t, .int (i + 1)])) t = some (.lst (ts.map V.int)) := by rw [upd_ne ne]; exact tp
    refine ⟨t, ts, i + 1, m, rfl, SqL.of tp', ok, by omega, by omega, hm, fun r r0 r1 => ?_⟩
    exact k r _ r0 r1 ⟨⟨i + 1, upd_same, by omega, by omega⟩, tp', ne, ok⟩ fun b hb => upd_ne hb
/-- an item of a written list of ints by a draw, what all of them are -/
theorem pick {q : Addr} {H : Hp} {K : PySem.W.Frag} {zs : List Int} {r : Int} {xs : List V} (P : Int → Prop) (h : H q = some (.lst xs)) (e : xs = zs.map V.int) (h0 : 0 ≤ r) (h1 : r < (zs.length : Int)) (hP : ∀ z ∈ zs, P z) :
    ∃ z, P z ∧ ∀ (Q : VK), Q (.int z) H → rIxL K (.ref q) (.int r) H Q := by
  obtain ⟨z, hz, ha⟩ := at_map h0 h1
  subst e
  exact ⟨z, hP z hz, fun Q k => r_ixL (SqL.of h) ha k⟩
/-! ### equal data are told equal -/
def sp_eq (K : PySem.W.Frag) : Nat → Sp
  | 0 => fun _ _ _ _ => False
  | n + 1 => fun vs H Q _ => ∃ (x y : V) (d : PyData), vs = [x, y] ∧ Dp K H x d ∧ Dp K H y d ∧ Dn n d ∧ Q (.bl true) H
theorem sc_l_equal : FnScope ["actual", "due", "k"] ["actual", "due"] (defScope s_l_equal) := ⟨rfl, rfl, rfl, by decide +kernel, rfl, by decide +kernel, by decide +kernel⟩
theorem len_map_int (ds : List PyData) (vs : List V) (e : vs.length = ds.length) (h : vs.length ≤ sizeLine) : (ds.length : Int) < 2 ^ 62 := by
  have : sizeLine = 16777216 := sizeLine_eq
  omega
theorem ok_eq_rec {P : Program} {w : World} {K : PySem.W.Frag} {mg : Str → Option Value} {base : Heap} (T : Env K mg) : ∀ n, FnOk P w K mg base CX0 (n + 1) T.a_l_equal T.d_l_equal ["actual", "due"] (sp_eq K n)
  | 0 => T.F_l_equal.ok sc_l_equal (fun vs H Q E h => h.elim) (fun cdv A outer s H vs Q E hr h => h.elim)
  | n + 1 => by
    have G_l_equal := ok_eq_rec (P := P) (w := w) (base := base) T n
    refine T.F_l_equal.ok sc_l_equal (fun vs H Q E h => ?_) (fun cdv A outer s H vs Q E hr h => ?_)
    · obtain ⟨x, y, d, rfl, _⟩ := h
      rfl
    · obtain ⟨x, y, d, rfl, hx, hy, hd, k⟩ := h
      have hr_l_equal := hr
      refine ⟨_, (pss_cons (ps_if (pt_cmpR op_isN (pv 1) pe_non (nomark _)) (pss_one (ps_ret (pe_cmpR op_isN (pv 0) pe_non (nomark _)))) pss_nil)
      (pss_cons (ps_if (pt_val (pe_callB call_isi (by rfl) T.z_isinstance (by decide +kernel) (pa_cons (pv 1) (pa_cons (pe_bltn (v := .ty "bool") (by rfl) T.z_bool (by decide +kernel) rfl) pa_nil)))) (pss_one (ps_ret (pe_and (pe_callB call_isi (by rfl) T.z_isinstance (by decide +kernel) (pa_cons (pv 0) (pa_cons (pe_bltn (v := .ty "bool") (by rfl) T.z_bool (by decide +kernel) rfl) pa_nil))) (pe_one (pe_cmpR op_eq (pv 0) (pv 1) (nomark _)))))) pss_nil)
      (pss_cons (ps_if (pt_val (pe_callB call_isi (by rfl) T.z_isinstance (by decide +kernel) (pa_cons (pv 1) (pa_cons (pe_bltn (v := .ty "int") (by rfl) T.z_int (by decide +kernel) rfl) pa_nil)))) (pss_one (ps_ret (pe_and (pe_callB call_isi (by rfl) T.z_isinstance (by decide +kernel) (pa_cons (pv 0) (pa_cons (pe_bltn (v := .ty "int") (by rfl) T.z_int (by decide +kernel) rfl) pa_nil))) (pe_and (pe_not (pe_callB call_isi (by rfl) T.z_isinstance (by decide +kernel) (pa_cons (pv 0) (pa_cons (pe_bltn (v := .ty "bool") (by rfl) T.z_bool (by decide +kernel) rfl) pa_nil)))) (pe_one (pe_cmpR op_eq (pv 0) (pv 1) (nomark _))))))) pss_nil)
      (pss_cons (ps_if (pt_val (pe_callB call_isi (by rfl) T.z_isinstance (by decide +kernel) (pa_cons (pv 1) (pa_cons (pe_bltn (v := .ty "str") (by rfl) T.z_str (by decide +kernel) rfl) pa_nil)))) (pss_one (ps_ret (pe_and (pe_callB call_isi (by rfl) T.z_isinstance (by decide +kernel) (pa_cons (pv 0) (pa_cons (pe_bltn (v := .ty "str") (by rfl) T.z_str (by decide +kernel) rfl) pa_nil))) (pe_one (pe_cmpR op_eq (pv 0) (pv 1) (nomark _)))))) pss_nil)
      (pss_cons (ps_if (PW.pt (pw_and (pt_val (pe_callB call_isi (by rfl) T.z_isinstance (by decide +kernel) (pa_cons (pv 1) (pa_cons (pe_bltn (v := .ty "tuple") (by rfl) T.z_tuple (by decide +kernel) rfl) pa_nil)))) (pw_and1 (pt_not (pt_val (pe_callB call_isi (by rfl) T.z_isinstance (by decide +kernel) (pa_cons (pv 0) (pa_cons (pe_bltn (v := .ty "tuple") (by rfl) T.z_tuple (by decide +kernel) rfl) pa_nil)))))))) (pss_one (ps_ret pe_bl)) pss_nil)
      (pss_cons (ps_if (PW.pt (pw_and (pt_val (pe_callB call_isi (by rfl) T.z_isinstance (by decide +kernel) (pa_cons (pv 1) (pa_cons (pe_bltn (v := .ty "list") (by rfl) T.z_list (by decide +kernel) rfl) pa_nil)))) (pw_and1 (pt_not (pt_val (pe_callB call_isi (by rfl) T.z_isinstance (by decide +kernel) (pa_cons (pv 0) (pa_cons (pe_bltn (v := .ty "list") (by rfl) T.z_list (by decide +kernel) rfl) pa_nil)))))))) (pss_one (ps_ret pe_bl)) pss_nil)
      (pss_cons (ps_if (pt_cmpR op_ne (pe_callB call_len_seq (by rfl) T.z_len (by decide +kernel) (pa_cons (pv 0) pa_nil)) (pe_callB call_len_seq (by rfl) T.z_len (by decide +kernel) (pa_cons (pv 1) pa_nil)) (nomark _)) (pss_one (ps_ret pe_bl)) pss_nil)
      (pss_cons (ps_for PassesOwn.never rfl (pi_range1 (by rfl) T.z_range (pa_cons (pe_callB call_len_seq (by rfl) T.z_len (by decide +kernel) (pa_cons (pv 1) pa_nil)) pa_nil)) (pg_name (i := 2) sc_l_equal.nd rfl (Or.inl rfl)) (pss_one (ps_if (pt_not (pt_val (pe_call G_l_equal hr_l_equal (by rfl) T.g_l_equal T.F_l_equal.kp T.b_l_equal .nil pass0 (pa_cons (pe_ix ix_seq (pv 0) (pv 2) (fun _ _ => rfl)) (pa_cons (pe_ix ix_seq (pv 1) (pv 2) (fun _ _ => rfl)) pa_nil))))) (pss_one (ps_ret pe_bl)) pss_nil)))
      (pss_one (ps_ret pe_bl)))))))))), ?_⟩
      cases hd with
      | non =>
        cases hx
        cases hy
        walk_at "rd"
        refine r_if (fun _ => ?_) (fun c => absurd rfl c)
        walk_at "rd"
        exact k
      | bl _ b =>
        cases hx
        cases hy
        walk_at "rd"
        refine r_if (fun c => nomatch c) (fun _ => ?_)
        walk_at "rd"
        refine r_isi (a := "bool") true (.base (.bl b)) (by decide +kernel) ?_
        walk_at "rd"
        refine r_isi (a := "bool") true (.base (.bl b)) (by decide +kernel) ?_
        walk_at "rd"
        rw [decide_eq_true rfl]
        exact k
      | int _ i =>
        cases hx
        cases hy
        walk_at "rd"
        refine r_if (fun c => nomatch c) (fun _ => ?_)
        walk_at "rd"
        refine r_isi (a := "int") false (.base (.int i)) (by decide +kernel) ?_
        walk_at "rd"
        refine r_isi (a := "int") true (.base (.int i)) (by decide +kernel) ?_
        walk_at "rd"
        refine r_isi (a := "int") true (.base (.int i)) (by decide +kernel) ?_
        walk_at "rd"
        refine r_isi (a := "int") false (.base (.int i)) (by decide +kernel) ?_
        walk_at "rd"
        rw [decide_eq_true rfl]
        exact k
      | str _ z =>
        cases hx
        cases hy
        walk_at "rd"
        refine r_if (fun c => nomatch c) (fun _ => ?_)
        walk_at "rd"
        refine r_isi (a := "str") false (.base (.str z)) (by decide +kernel) ?_
        walk_at "rd"
        refine r_isi (a := "str") false (.base (.str z)) (by decide +kernel) ?_
        walk_at "rd"
        refine r_isi (a := "str") true (.base (.str z)) (by decide +kernel) ?_
        walk_at "rd"
        refine r_isi (a := "str") true (.base (.str z)) (by decide +kernel) ?_
        walk_at "rd"
        rw [decide_eq_true rfl]
        exact k
      | @tup m ds hl hd =>
        cases hx with
        | @tup a xs _ hs ha =>
        cases hy with
        | @tup b ys _ ht hb =>
        walk_at "rd"
        refine r_if (fun c => nomatch c) (fun _ => ?_)
        walk_at "rd"
        refine r_isi (a := "tuple") false (tyx_t ht) (by decide +kernel) ?_
        walk_at "rd"
        refine r_isi (a := "tuple") false (tyx_t ht) (by decide +kernel) ?_
        walk_at "rd"
        refine r_isi (a := "tuple") false (tyx_t ht) (by decide +kernel) ?_
        walk_at "rd"
        refine r_isi (a := "tuple") true (tyx_t ht) (by decide +kernel) ?_
        walk_at "rd"
        refine r_isi (a := "tuple") true (tyx_t hs) (by decide +kernel) ?_
        walk_at "rd"
        refine r_isi (a := "tuple") false (tyx_t ht) (by decide +kernel) ?_
        walk_at "rd"
        refine ⟨a, _, rfl, .inr hs, ?_⟩
        walk_at "rd"
        refine ⟨b, _, rfl, .inr ht, ?_⟩
        walk_at "rd"
        have lx := dpa_len ha
        have ly := dpa_len hb
        refine r_ifN (fun c => absurd (by rw [lx, ly]) c) (fun _ => ?_)
        walk_at "rd"
        refine ⟨b, _, rfl, .inr ht, ?_⟩
        walk_at "rd"
        refine ⟨by omega, by omega, ?_⟩
        refine for_range (n := ys.length) (fun i σ H2 => ∃ v : Option V, σ = [some (.ref a), some (.ref b), v] ∧ H2 = H) ⟨none, rfl, rfl⟩ ?_ ?_
        · rintro i σ H2 hi ⟨v, rfl, rfl⟩
          obtain ⟨d, hdi⟩ : ∃ d, ds[i]? = some d := ⟨ds[i]'(by omega), List.getElem?_eq_getElem (by omega)⟩
          obtain ⟨x, hx1, hx2⟩ := dpa_get ha hdi
          obtain ⟨y, hy1, hy2⟩ := dpa_get hb hdi
          walk_at "rd"
          refine r_ixQT hs (at_of (j := i) (by omega) hx1) ?_
          walk_at "rd"
          refine r_ixQT ht (at_of (j := i) (by omega) hy1) ?_
          walk_at "rd"
          refine ⟨x, y, d, rfl, hx2, hy2, hd d (List.mem_of_getElem? hdi), ?_⟩
          walk_at "rd"
          exact ⟨_, rfl, rfl⟩
        · rintro σ H2 ⟨v, rfl, rfl⟩
          walk_at "rd"
          exact k
      | @lst m ds hl hd =>
        cases hx with
        | @lst a xs _ hs ha =>
        cases hy with
        | @lst b ys _ ht hb =>
        walk_at "rd"
        refine r_if (fun c => nomatch c) (fun _ => ?_)
        walk_at "rd"
        refine r_isi (a := "list") false (tyx_l ht) (by decide +kernel) ?_
        walk_at "rd"
        refine r_isi (a := "list") false (tyx_l ht) (by decide +kernel) ?_
        walk_at "rd"
        refine r_isi (a := "list") false (tyx_l ht) (by decide +kernel) ?_
        walk_at "rd"
        refine r_isi (a := "list") false (tyx_l ht) (by decide +kernel) ?_
        walk_at "rd"
        refine r_isi (a := "list") true (tyx_l ht) (by decide +kernel) ?_
        walk_at "rd"
        refine r_isi (a := "list") true (tyx_l hs) (by decide +kernel) ?_
        walk_at "rd"
        refine ⟨a, _, rfl, .inl hs, ?_⟩
        walk_at "rd"
        refine ⟨b, _, rfl, .inl ht, ?_⟩
        walk_at "rd"
        have lx := dpa_len ha
        have ly := dpa_len hb
        refine r_ifN (fun c => absurd (by rw [lx, ly]) c) (fun _ => ?_)
        walk_at "rd"
        refine ⟨b, _, rfl, .inl ht, ?_⟩
        walk_at "rd"
        refine ⟨by omega, by omega, ?_⟩
        refine for_range (n := ys.length) (fun i σ H2 => ∃ v : Option V, σ = [some (.ref a), some (.ref b), v] ∧ H2 = H) ⟨none, rfl, rfl⟩ ?_ ?_
        · rintro i σ H2 hi ⟨v, rfl, rfl⟩
          obtain ⟨d, hdi⟩ : ∃ d, ds[i]? = some d := ⟨ds[i]'(by omega), List.getElem?_eq_getElem (by omega)⟩
          obtain ⟨x, hx1, hx2⟩ := dpa_get ha hdi
          obtain ⟨y, hy1, hy2⟩ := dpa_get hb hdi
          walk_at "rd"
          refine r_ixQL hs (at_of (j := i) (by omega) hx1) ?_
          walk_at "rd"
          refine r_ixQL ht (at_of (j := i) (by omega) hy1) ?_
          walk_at "rd"
          refine ⟨x, y, d, rfl, hx2, hy2, hd d (List.mem_of_getElem? hdi), ?_⟩
          walk_at "rd"
          exact ⟨_, rfl, rfl⟩
        · rintro σ H2 ⟨v, rfl, rfl⟩
          walk_at "rd"
          exact k
theorem ok_l_equal {P : Program} {w : World} {K : PySem.W.Frag} {mg : Str → Option Value} {base : Heap} (T : Env K mg) : FnOk P w K mg base CX0 5 T.a_l_equal T.d_l_equal ["actual", "due"] (sp_eq K (5 - 1)) := ok_eq_rec T _
/-! ### fractions of the program -/
def sp_ratio (K : PySem.W.Frag) : Sp := fun vs H Q _ => ∃ (n d : Int), vs = [.int n, .int d] ∧ d ≠ 0 ∧ d.natAbs < 2 ^ 8000 ∧
  ∀ (p : Addr) (H' : Hp), Same H H' → H p = none → H' p = some (.tup [.int (rN n d), .int (rD n d)]) → Q (.ref p) H'
theorem sc_ratio : FnScope ["n", "d", "shared"] ["n", "d"] (defScope s_ratio) := ⟨rfl, rfl, rfl, by decide +kernel, rfl, by decide +kernel, by decide +kernel⟩
theorem ok_ratio {P : Program} {w : World} {K : PySem.W.Frag} {mg : Str → Option Value} {base : Heap} (T : Env K mg) : FnOk P w K mg base CX0 1 T.a_ratio T.d_ratio ["n", "d"] (sp_ratio K) := by
  refine T.F_ratio.ok sc_ratio (fun vs H Q E h => ?_) (fun cdv A outer s H vs Q E hr h => ?_)
  · obtain ⟨n, d, rfl, _⟩ := h
    rfl
  · obtain ⟨n, d, rfl, hd, hb, k⟩ := h
    refine ⟨_, (pss_cons (ps_set (i := 2) sc_ratio.nd rfl (Or.inl rfl) (pe_callBfun cr_gcd (by rfl) T.z_gcd (pa_cons (pv 0) (pa_cons (pv 1) pa_nil))))
      (C8.pss_cut (ps_if (pt_cmpR op_lt (pv 1) pe_int (nomark _)) (pss_one (ps_set (i := 2) sc_ratio.nd rfl (Or.inl rfl) (pe_un un_neg (pv 2)))) pss_nil)
      (pss_one (ps_ret (pe_tup (pa_cons (pe_op op_fdivX (pv 0) (pv 2)) (pa_cons (pe_op op_fdivX (pv 1) (pv 2)) pa_nil))))))), ?_⟩
    walk_at "rd"
    refine ⟨n, d, rfl, ?_⟩
    walk_at "rd"
    refine r_cut (fun σ' H1 => ∃ g : Int, n.fdiv g = rN n d ∧ d.fdiv g = rD n d ∧ g.natAbs = Int.gcd n d ∧ σ' = [some (.int n), some (.int d), some (.int g)] ∧ H1 = H) ?_ ?_
    · walk_at "rd"
      refine r_if (fun c => ?_) (fun c => ?_)
      · walk_at "rd"
        exact ⟨_, rN_neg c, rD_neg c, by rw [Int.natAbs_neg]; rfl, rfl, rfl⟩
      · walk_at "rd"
        have c' : 0 < d := by omega
        exact ⟨_, rN_pos c', rD_pos c', rfl, rfl, rfl⟩
    · rintro σ' H1 ⟨g, g1, g2, g3, rfl, rfl⟩
      walk_at "rd"
      refine r_iC (gcd_div hd hb g3) ?_
      walk_at "rd"
      refine r_iC (gcd_div hd hb g3) ?_
      walk_at "rd"
      refine ⟨(by show 2 ≤ sizeLine; decide), fun p hp => ?_⟩
      refine k p _ (sm_new hp) hp ?_
      rw [upd_same, g1, g2]
theorem wide_pow {x : Int} {a b : Nat} (h : x.natAbs < 2 ^ a) (l : a ≤ b := by decide) : x.natAbs < 2 ^ b := Nat.lt_of_lt_of_le h (Nat.pow_le_pow_right (by decide) l)
def sp_plus (K : PySem.W.Frag) : Sp := fun vs H Q _ => ∃ (a b : Addr) (a0 a1 b0 b1 : Int), vs = [.ref a, .ref b] ∧ SqT K H a [.int a0, .int a1] ∧ SqT K H b [.int b0, .int b1] ∧
  (a0.natAbs < 2 ^ 3900 ∧ a1.natAbs < 2 ^ 3900 ∧ b0.natAbs < 2 ^ 3900 ∧ b1.natAbs < 2 ^ 3900) ∧ a1 * b1 ≠ 0 ∧
  ∀ (p : Addr) (H' : Hp), Same H H' → H p = none → H' p = some (.tup [.int (rN (a0 * b1 + b0 * a1) (a1 * b1)), .int (rD (a0 * b1 + b0 * a1) (a1 * b1))]) → Q (.ref p) H'
theorem sc_plus : FnScope ["a", "b"] ["a", "b"] (defScope s_plus) := ⟨rfl, rfl, rfl, by decide +kernel, rfl, by decide +kernel, by decide +kernel⟩
theorem ok_plus {P : Program} {w : World} {K : PySem.W.Frag} {mg : Str → Option Value} {base : Heap} (T : Env K mg) : FnOk P w K mg base CX0 2 T.a_plus T.d_plus ["a", "b"] (sp_plus K) := by
  refine T.F_plus.ok sc_plus (fun vs H Q E h => ?_) (fun cdv A outer s H vs Q E hr h => ?_)
  · obtain ⟨a, b, a0, a1, b0, b1, rfl, _⟩ := h
    rfl
  · obtain ⟨a, b, a0, a1, b0, b1, rfl, hA, hB, ⟨ha0, ha1, hb0, hb1⟩, hd, k⟩ := h
    have G_ratio := ok_ratio (P := P) (w := w) (base := base) T
    have hr_ratio : Room 1 _ := hr.mono (by decide)
    refine ⟨_, (pss_one (ps_ret (pe_call G_ratio hr_ratio (by rfl) T.g_ratio T.F_ratio.kp T.b_ratio .nil pass0 (pa_cons (pe_op op_add (pe_op op_mulW (pe_ix ix_tup (pv 0) pe_int (fun _ _ => rfl)) (pe_ix ix_tup (pv 1) pe_int (fun _ _ => rfl))) (pe_op op_mulW (pe_ix ix_tup (pv 1) pe_int (fun _ _ => rfl)) (pe_ix ix_tup (pv 0) pe_int (fun _ _ => rfl)))) (pa_cons (pe_op op_mulW (pe_ix ix_tup (pv 0) pe_int (fun _ _ => rfl)) (pe_ix ix_tup (pv 1) pe_int (fun _ _ => rfl))) pa_nil))))), ?_⟩
    walk_at "rd"
    refine r_ixT hA (v := .int a0) rfl ?_
    walk_at "rd"
    refine r_ixT hB (v := .int b1) rfl ?_
    refine r_iC (wide_mul ha0 hb1 (by decide) (by decide) (by decide)) ?_
    walk_at "rd"
    refine r_ixT hB (v := .int b0) rfl ?_
    walk_at "rd"
    refine r_ixT hA (v := .int a1) rfl ?_
    refine r_iC (wide_mul hb0 ha1 (by decide) (by decide) (by decide)) ?_
    walk_at "rd"
    refine r_ixT hA (v := .int a1) rfl ?_
    walk_at "rd"
    refine r_ixT hB (v := .int b1) rfl ?_
    refine r_iC (wide_mul ha1 hb1 (by decide) (by decide) (by decide)) ?_
    walk_at "rd"
    exact ⟨_, _, rfl, hd, wide_pow (wide_lt ha1 hb1), k⟩
/-! ### fractions of the law -/
def sp_l_ratio (K : PySem.W.Frag) : Sp := fun vs H Q _ => ∃ (n d : Int), vs = [.int n, .int d] ∧ d ≠ 0 ∧ n.natAbs < 2 ^ 900 ∧ d.natAbs < 2 ^ 900 ∧
  ∀ (p : Addr) (H' : Hp), Same H H' → H p = none → H' p = some (.tup [.int (rN n d), .int (rD n d)]) → Q (.ref p) H'
theorem big_prod {x y : Nat} (hx : x < 2 ^ 900) (hy : y < 2 ^ 900) : x * y < 2 ^ (1999 : Nat) := by
  have h1 : x * y < 2 ^ (900 + 900) := by
    rw [Nat.pow_add]
    exact Nat.mul_lt_mul'' hx hy
  exact Nat.lt_of_lt_of_le h1 (Nat.pow_le_pow_right (by decide) (by decide))
theorem sc_l_ratio : FnScope ["n", "d", "a", "b", "k", "rest"] ["n", "d"] (defScope s_l_ratio) := ⟨rfl, rfl, rfl, by decide +kernel, rfl, by decide +kernel, by decide +kernel⟩
theorem ok_l_ratio {P : Program} {w : World} {K : PySem.W.Frag} {mg : Str → Option Value} {base : Heap} (T : Env K mg) : FnOk P w K mg base CX0 1 T.a_l_ratio T.d_l_ratio ["n", "d"] (sp_l_ratio K) := by
  refine T.F_l_ratio.ok sc_l_ratio (fun vs H Q E h => ?_) (fun cdv A outer s H vs Q E hr h => ?_)
  · obtain ⟨n, d, rfl, _⟩ := h
    rfl
  · obtain ⟨n, d, rfl, hd, hn, hb, k⟩ := h
    refine ⟨_, (C8.pss_cut (ps_if (pt_cmpR op_lt (pv 1) pe_int (nomark _)) (pss_cons (ps_set (i := 0) sc_l_ratio.nd rfl (Or.inl rfl) (pe_op op_sub pe_int (pv 0)))
      (pss_one (ps_set (i := 1) sc_l_ratio.nd rfl (Or.inl rfl) (pe_op op_sub pe_int (pv 1))))) pss_nil)
      (pss_cons (ps_set (i := 2) sc_l_ratio.nd rfl (Or.inl rfl) (pe_callB call_abs (by rfl) T.z_abs (by decide +kernel) (pa_cons (pv 0) pa_nil)))
      (pss_cons (ps_set (i := 3) sc_l_ratio.nd rfl (Or.inl rfl) (pv 1))
      (pss_cons (ps_for PassesOwn.never rfl (pi_range1 (by rfl) T.z_range (pa_cons pe_int pa_nil)) (pg_name (i := 4) sc_l_ratio.nd rfl (Or.inl rfl)) (pss_cons (ps_if (pt_cmpR op_eq (pv 2) pe_int (nomark _)) (pss_one ps_break) pss_nil)
      (pss_cons (ps_set (i := 5) sc_l_ratio.nd rfl (Or.inl rfl) (pe_op op_modN (pe_callTy call_int1 (by rfl) T.z_int (by decide +kernel) (pa_cons (pv 3) pa_nil)) (pv 2)))
      (pss_cons (ps_set (i := 3) sc_l_ratio.nd rfl (Or.inl rfl) (pv 2))
      (pss_one (ps_set (i := 2) sc_l_ratio.nd rfl (Or.inl rfl) (pv 5)))))))
      (pss_one (ps_ret (pe_tup (pa_cons (pe_op op_fdivX (pv 0) (pv 3)) (pa_cons (pe_op op_fdivX (pv 1) (pv 3)) pa_nil))))))))), ?_⟩
    walk_at "rd"
    refine r_cut (fun σ' H1 => ∃ m e : Int, 0 < e ∧ m.natAbs = n.natAbs ∧ e.natAbs = d.natAbs ∧ m / (Int.gcd n d : Int) = rN n d ∧ e / (Int.gcd n d : Int) = rD n d ∧ σ' = [some (.int m), some (.int e), none, none, none, none] ∧ H1 = H) ?_ ?_
    · walk_at "rd"
      refine r_if (fun c => ?_) (fun c => ?_)
      · walk_at "rd"
        refine ⟨0 - n, 0 - d, by omega, by omega, by omega, ?_, ?_, rfl, rfl⟩
        · unfold rN
          rw [if_pos c, Int.zero_sub]
        · unfold rD
          have : (d.natAbs : Int) = 0 - d := by omega
          rw [this]
      · walk_at "rd"
        refine ⟨n, d, by omega, rfl, rfl, ?_, ?_, rfl, rfl⟩
        · unfold rN
          rw [if_neg c]
        · unfold rD
          have : (d.natAbs : Int) = d := by omega
          rw [this]
    · rintro σ' H1 ⟨m, e, he, hm, hed, e1, e2, rfl, rfl⟩
      have eg : Int.gcd n d = Int.gcd m e := by
        show Nat.gcd n.natAbs d.natAbs = Nat.gcd m.natAbs e.natAbs
        rw [hm, hed]
      have ab : (if m < 0 then -m else m) = (m.natAbs : Int) := by
        split <;> omega
      walk_at "rd"
      rw [ab]
      refine for_range (n := 2000) (fun i σ H2 => ∃ (a b : Int) (v4 v5 : Option V), Eu (Int.gcd n d) (n.natAbs * d.natAbs) i a b ∧ σ = [some (.int m), some (.int e), some (.int a), some (.int b), v4, v5] ∧ H2 = H1)
        ⟨m.natAbs, e, none, none, ⟨by omega, he, by rw [eg]; show Nat.gcd (m.natAbs : Int).natAbs e.natAbs = _; rw [Int.natAbs_natCast]; rfl, fun z => absurd z (by decide), by
          show (m.natAbs : Int).toNat * e.toNat * 1 ≤ _
          rw [Nat.mul_one]
          have q1 : (m.natAbs : Int).toNat = n.natAbs := by omega
          have q2 : e.toNat = d.natAbs := by omega
          rw [q1, q2]
          exact Nat.le_refl _⟩, rfl, rfl⟩ ?_ ?_
      · rintro i σ H2 hi ⟨a, b, v4, v5, hE, rfl, rfl⟩
        walk_at "rd"
        refine r_if (fun c => ?_) (fun c => ?_)
        · walk_at "rd"
          have hb2 := hE.zero c
          subst hb2
          refine r_iC (gcd_div hd (Nat.lt_of_lt_of_le hb (Nat.pow_le_pow_right (by decide) (by decide))) (Int.natAbs_natCast _)) ?_
          walk_at "rd"
          refine r_iC (gcd_div hd (Nat.lt_of_lt_of_le hb (Nat.pow_le_pow_right (by decide) (by decide))) (Int.natAbs_natCast _)) ?_
          walk_at "rd"
          refine ⟨(by show 2 ≤ sizeLine; decide), fun p hp => ?_⟩
          refine k p _ (sm_new hp) hp ?_
          have g0 := gcd_pos (n := n) hd
          rw [upd_same, Int.fdiv_eq_ediv_of_nonneg _ (by omega), Int.fdiv_eq_ediv_of_nonneg _ (by omega), e1, e2]
        · walk_at "rd"
          refine r_iC c ?_
          walk_at "rd"
          exact ⟨_, _, _, _, hE.step c, rfl, rfl⟩
      · rintro σ H2 ⟨a, b, v4, v5, hE, rfl, rfl⟩
        have c := hE.done (big_prod hn hb)
        have hb2 := hE.zero c
        subst hb2
        walk_at "rd"
        refine r_iC (gcd_div hd (Nat.lt_of_lt_of_le hb (Nat.pow_le_pow_right (by decide) (by decide))) (Int.natAbs_natCast _)) ?_
        walk_at "rd"
        refine r_iC (gcd_div hd (Nat.lt_of_lt_of_le hb (Nat.pow_le_pow_right (by decide) (by decide))) (Int.natAbs_natCast _)) ?_
        walk_at "rd"
        refine ⟨(by show 2 ≤ sizeLine; decide), fun p hp => ?_⟩
        refine k p _ (sm_new hp) hp ?_
        have g0 := gcd_pos (n := n) hd
        rw [upd_same, Int.fdiv_eq_ediv_of_nonneg _ (by omega), Int.fdiv_eq_ediv_of_nonneg _ (by omega), e1, e2]
/-! ### equal fractions, equal bools -/
section
variable {K : PySem.W.Frag} {H : Hp} {Q : VK} {E : XK}
theorem fr_dp {q : Addr} {x y : Int} (h : SqT K H q [.int x, .int y]) : Dp K H (.ref q) (.tuple [.int x, .int y]) := .tup h (.cons (.int _) (.cons (.int _) .nil))
theorem fr_dn (n : Nat) (x y : Int) : Dn (n + 1) (.tuple [.int x, .int y]) := .tup (by show 2 ≤ 100000; decide) fun d hd => by
  rcases List.mem_cons.mp hd with rfl | hd
  · exact .int _ _
  · rcases List.mem_cons.mp hd with rfl | hd
    · exact .int _ _
    · cases hd
theorem eq_fr {n : Nat} {q r : Addr} {x y x' y' : Int} (h1 : SqT K H q [.int x, .int y]) (h2 : SqT K H r [.int x', .int y']) (e1 : x = x') (e2 : y = y') (k : Q (.bl true) H) : sp_eq K (n + 2) [.ref q, .ref r] H Q E := by
  subst e1 e2
  exact ⟨_, _, _, rfl, fr_dp h1, fr_dp h2, fr_dn _ _ _, k⟩
theorem eq_bl {n : Nat} {b c : Bool} (e : b = c) (k : Q (.bl true) H) : sp_eq K (n + 1) [.bl b, .bl c] H Q E := by
  subst e
  exact ⟨_, _, _, rfl, .bl _, .bl _, .bl _ _, k⟩
end
/-! ### systems as data -/
abbrev Cho := Int × List (Int × Int)
def eE (e : Int × Int) : PyData := .tuple [.int e.1, .int e.2]
def eC (c : Cho) : PyData := .tuple [.int c.1, .tuple (c.2.map eE)]
def eS (s : List Cho) : PyData := .tuple (s.map eC)
def eY (y : List (List Cho)) : PyData := .tuple (y.map eS)
theorem tu_two {a b : PyData} (ha : Tu a) (hb : Tu b) : Tu (.tuple [a, b]) := .tup fun d hd => by
  rcases List.mem_cons.mp hd with rfl | hd
  · exact ha
  · rcases List.mem_cons.mp hd with rfl | hd
    · exact hb
    · cases hd
theorem tu_map {α : Type} {f : α → PyData} (l : List α) (h : ∀ a, Tu (f a)) : ∀ d, d ∈ l.map f → Tu d := fun d hd => by
  obtain ⟨a, _, rfl⟩ := List.mem_map.mp hd
  exact h a
theorem tu_E (e : Int × Int) : Tu (eE e) := tu_two (.int _) (.int _)
theorem tu_C (c : Cho) : Tu (eC c) := tu_two (.int _) (.tup (tu_map _ tu_E))
theorem tu_S (s : List Cho) : Tu (eS s) := .tup (tu_map _ tu_C)
theorem tu_Y (y : List (List Cho)) : Tu (eY y) := .tup (tu_map _ tu_S)
section
variable {K : PySem.W.Frag} {H : Hp}
/-- what stands behind a tuple's data -/
theorem dp_tup {v : V} {ds : List PyData} (h : Dp K H v (.tuple ds)) : ∃ a xs, v = .ref a ∧ SqT K H a xs ∧ DpAll K H xs ds := by
  cases h with
  | tup s a => exact ⟨_, _, rfl, s, a⟩
theorem dp_int {v : V} {i : Int} (h : Dp K H v (.int i)) : v = .int i := by
  cases h
  rfl
theorem dp_E {v : V} {e : Int × Int} (h : Dp K H v (eE e)) : ∃ a, v = .ref a ∧ SqT K H a [.int e.1, .int e.2] := by
  obtain ⟨a, xs, rfl, s, d⟩ := dp_tup h
  cases d with
  | cons h1 d =>
    cases d with
    | cons h2 d =>
      cases d
      rw [dp_int h1, dp_int h2] at s
      exact ⟨a, rfl, s⟩
theorem dp_C {v : V} {c : Cho} (h : Dp K H v (eC c)) : ∃ a b xs, v = .ref a ∧ SqT K H a [.int c.1, .ref b] ∧ SqT K H b xs ∧ DpAll K H xs (c.2.map eE) := by
  obtain ⟨a, xs, rfl, s, d⟩ := dp_tup h
  cases d with
  | cons h1 d =>
    cases d with
    | cons h2 d =>
      cases d
      obtain ⟨b, ys, rfl, s2, d2⟩ := dp_tup h2
      rw [dp_int h1] at s
      exact ⟨a, b, ys, rfl, s, s2, d2⟩
theorem mk_E {a : Addr} {i j : Int} (h : SqT K H a [.int i, .int j]) : Dp K H (.ref a) (eE (i, j)) := .tup h (.cons (.int _) (.cons (.int _) .nil))
theorem mk_C {a : Addr} {v : V} {i : Int} {es : List (Int × Int)} (h : SqT K H a [.int i, v]) (h2 : Dp K H v (.tuple (es.map eE))) : Dp K H (.ref a) (eC (i, es)) := .tup h (.cons (.int _) (.cons h2 .nil))
theorem dpa_get' {vs : List V} {ds : List PyData} {i : Nat} {v : V} (h : DpAll K H vs ds) (e : vs[i]? = some v) : ∃ d, ds[i]? = some d ∧ Dp K H v d := by
  have hl := dpa_len h
  have hi := (List.getElem?_eq_some_iff.mp e).1
  obtain ⟨u, h1, h2⟩ := dpa_get (i := i) (d := ds[i]'(by omega)) h (List.getElem?_eq_getElem (by omega))
  rw [e] at h1
  cases h1
  exact ⟨_, List.getElem?_eq_getElem (by omega), h2⟩
theorem dpa_at {α : Type} {f : α → PyData} {vs : List V} {l : List α} {i : Nat} {v : V} (h : DpAll K H vs (l.map f)) (e : vs[i]? = some v) : ∃ a, l[i]? = some a ∧ Dp K H v (f a) := by
  obtain ⟨d, h1, h2⟩ := dpa_get' h e
  rw [List.getElem?_map] at h1
  cases q : l[i]? with
  | none => rw [q] at h1; cases h1
  | some a =>
    rw [q] at h1
    cases h1
    exact ⟨a, rfl, h2⟩
theorem dpa_of {α : Type} {f : α → PyData} {vs : List V} {l : List α} {i : Nat} {a : α} (h : DpAll K H vs (l.map f)) (e : l[i]? = some a) : ∃ v, vs[i]? = some v ∧ Dp K H v (f a) :=
  dpa_get h (by rw [List.getElem?_map, e]; rfl)
end
/-! ### drawn systems -/
def EndsOk (m : Int) (es : List (Int × Int)) : Prop := es ≠ [] ∧ (es.length : Int) ≤ m ∧ (∀ e ∈ es, 0 ≤ e.1 ∧ e.1 < m ∧ 1 ≤ e.2 ∧ e.2 ≤ 1000) ∧ es.Pairwise fun a b => a.1 < b.1
def sp_l_ends (K : PySem.W.Frag) : Sp := fun vs H Q _ => ∃ (p t : Addr) (ts : List Int) (n m : Int), vs = [.ref p, .int m] ∧ Tp H p t ts n ∧ n ≤ 2 ^ 39 ∧ 1 ≤ m ∧ m ≤ 20 ∧
  ∀ (v : V) (es : List (Int × Int)) (H' : Hp), EndsOk m es → Dp K H' v (.tuple (es.map eE)) → Tp H' p t ts (n + 50) → Fm p H H' → Q v H'
theorem sc_l_ends : FnScope ["state", "many", "ends", "first", "goal"] ["state", "many"] (defScope s_l_ends) := ⟨rfl, rfl, rfl, by decide +kernel, rfl, by decide +kernel, by decide +kernel⟩
theorem ok_l_ends {P : Program} {w : World} {K : PySem.W.Frag} {mg : Str → Option Value} {base : Heap} (T : Env K mg) : FnOk P w K mg base CX0 3 T.a_l_ends T.d_l_ends ["state", "many"] (sp_l_ends K) := by
  refine T.F_l_ends.ok sc_l_ends (fun vs H Q E h => ?_) (fun cdv A outer s H vs Q E hr h => ?_)
  · obtain ⟨p, t, ts, n, m, rfl, _⟩ := h
    rfl
  · obtain ⟨p, t, ts, n, m, rfl, T0, hn, hm1, hm2, k⟩ := h
    have G_l_take := ok_l_take (P := P) (w := w) (base := base) T
    have hr_l_take : Room 2 _ := hr.mono (by decide)
    refine ⟨_, (pss_cons (ps_set (i := 2) sc_l_ends.nd rfl (Or.inl rfl) (pe_lst pa_nil))
      (pss_cons (ps_set (i := 3) sc_l_ends.nd rfl (Or.inl rfl) (pe_call G_l_take hr_l_take (by rfl) T.g_l_take T.F_l_take.kp T.b_l_take .nil pass0 (pa_cons (pv 0) (pa_cons (pv 1) pa_nil))))
      (pss_cons (ps_for PassesOwn.never rfl (pi_range1 (by rfl) T.z_range (pa_cons (pv 1) pa_nil)) (pg_name (i := 4) sc_l_ends.nd rfl (Or.inl rfl)) (pss_one (ps_if (PW.pt (pw_or (pt_cmpR op_eq (pv 4) (pv 3) (nomark _)) (pw_or1 (pt_cmpR op_eq (pe_call G_l_take hr_l_take (by rfl) T.g_l_take T.F_l_take.kp T.b_l_take .nil pass0 (pa_cons (pv 0) (pa_cons pe_int pa_nil))) pe_int (nomark _))))) (pss_one (ps_expr (pe_bm PySem.F.plainAttrs_list PySem.F.slot_list_append PySem.F.type_list_append mt_append (pv 2) (pa_cons (pe_tup (pa_cons (pv 4) (pa_cons (pe_ix ix_list (pe_lst (pa_cons pe_int (pa_cons pe_int (pa_cons pe_int (pa_cons pe_int (pa_cons pe_int (pa_cons pe_int pa_nil))))))) (pe_call G_l_take hr_l_take (by rfl) T.g_l_take T.F_l_take.kp T.b_l_take .nil pass0 (pa_cons (pv 0) (pa_cons pe_int pa_nil))) (fun _ _ => rfl)) pa_nil))) pa_nil)))) pss_nil)))
      (pss_one (ps_ret (pe_callTy call_tuple_of (by rfl) T.z_tuple (by decide +kernel) (pa_cons (pv 2) pa_nil))))))), ?_⟩
    walk_at "rd"
    refine ⟨by decide, fun E hE => ?_⟩
    walk_at "rd"
    obtain ⟨nEp, nEt⟩ := T0.fresh hE
    refine ⟨p, t, ts, n, m, rfl, T0.same (sm_new hE), by omega, by omega, fun first H1 f0 f1 T1 e1 => ?_⟩
    walk_at "rd"
    refine ⟨by omega, by omega, ?_⟩
    have hE1 : H1 E = some (.lst []) := (e1 E nEp).trans upd_same
    refine for_range (n := m.toNat) (fun j σ H2 => ∃ (v4 : Option V) (es : List (Int × Int)) (vs : List V), σ = [some (.ref p), some (.int m), some (.ref E), some (.int first), v4] ∧ H2 E = some (.lst vs) ∧ DpAll K H2 vs (es.map eE) ∧
        Tp H2 p t ts (n + 1 + 2 * j) ∧ Fm p H H2 ∧ (∀ e ∈ es, 0 ≤ e.1 ∧ e.1 < j ∧ 1 ≤ e.2 ∧ e.2 ≤ 1000) ∧ es.Pairwise (fun a b => a.1 < b.1) ∧ es.length ≤ j ∧ (first < j → es ≠ []))
      ⟨_, [], [], rfl, hE1, .nil, T1.mono (by omega), Fm.trans (fm_new hE) (fm_off e1), by simp, .nil, by simp, by omega⟩ ?_ ?_
    · rintro j σ H2 hj ⟨v4, es, vs, rfl, hE2, hD2, T2, F2, hb, hp, hl, hne⟩
      walk_at "rd"
      have hlv : vs.length ≤ 20 := by
        have := dpa_len hD2
        rw [List.length_map] at this
        omega
      refine r_if (fun c => ?wa) (fun c => ?wb)
      case' wb =>
        walk_at "rd"
        refine ⟨p, t, ts, _, 3, rfl, T2, by omega, by decide, fun r H3 r0 r1 T3 e3 => ?_⟩
        walk_at "rd"
        replace hE2 : H3 E = some (.lst vs) := (e3 E nEp).trans hE2
        replace hD2 := dpa_tk (T2.tk (fm_off e3)) (tu_map _ tu_E) hD2
        replace F2 := F2.trans (fm_off e3)
        replace T2 := T3.mono (m := n + 1 + 2 * j + 1) (by omega)
        refine r_if (fun _ => ?wc) (fun _ => ?wd)
        case wd =>
          walk_at "rd"
          exact ⟨_, es, vs, rfl, hE2, hD2, T2.mono (by omega), F2, fun e he => ⟨(hb e he).1, by have := (hb e he).2.1; omega, (hb e he).2.2⟩, hp, by omega, fun q => hne (by omega)⟩
      case' wa => replace T2 := T2.mono (m := n + 1 + 2 * j + 1) (by omega)
      all_goals
        walk_at "rd"
        refine r_tyL (SqL.of hE2) ?_
        walk_at "rd"
        refine ⟨(by show 6 ≤ sizeLine; decide), fun q hq => ?_⟩
        walk_at "rd"
        refine ⟨p, t, ts, _, 6, rfl, T2.same (sm_new hq), by omega, by decide, fun r4 H4 r40 r41 T4 e4 => ?_⟩
        have nqE : E ≠ q := ne_of_none hE2 hq
        obtain ⟨nqp, _⟩ := T2.fresh hq
        obtain ⟨z, hz, hpick⟩ := pick (K := K) (fun z => 1 ≤ z ∧ z ≤ 1000) (zs := [1, 1, 2, 3, 10, 1000]) ((e4 q nqp).trans upd_same) rfl r40 r41 (by decide)
        refine hpick _ ?_
        walk_at "rd"
        refine ⟨(by show 2 ≤ sizeLine; decide), fun u hu => ?_⟩
        have hE4 : H4 E = some (.lst vs) := by rw [e4 E nEp, upd_ne nqE]; exact hE2
        have nuE : E ≠ u := ne_of_none hE4 hu
        have hE5 : (upd H4 u (.tup [.int (0 + j), .int z])) E = some (.lst vs) := by rw [upd_ne nuE]; exact hE4
        walk_at "rd"
        refine r_app hE5 (by omega) ?_
        walk_at "rd"
        have k1 := tk_new hq (o := .lst ([1, 1, 2, 3, 10, 1000].map V.int))
        have k2 := k1.trans (((T2.same (sm_new hq)).tk (fm_off e4)).trans ((tk_new hu (o := .tup [.int (0 + j), .int z])).trans (tk_lst hE5 (o := .lst (vs ++ [.ref u])))))
        have hj0 : (0 + (j : Int)) = j := by omega
        refine ⟨_, es ++ [((j : Int), z)], vs ++ [.ref u], rfl, upd_same, ?_, (((T4.same (sm_new hu)).other ⟨nEp, nEt⟩).mono (by omega)), ?_, ?_, ?_, ?_, ?_⟩
        · rw [List.map_append]
          refine dpa_app (dpa_tk k2 (tu_map _ tu_E) hD2) (.cons (mk_E (SqT.of ?_)) .nil)
          rw [upd_ne nuE.symm, upd_same, hj0]
        · exact (F2.trans ((fm_new hq).trans ((fm_off e4).trans (fm_new hu)))).mut hE
        · intro e he
          rcases List.mem_append.mp he with he | he
          · exact ⟨(hb e he).1, by have := (hb e he).2.1; omega, (hb e he).2.2⟩
          · rw [List.mem_singleton.mp he]
            exact ⟨by omega, by omega, hz⟩
        · refine List.pairwise_append.mpr ⟨hp, List.pairwise_singleton _ _, fun a ha b hb' => ?_⟩
          rw [List.mem_singleton.mp hb']
          exact (hb a ha).2.1
        · rw [List.length_append]
          simp
          omega
        · intro _ z
          simp at z
    · rintro σ H2 ⟨v4, es, vs, rfl, hE2, hD2, T2, F2, hb, hp, hl, hne⟩
      walk_at "rd"
      refine r_tupL (SqL.of hE2) fun q hq => ?_
      walk_at "rd"
      refine k _ es _ ⟨hne (by omega), by omega, fun e he => ⟨(hb e he).1, by have := (hb e he).2.1; omega, (hb e he).2.2⟩, hp⟩ (.tup (SqT.of upd_same) (dpa_tk (tk_new hq) (tu_map _ tu_E) hD2)) ((T2.same (sm_new hq)).mono (by omega)) (F2.trans (fm_new hq))
def ChoOk (m : Int) (c : Cho) : Prop := 0 ≤ c.1 ∧ c.1 ≤ 1000 ∧ EndsOk m c.2
def StOk (m : Int) (b : Int) (s : List Cho) : Prop := s ≠ [] ∧ (s.length : Int) ≤ b ∧ ∀ c ∈ s, ChoOk m c
def SysOk (b : Int) (y : List (List Cho)) : Prop := y ≠ [] ∧ (y.length : Int) ≤ b ∧ ∀ s ∈ y, StOk y.length 3 s
def sp_l_choices (K : PySem.W.Frag) : Sp := fun vs H Q _ => ∃ (p t : Addr) (ts : List Int) (n m b : Int), vs = [.ref p, .int m, .int b] ∧ Tp H p t ts n ∧ n ≤ 2 ^ 38 ∧ 1 ≤ m ∧ m ≤ 20 ∧ 1 ≤ b ∧ b ≤ 6 ∧
  ∀ (v : V) (s : List Cho) (H' : Hp), StOk m b s → Dp K H' v (eS s) → Tp H' p t ts (n + 400) → Fm p H H' → Q v H'
theorem sc_l_choices : FnScope ["state", "many", "most", "choices", "k"] ["state", "many", "most"] (defScope s_l_choices) := ⟨rfl, rfl, rfl, by decide +kernel, rfl, by decide +kernel, by decide +kernel⟩
theorem ok_l_choices {P : Program} {w : World} {K : PySem.W.Frag} {mg : Str → Option Value} {base : Heap} (T : Env K mg) : FnOk P w K mg base CX0 4 T.a_l_choices T.d_l_choices ["state", "many", "most"] (sp_l_choices K) := by
  refine T.F_l_choices.ok sc_l_choices (fun vs H Q E h => ?_) (fun cdv A outer s H vs Q E hr h => ?_)
  · obtain ⟨p, t, ts, n, m, b, rfl, _⟩ := h
    rfl
  · obtain ⟨p, t, ts, n, m, b, rfl, T0, hn, hm1, hm2, hb1, hb2, k⟩ := h
    have G_l_take := ok_l_take (P := P) (w := w) (base := base) T
    have hr_l_take : Room 2 _ := hr.mono (by decide)
    have G_l_ends := ok_l_ends (P := P) (w := w) (base := base) T
    have hr_l_ends : Room 3 _ := hr.mono (by decide)
    refine ⟨_, (pss_cons (ps_set (i := 3) sc_l_choices.nd rfl (Or.inl rfl) (pe_lst pa_nil))
      (pss_cons (ps_for PassesOwn.never rfl (pi_range1 (by rfl) T.z_range (pa_cons (pe_op op_add pe_int (pe_call G_l_take hr_l_take (by rfl) T.g_l_take T.F_l_take.kp T.b_l_take .nil pass0 (pa_cons (pv 0) (pa_cons (pv 2) pa_nil)))) pa_nil)) (pg_name (i := 4) sc_l_choices.nd rfl (Or.inl rfl)) (pss_one (ps_expr (pe_bm PySem.F.plainAttrs_list PySem.F.slot_list_append PySem.F.type_list_append mt_append (pv 3) (pa_cons (pe_tup (pa_cons (pe_ix ix_list (pe_lst (pa_cons pe_int (pa_cons pe_int (pa_cons pe_int (pa_cons pe_int (pa_cons pe_int pa_nil)))))) (pe_call G_l_take hr_l_take (by rfl) T.g_l_take T.F_l_take.kp T.b_l_take .nil pass0 (pa_cons (pv 0) (pa_cons pe_int pa_nil))) (fun _ _ => rfl)) (pa_cons (pe_call G_l_ends hr_l_ends (by rfl) T.g_l_ends T.F_l_ends.kp T.b_l_ends .nil pass0 (pa_cons (pv 0) (pa_cons (pv 1) pa_nil))) pa_nil))) pa_nil)))))
      (pss_one (ps_ret (pe_callTy call_tuple_of (by rfl) T.z_tuple (by decide +kernel) (pa_cons (pv 3) pa_nil)))))), ?_⟩
    walk_at "rd"
    refine ⟨by decide, fun E hE => ?_⟩
    walk_at "rd"
    obtain ⟨nEp, nEt⟩ := T0.fresh hE
    refine ⟨p, t, ts, n, b, rfl, T0.same (sm_new hE), by omega, by omega, fun many H1 f0 f1 T1 e1 => ?_⟩
    walk_at "rd"
    refine ⟨by omega, by omega, ?_⟩
    have hE1 : H1 E = some (.lst []) := (e1 E nEp).trans upd_same
    refine for_range (n := (1 + many).toNat) (fun j σ H2 => ∃ (v4 : Option V) (cs : List Cho) (vs : List V), σ = [some (.ref p), some (.int m), some (.int b), some (.ref E), v4] ∧ H2 E = some (.lst vs) ∧ DpAll K H2 vs (cs.map eC) ∧
        Tp H2 p t ts (n + 1 + 51 * j) ∧ Fm p H H2 ∧ (∀ c ∈ cs, ChoOk m c) ∧ cs.length = j)
      ⟨_, [], [], rfl, hE1, .nil, T1.mono (by omega), Fm.trans (fm_new hE) (fm_off e1), by simp, rfl⟩ ?_ ?_
    · rintro j σ H2 hj ⟨v4, cs, vs, rfl, hE2, hD2, T2, F2, hc, hl⟩
      walk_at "rd"
      have hlv : vs.length ≤ 20 := by
        have := dpa_len hD2
        rw [List.length_map] at this
        omega
      refine r_tyL (SqL.of hE2) ?_
      walk_at "rd"
      refine ⟨(by show 5 ≤ sizeLine; decide), fun q hq => ?_⟩
      walk_at "rd"
      refine ⟨p, t, ts, _, 5, rfl, T2.same (sm_new hq), by omega, by decide, fun r4 H4 r40 r41 T4 e4 => ?_⟩
      have nqE : E ≠ q := ne_of_none hE2 hq
      obtain ⟨nqp, _⟩ := T2.fresh hq
      obtain ⟨z, hz, hpick⟩ := pick (K := K) (fun z => 0 ≤ z ∧ z ≤ 1000) (zs := [0, 1, 2, 5, 1000]) ((e4 q nqp).trans upd_same) rfl r40 r41 (by decide)
      refine hpick _ ?_
      walk_at "rd"
      refine ⟨p, t, ts, _, m, rfl, T4, by omega, hm1, hm2, fun v5 es H5 he5 hv5 T5 F5 => ?_⟩
      walk_at "rd"
      refine ⟨(by show 2 ≤ sizeLine; decide), fun u hu => ?_⟩
      have hE4 : H4 E = some (.lst vs) := by rw [e4 E nEp, upd_ne nqE]; exact hE2
      have hE5 : H5 E = some (.lst vs) := F5 _ _ nEp hE4
      have nuE : E ≠ u := ne_of_none hE5 hu
      have hE6 : (upd H5 u (.tup [.int z, v5])) E = some (.lst vs) := by rw [upd_ne nuE]; exact hE5
      walk_at "rd"
      refine r_app hE6 (by omega) ?_
      walk_at "rd"
      have k0 : Tk H5 (upd (upd H5 u (.tup [.int z, v5])) E (.lst (vs ++ [.ref u]))) := (tk_new hu).trans (tk_lst hE6)
      have k1 : Tk H2 H5 := (tk_new hq).trans (((T2.same (sm_new hq)).tk (fm_off e4)).trans (T4.tk F5))
      refine ⟨_, cs ++ [(z, es)], vs ++ [.ref u], rfl, upd_same, ?_, (((T5.same (sm_new hu)).other ⟨nEp, nEt⟩).mono (by omega)), ?_, ?_, ?_⟩
      · rw [List.map_append]
        refine dpa_app (dpa_tk (k1.trans k0) (tu_map _ tu_C) hD2) (.cons (mk_C (v := v5) (SqT.of ?_) (dp_tk k0 (.tup (tu_map _ tu_E)) hv5)) .nil)
        rw [upd_ne nuE.symm, upd_same]
      · exact (F2.trans ((fm_new hq).trans ((fm_off e4).trans (F5.trans (fm_new hu))))).mut hE
      · intro c hc'
        rcases List.mem_append.mp hc' with hc' | hc'
        · exact hc c hc'
        · rw [List.mem_singleton.mp hc']
          exact ⟨hz.1, hz.2, he5⟩
      · rw [List.length_append, hl]
        rfl
    · rintro σ H2 ⟨v4, cs, vs, rfl, hE2, hD2, T2, F2, hc, hl⟩
      walk_at "rd"
      refine r_tupL (SqL.of hE2) fun q hq => ?_
      walk_at "rd"
      refine k _ cs _ ⟨fun z => by rw [z] at hl; simp at hl; omega, by omega, hc⟩ (.tup (SqT.of upd_same) (dpa_tk (tk_new hq) (tu_map _ tu_C) hD2)) ((T2.same (sm_new hq)).mono (by omega)) (F2.trans (fm_new hq))
def sp_l_system (K : PySem.W.Frag) : Sp := fun vs H Q _ => ∃ (p t : Addr) (ts : List Int) (n b : Int), vs = [.ref p, .int b] ∧ Tp H p t ts n ∧ n ≤ 2 ^ 37 ∧ 1 ≤ b ∧ b ≤ 20 ∧
  ∀ (v : V) (y : List (List Cho)) (H' : Hp), SysOk b y → Dp K H' v (eY y) → Tp H' p t ts (n + 10000) → Fm p H H' → Q v H'
theorem sc_l_system : FnScope ["state", "most", "many", "k"] ["state", "most"] (defScope s_l_system) := ⟨rfl, rfl, rfl, by decide +kernel, rfl, by decide +kernel, by decide +kernel⟩
theorem ok_l_system {P : Program} {w : World} {K : PySem.W.Frag} {mg : Str → Option Value} {base : Heap} (T : Env K mg) : FnOk P w K mg base CX0 5 T.a_l_system T.d_l_system ["state", "most"] (sp_l_system K) := by
  refine T.F_l_system.ok sc_l_system (fun vs H Q E h => ?_) (fun cdv A outer s H vs Q E hr h => ?_)
  · obtain ⟨p, t, ts, n, b, rfl, _⟩ := h
    rfl
  · obtain ⟨p, t, ts, n, b, rfl, T0, hn, hb1, hb2, k⟩ := h
    have G_l_take := ok_l_take (P := P) (w := w) (base := base) T
    have hr_l_take : Room 2 _ := hr.mono (by decide)
    have G_l_choices := ok_l_choices (P := P) (w := w) (base := base) T
    have hr_l_choices : Room 4 _ := hr.mono (by decide)
    refine ⟨_, (pss_cons (ps_set (i := 2) sc_l_system.nd rfl (Or.inr rfl) (pe_op op_add pe_int (pe_call G_l_take hr_l_take (by rfl) T.g_l_take T.F_l_take.kp T.b_l_take .nil pass0 (pa_cons (pv 0) (pa_cons (pv 1) pa_nil)))))
      (pss_one (ps_ret (pe_callTy call_tuple_of (by rfl) T.z_tuple (by decide +kernel) (pa_cons (pe_lc (own := [("k", 3)]) (g := gName 3) (by rfl) sc_l_system.nd (pi_range1 (by rfl) T.z_range (pa_cons (pv 2) pa_nil)) (blkOk_by (own := [("k", 3)]) (N := ["state", "most", "many", "k"]) (sc := defScope s_l_system) (by decide +kernel)) (fun _ _ _ _ _ => (pg_name (i := 3) sc_l_system.nd rfl (Or.inl rfl))) (fun _ _ _ _ _ => pts_nil) (fun _ _ _ _ _ => (pe_call G_l_choices hr_l_choices (by rfl) T.g_l_choices T.F_l_choices.kp T.b_l_choices .nil pass0 (pa_cons (pv 0) (pa_cons (pv 2) (pa_cons pe_int pa_nil)))))) pa_nil))))), ?_⟩
    walk_at "rd"
    refine ⟨p, t, ts, n, b, rfl, T0, by omega, by omega, fun many H1 f0 f1 T1 e1 => ?_⟩
    walk_at "rd"
    unfold tLc
    walk_at "rd"
    refine ⟨by omega, by omega, fun D hD => lc_range (lo := 0) (n := (1 + many).toNat) (fun i H2 => ∃ (sts : List (List Cho)) (vs : List V), H2 D = some (.lst vs) ∧ DpAll K H2 vs (sts.map eS) ∧
        Tp H2 p t ts (n + 1 + 400 * i) ∧ Fm p H1 H2 ∧ (∀ s ∈ sts, StOk (1 + many) 3 s) ∧ sts.length = i)
      ⟨[], [], upd_same, .nil, (T1.same (sm_new hD)).mono (by omega), fm_new hD, by simp, rfl⟩ ?_ ?_⟩
    · rintro i H2 hi ⟨sts, vs, hD2, hv2, T2, F2, hs, hl⟩
      have hlv : vs.length ≤ 20 := by
        have := dpa_len hv2
        rw [List.length_map] at this
        omega
      obtain ⟨nDp, nDt⟩ := T1.fresh hD
      walk_at "rd"
      refine ⟨rfl, ?_⟩
      refine r_yes ?_
      walk_at "rd"
      refine ⟨p, t, ts, _, 1 + many, 3, rfl, T2, by omega, by omega, by omega, by decide, by decide, fun v3 s3 H3 hs3 hv3 T3 F3 => ?_⟩
      have hD3 := F3 _ _ nDp hD2
      refine ⟨vs, hD3, Nat.lt_of_le_of_lt hlv (by decide), sts ++ [s3], vs ++ [v3], upd_same, ?_, (T3.other ⟨nDp, nDt⟩).mono (by omega), (F2.trans F3).mut hD, ?_, by rw [List.length_append, hl]; rfl⟩
      · rw [List.map_append]
        exact dpa_app (dpa_tk ((T2.tk F3).trans (tk_lst hD3)) (tu_map _ tu_S) hv2) (.cons (dp_tk (tk_lst hD3) (tu_S _) hv3) .nil)
      · intro s hs'
        rcases List.mem_append.mp hs' with hs' | hs'
        · exact hs s hs'
        · rw [List.mem_singleton.mp hs']
          exact hs3
    · rintro H2 ⟨sts, vs, hD2, hv2, T2, F2, hs, hl⟩
      walk_at "rd"
      refine r_tupL (SqL.of hD2) fun q hq => ?_
      walk_at "rd"
      have hm : ((sts.length : Nat) : Int) = 1 + many := by omega
      refine k _ sts _ ⟨fun z => by rw [z] at hl; simp at hl; omega, by omega, fun s hs' => by rw [hm]; exact hs s hs'⟩ (.tup (SqT.of upd_same) (dpa_tk (tk_new hq) (tu_map _ tu_S) hv2)) ((T2.same (sm_new hq)).mono (by omega)) ((fm_off e1).trans (F2.trans (fm_new hq)))
/-! ### drawn large systems -/
def EndsL (m : Int) (es : List (Int × Int)) : Prop := es ≠ [] ∧ es.length ≤ 6 ∧ (∀ e ∈ es, 0 ≤ e.1 ∧ e.1 < m ∧ 1 ≤ e.2 ∧ e.2 ≤ 1000) ∧ (es.map (·.1)).Nodup
def ChoL (m : Int) (c : Cho) : Prop := 0 ≤ c.1 ∧ c.1 ≤ 1000 ∧ EndsL m c.2
def StL (m : Int) (s : List Cho) : Prop := s ≠ [] ∧ s.length ≤ 6 ∧ ∀ c ∈ s, ChoL m c
def SysL (m : Int) (y : List (List Cho)) : Prop := (y.length : Int) = m ∧ ∀ s ∈ y, StL m s
theorem put_I (ks : List (Int × Int)) (k z : Int) : ∃ ks', putK (ks.map kvI) (.inl k) (.int z) = ks'.map kvI ∧ ks'.length ≤ ks.length + 1 ∧ ks' ≠ [] ∧ (∀ e ∈ ks', e ∈ ks ∨ e = (k, z)) ∧ ((ks.map (·.1)).Nodup → (ks'.map (·.1)).Nodup) := by
  unfold putK
  by_cases h : ((ks.map kvI).any fun kv => decide (kv.1 = (Sum.inl k : Key))) = true
  · rw [if_pos h]
    refine ⟨ks.map fun e => if e.1 = k then (k, z) else e, ?_, by rw [List.length_map]; omega, ?_, ?_, ?_⟩
    · rw [List.map_map, List.map_map]
      refine List.map_congr_left fun e _ => ?_
      show (if (Sum.inl e.1 : Key) = Sum.inl k then ((Sum.inl e.1 : Key), V.int z) else ((Sum.inl e.1 : Key), V.int e.2)) = kvI (if e.1 = k then (k, z) else e)
      by_cases q : e.1 = k
      · rw [if_pos (by rw [q]), if_pos q, q]
        rfl
      · rw [if_neg (fun w => q (Sum.inl.inj w)), if_neg q]
        rfl
    · intro w
      rw [List.map_eq_nil_iff.mp w] at h
      simp at h
    · intro e he
      obtain ⟨a, ha, rfl⟩ := List.mem_map.mp he
      by_cases q : a.1 = k
      · rw [if_pos q]
        exact .inr rfl
      · rw [if_neg q]
        exact .inl ha
    · intro nd
      have e : (ks.map fun e => if e.1 = k then (k, z) else e).map (·.1) = ks.map (·.1) := by
        rw [List.map_map]
        refine List.map_congr_left fun e _ => ?_
        show (if e.1 = k then (k, z) else e).1 = e.1
        by_cases q : e.1 = k
        · rw [if_pos q, q]
        · rw [if_neg q]
      rw [e]
      exact nd
  · rw [if_neg h]
    refine ⟨ks ++ [(k, z)], by rw [List.map_append]; rfl, by rw [List.length_append]; simp, by simp, fun e he => ?_, fun nd => ?_⟩
    · rcases List.mem_append.mp he with he | he
      · exact .inl he
      · exact .inr (List.mem_singleton.mp he)
    · rw [List.map_append]
      refine List.nodup_append.mpr ⟨nd, by simp, fun a ha b hb q => h ?_⟩
      have hb' : b = k := by simpa using hb
      obtain ⟨e, he, rfl⟩ := List.mem_map.mp ha
      refine List.any_eq_true.mpr ⟨kvI e, List.mem_map.mpr ⟨e, he, rfl⟩, decide_eq_true ?_⟩
      show (Sum.inl e.1 : Key) = Sum.inl k
      rw [q, hb']
theorem perm_zs {α : Type} {ps : List (Addr × α)} {ks : List α} (h : (ps.map (·.2)).Perm ks) : ∀ z ∈ ps, z.2 ∈ ks := fun z hz => h.mem_iff.mp (List.mem_map.mpr ⟨z, hz, rfl⟩)
theorem dpa_ps {K : PySem.W.Frag} {H : Hp} : ∀ ps : List (Addr × Int × Int), (∀ z ∈ ps, H z.1 = some (.tup [.int z.2.1, .int z.2.2])) → DpAll K H (ps.map fun z => V.ref z.1) ((ps.map (·.2)).map eE)
  | [], _ => .nil
  | z :: ps, h => .cons (mk_E (SqT.of (h z (List.mem_cons_self ..)))) (dpa_ps ps fun y hy => h y (List.mem_cons_of_mem _ hy))
def sp_l_large (K : PySem.W.Frag) : Sp := fun vs H Q _ => ∃ (p t : Addr) (ts : List Int) (n m : Int), vs = [.ref p, .int m] ∧ Tp H p t ts n ∧ n ≤ 2 ^ 37 ∧ 1 ≤ m ∧ m ≤ 20 ∧
  ∀ (v : V) (y : List (List Cho)) (H' : Hp), SysL m y → Dp K H' v (eY y) → Tp H' p t ts (n + 10000) → Fm p H H' → Q v H'
theorem sc_l_large : FnScope ["state", "many", "system", "k", "choices", "number", "ends", "j"] ["state", "many"] (defScope s_l_large) := ⟨rfl, rfl, rfl, by decide +kernel, rfl, by decide +kernel, by decide +kernel⟩
theorem ok_l_large {P : Program} {w : World} {K : PySem.W.Frag} {mg : Str → Option Value} {base : Heap} (T : Env K mg) : FnOk P w K mg base CX0 3 T.a_l_large T.d_l_large ["state", "many"] (sp_l_large K) := by
  refine T.F_l_large.ok sc_l_large (fun vs H Q E h => ?_) (fun cdv A outer s H vs Q E hr h => ?_)
  · obtain ⟨p, t, ts, n, m, rfl, _⟩ := h
    rfl
  · obtain ⟨p, t, ts, n, m, rfl, T0, hn, hm1, hm2, k⟩ := h
    have G_l_take := ok_l_take (P := P) (w := w) (base := base) T
    have hr_l_take : Room 2 _ := hr.mono (by decide)
    refine ⟨_, (pss_cons (ps_set (i := 2) sc_l_large.nd rfl (Or.inl rfl) (pe_lst pa_nil))
      (pss_cons (ps_for PassesOwn.never rfl (pi_range1 (by rfl) T.z_range (pa_cons (pv 1) pa_nil)) (pg_name (i := 3) sc_l_large.nd rfl (Or.inl rfl)) (pss_cons (ps_set (i := 4) sc_l_large.nd rfl (Or.inl rfl) (pe_lst pa_nil))
      (pss_cons (ps_for PassesOwn.never rfl (pi_range1 (by rfl) T.z_range (pa_cons (pe_ix ix_list (pe_lst (pa_cons pe_int (pa_cons pe_int (pa_cons pe_int pa_nil)))) (pe_call G_l_take hr_l_take (by rfl) T.g_l_take T.F_l_take.kp T.b_l_take .nil pass0 (pa_cons (pv 0) (pa_cons pe_int pa_nil))) (fun _ _ => rfl)) pa_nil)) (pg_name (i := 5) sc_l_large.nd rfl (Or.inl rfl)) (pss_cons (ps_set (i := 6) sc_l_large.nd rfl (Or.inl rfl) pe_dnewK)
      (pss_cons (ps_for PassesOwn.never rfl (pi_range1 (by rfl) T.z_range (pa_cons (pe_op op_add pe_int (pe_call G_l_take hr_l_take (by rfl) T.g_l_take T.F_l_take.kp T.b_l_take .nil pass0 (pa_cons (pv 0) (pa_cons pe_int pa_nil)))) pa_nil)) (pg_name (i := 7) sc_l_large.nd rfl (Or.inl rfl)) (pss_one (ps_dput (hu_of hr) (pv 6) (pe_call G_l_take hr_l_take (by rfl) T.g_l_take T.F_l_take.kp T.b_l_take .nil pass0 (pa_cons (pv 0) (pa_cons (pv 1) pa_nil))) (pe_ix ix_list (pe_lst (pa_cons pe_int (pa_cons pe_int (pa_cons pe_int (pa_cons pe_int (pa_cons pe_int pa_nil)))))) (pe_call G_l_take hr_l_take (by rfl) T.g_l_take T.F_l_take.kp T.b_l_take .nil pass0 (pa_cons (pv 0) (pa_cons pe_int pa_nil))) (fun _ _ => rfl)) rfl)))
      (pss_one (ps_expr (pe_bm PySem.F.plainAttrs_list PySem.F.slot_list_append PySem.F.type_list_append mt_append (pv 4) (pa_cons (pe_tup (pa_cons (pe_call G_l_take hr_l_take (by rfl) T.g_l_take T.F_l_take.kp T.b_l_take .nil pass0 (pa_cons (pv 0) (pa_cons pe_int pa_nil))) (pa_cons (pe_callTy call_tuple_of (by rfl) T.z_tuple (by decide +kernel) (pa_cons (pe_callB (cr_sortK rfl) (by rfl) T.z_sorted (by decide +kernel) (pa_cons (pe_bm0 PySem.F.plainAttrs_dict PySem.F.slot_dict_items PySem.F.type_dict_items mt_itemsK (pv 6)) pa_nil)) pa_nil)) pa_nil))) pa_nil)))))))
      (pss_one (ps_expr (pe_bm PySem.F.plainAttrs_list PySem.F.slot_list_append PySem.F.type_list_append mt_append (pv 2) (pa_cons (pe_callTy call_tuple_of (by rfl) T.z_tuple (by decide +kernel) (pa_cons (pv 4) pa_nil)) pa_nil)))))))
      (pss_one (ps_ret (pe_callTy call_tuple_of (by rfl) T.z_tuple (by decide +kernel) (pa_cons (pv 2) pa_nil)))))), ?_⟩
    walk_at "rd"
    refine ⟨by decide, fun S hS => ?_⟩
    walk_at "rd"
    obtain ⟨nSp, nSt⟩ := T0.fresh hS
    refine ⟨by omega, by omega, ?_⟩
    refine for_range (n := m.toNat) (fun j σ H2 => ∃ (a b c d e : Option V) (sts : List (List Cho)) (vs : List V), σ = [some (.ref p), some (.int m), some (.ref S), a, b, c, d, e] ∧ H2 S = some (.lst vs) ∧ DpAll K H2 vs (sts.map eS) ∧
        Tp H2 p t ts (n + 200 * j) ∧ Fm p H H2 ∧ (∀ s ∈ sts, StL m s) ∧ sts.length = j)
      ⟨_, _, _, _, _, [], [], rfl, upd_same, .nil, (T0.same (sm_new hS)).mono (by omega), fm_new hS, by simp, rfl⟩ ?_ ?_
    · rintro j σ H2 hj ⟨a, b, c, d, e, sts, vs, rfl, hS2, hD2, T2, F2, hst, hl⟩
      have hlv : vs.length ≤ 20 := by
        have := dpa_len hD2
        rw [List.length_map] at this
        omega
      walk_at "rd"
      refine ⟨by decide, fun C hC => ?_⟩
      walk_at "rd"
      obtain ⟨nCp, nCt⟩ := T2.fresh hC
      have nSC : S ≠ C := ne_of_none hS2 hC
      have hC0 : H C = none := F2.free nCp hC
      refine ⟨(by show 3 ≤ sizeLine; decide), fun q hq => ?_⟩
      walk_at "rd"
      have T2c := T2.same (sm_new hC (o := .lst []))
      have nqC : C ≠ q := ne_of_none upd_same hq
      refine ⟨p, t, ts, _, 3, rfl, T2c.same (sm_new hq), by omega, by decide, fun r3 H3 r30 r31 T3 e3 => ?_⟩
      have nqS : S ≠ q := by
        refine ne_of_none (H := upd H2 C (.lst [])) (o := .lst vs) ?_ hq
        rw [upd_ne nSC]
        exact hS2
      obtain ⟨nqp, _⟩ := T2c.fresh hq
      obtain ⟨z3, hz3, hpick⟩ := pick (K := K) (fun z => 1 ≤ z ∧ z ≤ 6) (zs := [1, 2, 6]) ((e3 q nqp).trans upd_same) rfl r30 r31 (by decide)
      refine hpick _ ?_
      walk_at "rd"
      refine ⟨by omega, by omega, ?_⟩
      have hS3 : H3 S = some (.lst vs) := by rw [e3 S nSp, upd_ne nqS, upd_ne nSC]; exact hS2
      have hC3 : H3 C = some (.lst []) := by rw [e3 C nCp, upd_ne nqC, upd_same]
      have k3 : Tk H2 H3 := (tk_new hC).trans ((tk_new hq).trans ((T2c.same (sm_new hq)).tk (fm_off e3)))
      have F3 : Fm p H H3 := F2.trans ((fm_new hC).trans ((fm_new hq).trans (fm_off e3)))
      refine for_range (n := z3.toNat) (fun i σ H4 => ∃ (b c d e : Option V) (cs : List Cho) (us : List V), σ = [some (.ref p), some (.int m), some (.ref S), some (.int (0 + j)), some (.ref C), b, c, d] ∧ H4 S = some (.lst vs) ∧ DpAll K H4 vs (sts.map eS) ∧
          H4 C = some (.lst us) ∧ DpAll K H4 us (cs.map eC) ∧ Tp H4 p t ts (n + 200 * j + 1 + 20 * i) ∧ Fm p H H4 ∧ (∀ c ∈ cs, ChoL m c) ∧ cs.length = i)
        ⟨_, _, _, none, [], [], rfl, hS3, dpa_tk k3 (tu_map _ tu_S) hD2, hC3, .nil, T3.mono (by omega), F3, by simp, rfl⟩ ?_ ?_
      · rintro i σ H4 hi ⟨b, c, d, e, cs, us, rfl, hS4, hD4, hC4, hU4, T4, F4, hcs, hcl⟩
        have hlu : us.length ≤ 20 := by
          have := dpa_len hU4
          rw [List.length_map] at this
          omega
        walk_at "rd"
        intro D hD
        walk_at "rd"
        obtain ⟨nDp, nDt⟩ := T4.fresh hD
        have nSD : S ≠ D := ne_of_none hS4 hD
        have nCD : C ≠ D := ne_of_none hC4 hD
        have hD0 : H D = none := F4.free nDp hD
        have T4d := T4.same (sm_new hD (o := .dK []))
        refine ⟨p, t, ts, _, 6, rfl, T4d, by omega, by decide, fun r5 H5 r50 r51 T5 e5 => ?_⟩
        walk_at "rd"
        refine ⟨by omega, by omega, ?_⟩
        have hS5 : H5 S = some (.lst vs) := by rw [e5 S nSp, upd_ne nSD]; exact hS4
        have hC5 : H5 C = some (.lst us) := by rw [e5 C nCp, upd_ne nCD]; exact hC4
        have hD5 : H5 D = some (.dK []) := by rw [e5 D nDp, upd_same]
        have k5 : Tk H4 H5 := (tk_new hD).trans (T4d.tk (fm_off e5))
        have F5 : Fm p H H5 := F4.trans ((fm_new hD).trans (fm_off e5))
        refine for_range (n := (1 + r5).toNat) (fun g σ H6 => ∃ (d : Option V) (ks : List (Int × Int)), σ = [some (.ref p), some (.int m), some (.ref S), some (.int (0 + j)), some (.ref C), some (.int (0 + i)), some (.ref D), d] ∧ H6 S = some (.lst vs) ∧ DpAll K H6 vs (sts.map eS) ∧
            H6 C = some (.lst us) ∧ DpAll K H6 us (cs.map eC) ∧ H6 D = some (.dK (ks.map kvI)) ∧ Tp H6 p t ts (n + 200 * j + 1 + 20 * i + 1 + 2 * g) ∧ Fm p H H6 ∧ ks.length ≤ g ∧ (0 < g → ks ≠ []) ∧ (∀ e ∈ ks, 0 ≤ e.1 ∧ e.1 < m ∧ 1 ≤ e.2 ∧ e.2 ≤ 1000) ∧ (ks.map (·.1)).Nodup)
          ⟨_, [], rfl, hS5, dpa_tk k5 (tu_map _ tu_S) hD4, hC5, dpa_tk k5 (tu_map _ tu_C) hU4, hD5, T5.mono (by omega), F5, by simp, by simp, by simp, .nil⟩ ?_ ?_
        · rintro g σ H6 hg ⟨d, ks, rfl, hS6, hD6, hC6, hU6, hK6, T6, F6, hkl, hk0, hkb, hkn⟩
          walk_at "rd"
          refine ⟨(by show 5 ≤ sizeLine; decide), fun q6 hq6 => ?_⟩
          walk_at "rd"
          refine ⟨p, t, ts, _, 5, rfl, T6.same (sm_new hq6), by omega, by decide, fun r7 H7 r70 r71 T7 e7 => ?_⟩
          obtain ⟨nq6p, _⟩ := T6.fresh hq6
          obtain ⟨z7, hz7, hpick7⟩ := pick (K := K) (fun z => 1 ≤ z ∧ z ≤ 1000) (zs := [1, 1, 2, 5, 1000]) ((e7 q6 nq6p).trans upd_same) rfl r70 r71 (by decide)
          refine hpick7 _ ?_
          walk_at "rd"
          refine ⟨p, t, ts, _, m, rfl, T7, by omega, by omega, fun r8 H8 r80 r81 T8 e8 => ?_⟩
          have hSq : S ≠ q6 := ne_of_none hS6 hq6
          have hCq : C ≠ q6 := ne_of_none hC6 hq6
          have hDq : D ≠ q6 := ne_of_none hK6 hq6
          have hS8 : H8 S = some (.lst vs) := by rw [e8 S nSp, e7 S nSp, upd_ne hSq]; exact hS6
          have hC8 : H8 C = some (.lst us) := by rw [e8 C nCp, e7 C nCp, upd_ne hCq]; exact hC6
          have hK8 : H8 D = some (.dK (ks.map kvI)) := by rw [e8 D nDp, e7 D nDp, upd_ne hDq]; exact hK6
          have k8 : Tk H6 H8 := (tk_new hq6).trans (((T6.same (sm_new hq6)).tk (fm_off e7)).trans (T7.tk (fm_off e8)))
          have F8 : Fm p H H8 := F6.trans ((fm_new hq6).trans ((fm_off e7).trans (fm_off e8)))
          obtain ⟨ks', ek, hkl', hk0', hkm, hkn'⟩ := put_I ks r8 z7
          refine ⟨D, _, rfl, DPut.k (k := Sum.inl r8) hK8 (by rw [List.length_map]; exact Nat.lt_of_le_of_lt (by omega : ks.length ≤ 100) (by decide)), ?_⟩
          rw [ek]
          have kd : Tk H8 (upd H8 D (.dK (ks'.map kvI))) := tk_dK hK8
          refine ⟨_, ks', rfl, by rw [upd_ne nSD]; exact hS8, dpa_tk (k8.trans kd) (tu_map _ tu_S) hD6, by rw [upd_ne nCD]; exact hC8, dpa_tk (k8.trans kd) (tu_map _ tu_C) hU6, upd_same, (T8.other ⟨nDp, nDt⟩).mono (by omega), F8.mut hD0, by omega, fun _ => hk0', fun e he => ?_, hkn' hkn⟩
          rcases hkm e he with q | q
          · exact hkb e q
          · rw [q]
            exact ⟨r80, r81, hz7⟩
        · rintro σ H6 ⟨d, ks, rfl, hS6, hD6, hC6, hU6, hK6, T6, F6, hkl, hk0, hkb, hkn⟩
          walk_at "rd"
          refine r_tyL (SqL.of hC6) ?_
          walk_at "rd"
          refine ⟨p, t, ts, _, 1001, rfl, T6, by omega, by decide, fun r7 H7 r70 r71 T7 e7 => ?_⟩
          walk_at "rd"
          have hK7 : H7 D = some (.dK (ks.map kvI)) := by rw [e7 D nDp]; exact hK6
          have hS7 : H7 S = some (.lst vs) := by rw [e7 S nSp]; exact hS6
          have hC7 : H7 C = some (.lst us) := by rw [e7 C nCp]; exact hC6
          refine r_tyD hK7 ?_
          refine ⟨D, _, rfl, rfl, hK7, fun V0 hV0 => ?_⟩
          walk_at "rd"
          refine ⟨V0, D, ks, rfl, upd_same, by rw [upd_ne (ne_of_none hK7 hV0)]; exact hK7, by omega, fun H8 L ps s8 hL0 hperm hL hps => ?_⟩
          walk_at "rd"
          refine ⟨L, _, rfl, .inl ⟨SqL.of hL, fun q9 hq9 => ?_⟩⟩
          walk_at "rd"
          refine ⟨(by show 2 ≤ sizeLine; decide), fun u hu => ?_⟩
          walk_at "rd"
          have s9 : Same H7 (upd (upd H8 q9 (.tup (ps.map fun z => V.ref z.1))) u (.tup [.int r7, .ref q9])) := (sm_new hV0).trans (s8.trans ((sm_new hq9).trans (sm_new hu)))
          have hC9 := s9 _ _ hC7
          refine r_app hC9 (by omega) ?_
          walk_at "rd"
          have nuq : q9 ≠ u := ne_of_none upd_same hu
          have kc := tk_lst hC9 (o := .lst (us ++ [.ref u]))
          have k9 : Tk H6 (upd (upd (upd H8 q9 (.tup (ps.map fun z => V.ref z.1))) u (.tup [.int r7, .ref q9])) C (.lst (us ++ [.ref u]))) := (T6.tk (fm_off e7)).trans ((Same_tk s9).trans kc)
          have nuC : C ≠ u := by
            refine ne_of_none (H := upd H8 q9 (.tup (ps.map fun z => V.ref z.1))) (o := .lst us) ?_ hu
            exact sm_new hq9 _ _ (s8 _ _ (sm_new hV0 _ _ hC7))
          refine ⟨_, _, _, none, cs ++ [(r7, ps.map (·.2))], us ++ [.ref u], rfl, by rw [upd_ne nSC]; exact s9 _ _ hS7, dpa_tk k9 (tu_map _ tu_S) hD6, upd_same, ?_, ((T7.same s9).other ⟨nCp, nCt⟩).mono (by omega), (F6.trans ((fm_off e7).trans (Same_fm s9))).mut hC0, ?_, by rw [List.length_append, hcl]; rfl⟩
          · rw [List.map_append]
            refine dpa_app (dpa_tk k9 (tu_map _ tu_C) hU6) (.cons (mk_C (v := .ref q9) (SqT.of ?_) (dp_tk ((tk_new hu).trans kc) (.tup (tu_map _ tu_E)) (.tup (SqT.of upd_same) (dpa_tk (tk_new hq9) (tu_map _ tu_E) (dpa_ps ps hps))))) .nil)
            rw [upd_ne nuC.symm, upd_same]
          · intro c hc
            rcases List.mem_append.mp hc with hc | hc
            · exact hcs c hc
            · rw [List.mem_singleton.mp hc]
              have hpl := hperm.length_eq
              rw [List.length_map] at hpl
              refine ⟨r70, by omega, ?_, by rw [List.length_map]; omega, fun e he => hkb e (hperm.mem_iff.mp he), ?_⟩
              · intro z
                have hz : ps = [] := List.map_eq_nil_iff.mp z
                rw [hz] at hpl
                exact hk0 (by omega) (List.length_eq_zero_iff.mp hpl.symm)
              · exact (hperm.map (·.1)).nodup_iff.mpr hkn
      · rintro σ H4 ⟨b, c, d, e, cs, us, rfl, hS4, hD4, hC4, hU4, T4, F4, hcs, hcl⟩
        walk_at "rd"
        refine r_tyL (SqL.of hS4) ?_
        walk_at "rd"
        refine ⟨C, _, rfl, .inl ⟨SqL.of hC4, fun q9 hq9 => ?_⟩⟩
        walk_at "rd"
        have nSq := ne_of_none hS4 hq9
        have hS5 : (upd H4 q9 (.tup us)) S = some (.lst vs) := by rw [upd_ne nSq]; exact hS4
        refine r_app hS5 (by omega) ?_
        walk_at "rd"
        have kS := tk_lst hS5 (o := .lst (vs ++ [.ref q9]))
        refine ⟨_, _, _, _, _, sts ++ [cs], vs ++ [.ref q9], rfl, upd_same, ?_, ((T4.same (sm_new hq9)).other ⟨nSp, nSt⟩).mono (by omega), (F4.trans (fm_new hq9)).mut hS, ?_, by rw [List.length_append, hl]; rfl⟩
        · rw [List.map_append]
          refine dpa_app (dpa_tk ((tk_new hq9).trans kS) (tu_map _ tu_S) hD4) (.cons (dp_tk kS (tu_S _) (.tup (SqT.of upd_same) (dpa_tk (tk_new hq9) (tu_map _ tu_C) hU4))) .nil)
        · intro s hs
          rcases List.mem_append.mp hs with hs | hs
          · exact hst s hs
          · rw [List.mem_singleton.mp hs]
            exact ⟨fun z => by rw [z] at hcl; simp at hcl; omega, by omega, hcs⟩
    · rintro σ H2 ⟨a, b, c, d, e, sts, vs, rfl, hS2, hD2, T2, F2, hst, hl⟩
      walk_at "rd"
      refine r_tupL (SqL.of hS2) fun q hq => ?_
      walk_at "rd"
      exact k _ sts _ ⟨by omega, hst⟩ (.tup (SqT.of upd_same) (dpa_tk (tk_new hq) (tu_map _ tu_S) hD2)) ((T2.same (sm_new hq)).mono (by omega)) (F2.trans (fm_new hq))
/-! ### the same over rationals -/
def sp_binq (K : PySem.W.Frag) (f : Rat → Rat → Rat) (ok : Rat → Rat → Prop) : Sp := fun vs H Q _ => ∃ (a b : Addr) (q r : Rat), vs = [.ref a, .ref b] ∧ SqT K H a (Fq q) ∧ SqT K H b (Fq r) ∧ Bq 3900 q ∧ Bq 3900 r ∧ ok q r ∧
  ∀ (p : Addr) (H' : Hp), Same H H' → H p = none → H' p = some (.tup (Fq (f q r))) → Q (.ref p) H'
theorem okq_plus {P : Program} {w : World} {K : PySem.W.Frag} {mg : Str → Option Value} {base : Heap} (T : Env K mg) : FnOk P w K mg base CX0 2 T.a_plus T.d_plus ["a", "b"] (sp_binq K (· + ·) fun _ _ => True) :=
  (ok_plus T).imp fun vs H Q E h => by
    obtain ⟨a, b, q, r, rfl, hA, hB, ⟨b1, b2⟩, ⟨b3, b4⟩, _, k⟩ := h
    have nz := Int.mul_ne_zero (den_ne q) (den_ne r)
    exact ⟨a, b, _, _, _, _, rfl, hA, hB, ⟨b1, b2, b3, b4⟩, nz, fun p H' s hp e => k p H' s hp (by rw [e, fq_ratio nz, q_plus])⟩
theorem small_pow {x : Int} (b : Nat) (h : x.natAbs ≤ 10 ^ 18) (l : 60 ≤ b := by decide) : x.natAbs < 2 ^ b :=
  Nat.lt_of_lt_of_le (Nat.lt_of_le_of_lt h (by decide : 10 ^ 18 < 2 ^ 60)) (Nat.pow_le_pow_right (by decide) l)
theorem bq_small {n d : Int} (b : Nat) (hd : d ≠ 0) (h1 : n.natAbs ≤ 10 ^ 18) (h2 : d.natAbs ≤ 10 ^ 18) (l : 60 ≤ b := by decide) : Bq b (Rat.divInt n d) := by
  refine ⟨?_, ?_⟩
  · rw [← rN_rat hd]
    exact small_pow b (Nat.le_trans (rN_le hd) h1) l
  · rw [← rD_rat hd]
    exact small_pow b (Nat.le_trans (rD_le hd) h2) l
theorem divInt_add {a b d : Int} (h : d ≠ 0) : Rat.divInt a d + Rat.divInt b d = Rat.divInt (a + b) d := by
  have hd : (d : Rat) ≠ 0 := fun z => h (by exact_mod_cast z)
  rw [divInt_eq, divInt_eq, divInt_eq, Rat.intCast_add]
  grind
/-! ### moves of a choice -/
def wsum (es : List (Int × Int)) : Int := (es.map (·.2)).sum
def eQ (q : Rat) : PyData := .tuple [.int q.num, .int (q.den : Int)]
theorem tu_Q (q : Rat) : Tu (eQ q) := tu_two (.int _) (.int _)
def eM (W : Int) (e : Int × Int) : PyData := .tuple [.int e.1, eQ (Rat.divInt e.2 W)]
theorem tu_M (W : Int) (e : Int × Int) : Tu (eM W e) := tu_two (.int _) (tu_Q _)
/-- a choice's ends, as far as the moves need it -/
def EndsW (es : List (Int × Int)) : Prop := es ≠ [] ∧ es.length ≤ 20 ∧ ∀ e ∈ es, 1 ≤ e.2 ∧ e.2 ≤ 1000
theorem sum_bd : ∀ (l : List Int), (∀ x ∈ l, 1 ≤ x ∧ x ≤ 1000) → (l.length : Int) ≤ l.sum ∧ l.sum ≤ 1000 * l.length
  | [], _ => by simp
  | x :: l, h => by
    have h1 := h x (List.mem_cons_self ..)
    have h2 := sum_bd l fun y hy => h y (List.mem_cons_of_mem _ hy)
    rw [List.sum_cons, List.length_cons]
    omega
theorem EndsW.sum {es : List (Int × Int)} (h : EndsW es) : 1 ≤ wsum es ∧ wsum es ≤ 20000 := by
  obtain ⟨h1, h2, h3⟩ := h
  have := sum_bd (es.map (·.2)) fun x hx => by
    obtain ⟨e, he, rfl⟩ := List.mem_map.mp hx
    exact h3 e he
  rw [List.length_map] at this
  have hp : 0 < es.length := List.length_pos_iff.mpr h1
  unfold wsum
  omega
theorem fq_dp {K : PySem.W.Frag} {H : Hp} {a : Addr} {q : Rat} (h : SqT K H a (Fq q)) : Dp K H (.ref a) (eQ q) := .tup h (.cons (.int _) (.cons (.int _) .nil))
theorem dp_Q {K : PySem.W.Frag} {H : Hp} {v : V} {q : Rat} (h : Dp K H v (eQ q)) : ∃ a, v = .ref a ∧ SqT K H a (Fq q) := by
  obtain ⟨a, xs, rfl, s, d⟩ := dp_tup h
  cases d with
  | cons h1 d =>
    cases d with
    | cons h2 d =>
      cases d
      rw [dp_int h1, dp_int h2] at s
      exact ⟨a, rfl, s⟩
theorem take_app {α : Type} {l : List α} {i : Nat} {a : α} (h : l[i]? = some a) : l.take (i + 1) = l.take i ++ [a] := by
  rw [List.take_add_one, h]
  rfl
def sp_moves (K : PySem.W.Frag) : Sp := fun vs H Q _ => ∃ (x : V) (s c : Nat) (y : List (List Cho)) (st : List Cho) (ch : Cho), vs = [x, .int (s : Int), .int (c : Int)] ∧ Dp K H x (eY y) ∧ y[s]? = some st ∧ st[c]? = some ch ∧ EndsW ch.2 ∧
  ∀ (p : Addr) (H' : Hp), Same H H' → H p = none → Dp K H' (.ref p) (.list (ch.2.map (eM (wsum ch.2)))) → Q (.ref p) H'
theorem sc_moves : FnScope ["system", "state", "choice", "total", "_", "ends", "end", "weight"] ["system", "state", "choice"] (defScope s_moves) := ⟨rfl, rfl, rfl, by decide +kernel, rfl, by decide +kernel, by decide +kernel⟩
theorem ok_moves {P : Program} {w : World} {K : PySem.W.Frag} {mg : Str → Option Value} {base : Heap} (T : Env K mg) : FnOk P w K mg base CX0 2 T.a_moves T.d_moves ["system", "state", "choice"] (sp_moves K) := by
  refine T.F_moves.ok sc_moves (fun vs H Q E h => ?_) (fun cdv A outer s H vs Q E hr h => ?_)
  · obtain ⟨x, s, c, y, st, ch, rfl, _⟩ := h
    rfl
  · obtain ⟨x, s, c, y, st, ch, rfl, hx, hy, hst, hw, k⟩ := h
    have G_ratio := ok_ratio (P := P) (w := w) (base := base) T
    have hr_ratio : Room 1 _ := hr.mono (by decide)
    refine ⟨_, (pss_cons (ps_asg (pe_ix ix_tup (pe_ix ix_tup (pv 0) (pv 1) (fun _ _ => rfl)) (pv 2) (fun _ _ => rfl)) (pg_tup (by rfl) (pgs_cons (pg_name (i := 4) sc_moves.nd rfl (Or.inl rfl)) (pgs_cons (pg_name (i := 5) sc_moves.nd rfl (Or.inl rfl)) pgs_nil))))
      (pss_cons (ps_set (i := 3) sc_moves.nd rfl (Or.inr rfl) (pe_callB (cr_sum rfl) (by rfl) T.z_sum (by decide +kernel) (pa_cons (pe_lc (own := [("end", 6), ("weight", 7)]) (g := gTup K 2 (gCons (gName 6) (gCons (gName 7) gNil))) (by rfl) sc_moves.nd (pi_tup (pv 5)) (blkOk_by (own := [("end", 6), ("weight", 7)]) (N := ["system", "state", "choice", "total", "_", "ends", "end", "weight"]) (sc := defScope s_moves) (by decide +kernel)) (fun _ _ _ _ _ => (pg_tup (by rfl) (pgs_cons (pg_name (i := 6) sc_moves.nd rfl (Or.inl rfl)) (pgs_cons (pg_name (i := 7) sc_moves.nd rfl (Or.inl rfl)) pgs_nil)))) (fun _ _ _ _ _ => pts_nil) (fun _ _ _ _ _ => (pv 7))) pa_nil)))
      (pss_one (ps_ret (pe_lc (own := [("end", 6), ("weight", 7)]) (g := gTup K 2 (gCons (gName 6) (gCons (gName 7) gNil))) (by rfl) sc_moves.nd (pi_tup (pv 5)) (blkOk_by (own := [("end", 6), ("weight", 7)]) (N := ["system", "state", "choice", "total", "_", "ends", "end", "weight"]) (sc := defScope s_moves) (by decide +kernel)) (fun _ _ _ _ _ => (pg_tup (by rfl) (pgs_cons (pg_name (i := 6) sc_moves.nd rfl (Or.inl rfl)) (pgs_cons (pg_name (i := 7) sc_moves.nd rfl (Or.inl rfl)) pgs_nil)))) (fun _ _ _ _ _ => pts_nil) (fun _ _ _ _ _ => (pe_tup (pa_cons (pv 6) (pa_cons (pe_call G_ratio hr_ratio (by rfl) T.g_ratio T.F_ratio.kp T.b_ratio .nil pass0 (pa_cons (pv 7) (pa_cons (pv 3) pa_nil))) pa_nil))))))))), ?_⟩
    obtain ⟨ay, ys, rfl, sy, dy⟩ := dp_tup hx
    obtain ⟨vst, h1, h2⟩ := dpa_of dy hy
    obtain ⟨ast, yst, rfl, sst, dst⟩ := dp_tup h2
    obtain ⟨vch, h3, h4⟩ := dpa_of dst hst
    obtain ⟨ach, ae, ves, rfl, sch, se, de⟩ := dp_C h4
    have hlv : ves.length ≤ 20 := by
      have := dpa_len de
      rw [List.length_map] at this
      have := hw.2.1
      omega
    obtain ⟨W1, W2⟩ := hw.sum
    walk_at "rd"
    refine r_ixT sy (at_of rfl h1) ?_
    walk_at "rd"
    refine r_ixT sst (at_of rfl h3) ?_
    refine r_gtup2 sch ?_
    walk_at "rd"
    unfold tLc
    walk_at "rd"
    refine ⟨_, rfl, ⟨_, se⟩, fun D hD => lc_tup (K := K) (a := ae) (xs := ves) (fun i H' => Same H H' ∧ H' D = some (.lst ((ch.2.take i).map fun e => V.int e.2)))
      ⟨sm_new hD, upd_same⟩ (fun i H' _ h => sm_t h.1 se) ?_ ?_⟩
    · rintro i v H' hi ⟨s1, hL⟩
      obtain ⟨e, he, hv⟩ := dpa_at de hi
      obtain ⟨a, rfl, sa⟩ := dp_E hv
      refine r_gtup2 (sm_t s1 sa) ?_
      refine ⟨rfl, ?_⟩
      refine r_yes ?_
      walk_at "rd"
      refine ⟨_, hL, ?_, same_mut s1 hD, ?_⟩
      · rw [List.length_map, List.length_take]
        have := hw.2.1
        have : sizeLine = 16777216 := sizeLine_eq
        omega
      · rw [upd_same, take_app he, List.map_append]
        rfl
    · rintro H' ⟨s1, hL⟩
      walk_at "rd"
      have hlen : ves.length = ch.2.length := by
        have := dpa_len de
        rw [List.length_map] at this
        exact this
      rw [hlen, List.take_length] at hL
      refine ⟨D, ch.2.map (·.2), rfl, SqL.of (by rw [hL, List.map_map]; rfl), ?_⟩
      walk_at "rd"
      have s2 := s1
      refine ⟨_, rfl, ⟨_, sm_t s1 se⟩, fun D2 hD2 => lc_tup (K := K) (a := ae) (xs := ves) (fun i H2 => Same H' H2 ∧ ∃ vs : List V, H2 D2 = some (.lst vs) ∧ DpAll K H2 vs ((ch.2.take i).map (eM (wsum ch.2))))
        ⟨sm_new hD2, [], upd_same, .nil⟩ (fun i H2 _ h => sm_t h.1 (sm_t s1 se)) ?_ ?_⟩
      · rintro i v H2 hi ⟨s3, vs, hL2, hd2⟩
        obtain ⟨e, he, hv⟩ := dpa_at de hi
        obtain ⟨a, rfl, sa⟩ := dp_E hv
        refine r_gtup2 (sm_t s3 (sm_t s1 sa)) ?_
        refine ⟨rfl, ?_⟩
        refine r_yes ?_
        walk_at "rd"
        have hWn : (ch.2.map (·.2)).sum ≠ 0 := by
          have : (ch.2.map (·.2)).sum = wsum ch.2 := rfl
          omega
        refine ⟨e.2, _, rfl, hWn, ?_, fun q H3 s4 hq0 hq => ?_⟩
        · have : (ch.2.map (·.2)).sum = wsum ch.2 := rfl
          rw [this]
          refine Nat.lt_of_le_of_lt (by omega : _ ≤ 20000) (Nat.lt_of_lt_of_le (by decide : 20000 < 2 ^ 15) (Nat.pow_le_pow_right (by decide) (by decide)))
        walk_at "rd"
        refine ⟨(by show 2 ≤ sizeLine; decide), fun u hu => ?_⟩
        have hL3 := s4 _ _ hL2
        have nuD : D2 ≠ u := ne_of_none hL3 hu
        have hlvs : vs.length ≤ 20 := by
          have := dpa_len hd2
          rw [List.length_map, List.length_take] at this
          have := hw.2.1
          omega
        have hL4 : (upd H3 u (.tup [.int e.1, .ref q])) D2 = some (.lst vs) := by rw [upd_ne nuD]; exact hL3
        refine ⟨vs, hL4, Nat.lt_of_le_of_lt hlvs (by decide), ?_, vs ++ [.ref u], upd_same, ?_⟩
        · exact same_mut (s3.trans (s4.trans (sm_new hu))) hD2
        · rw [take_app he, List.map_append]
          have tk4 : Tk H3 (upd (upd H3 u (.tup [.int e.1, .ref q])) D2 (.lst (vs ++ [.ref u]))) := (tk_new hu).trans (tk_lst hL4)
          refine dpa_app (dpa_tk ((Same_tk s4).trans tk4) (tu_map _ (tu_M _)) hd2) (.cons (.tup (xs := [.int e.1, .ref q]) (SqT.of ?_) (.cons (.int _) (.cons (fq_dp ?_) .nil))) .nil)
          · rw [upd_ne nuD.symm, upd_same]
          · have hq' : SqT K H3 q (Fq (Rat.divInt e.2 (wsum ch.2))) := SqT.of (by rw [hq, fq_ratio hWn]; rfl)
            exact tk_t tk4 hq'
      · rintro H2 ⟨s3, vs, hL2, hd2⟩
        walk_at "rd"
        rw [hlen, List.take_length] at hd2
        exact k D2 H2 (s1.trans s3) (s1.free hD2) (.lst (SqL.of hL2) hd2)
def sp_law (K : PySem.W.Frag) : Sp := fun vs H Q _ => ∃ (a : Addr) (ns : List Int), vs = [.ref a] ∧ SqL K H a (ns.map V.int) ∧ ns.length ≤ 63 ∧ ∀ H', Q (.bl true) H'
/-- what the law's system is, drawn either way -/
def SysG (y : List (List Cho)) : Prop := y.length ≤ 20 ∧ ∀ s ∈ y, s.length ≤ 6 ∧ ∀ c ∈ s, EndsW c.2
theorem sysG_of {y : List (List Cho)} (h : SysOk 5 y) : SysG y := by
  obtain ⟨_, h2, h3⟩ := h
  refine ⟨by omega, fun s hs => ⟨by have := (h3 s hs).2.1; omega, fun c hc => ?_⟩⟩
  obtain ⟨_, _, e1, e2, e3, _⟩ := (h3 s hs).2.2 c hc
  exact ⟨e1, by omega, fun e he => (e3 e he).2.2⟩
theorem sysG_large {m : Int} {y : List (List Cho)} (hm : m ≤ 20) (h : SysL m y) : SysG y := by
  obtain ⟨h2, h3⟩ := h
  refine ⟨by omega, fun s hs => ⟨(h3 s hs).2.1, fun c hc => ?_⟩⟩
  obtain ⟨_, _, e1, e2, e3, _⟩ := (h3 s hs).2.2 c hc
  exact ⟨e1, by omega, fun e he => (e3 e he).2.2⟩
theorem r_neD_same {K : PySem.W.Frag} {H : Hp} {Q : VK} {x y : V} {d : PyData} (h1 : Dp K H x d) (h2 : Dp K H y d) (s : SeqAt.shaped d = true) (c : d.canLay0 = true) (k : Q (.bl false) H) : rNeD K x y H Q :=
  ⟨d, d, h1, h2, s, s, by rw [SeqAt.eqv_refl _ c]; exact k⟩
theorem dn_M (n : Nat) (W : Int) (e : Int × Int) : Dn (n + 2) (eM W e) := .tup (by show 2 ≤ 100000; decide) fun d hd => by
  rcases List.mem_cons.mp hd with rfl | hd
  · exact .int _ _
  · rcases List.mem_cons.mp hd with rfl | hd
    · exact fr_dn _ _ _
    · cases hd
theorem dp_M {K : PySem.W.Frag} {H : Hp} {v : V} {W : Int} {e : Int × Int} (h : Dp K H v (eM W e)) : ∃ a b, v = .ref a ∧ SqT K H a [.int e.1, .ref b] ∧ SqT K H b (Fq (Rat.divInt e.2 W)) := by
  obtain ⟨a, xs, rfl, s, d⟩ := dp_tup h
  cases d with
  | cons h1 d =>
    cases d with
    | cons h2 d =>
      cases d
      obtain ⟨b, rfl, s2⟩ := dp_Q h2
      rw [dp_int h1] at s
      exact ⟨a, b, rfl, s, s2⟩
theorem dp_lst {K : PySem.W.Frag} {H : Hp} {v : V} {ds : List PyData} (h : Dp K H v (.list ds)) : ∃ a xs, v = .ref a ∧ SqL K H a xs ∧ DpAll K H xs ds := by
  cases h with
  | lst s a => exact ⟨_, _, rfl, s, a⟩
theorem sc_law : FnScope ["script", "state", "system", "at", "number", "ends", "whole", "told", "total", "end", "chance"] ["script"] (defScope s_law) := ⟨rfl, rfl, rfl, by decide +kernel, rfl, by decide +kernel, by decide +kernel⟩
theorem ok_law {P : Program} {w : World} {K : PySem.W.Frag} {mg : Str → Option Value} {base : Heap} (T : Env K mg) : FnOk P w K mg base CX0 6 T.a_law T.d_law ["script"] (sp_law K) := by
  refine T.F_law.ok sc_law (fun vs H Q E h => ?_) (fun cdv A outer s H vs Q E hr h => ?_)
  · obtain ⟨a, ns, rfl, _⟩ := h
    rfl
  · obtain ⟨a, ns, rfl, hS, hlen, k⟩ := h
    have G_l_system := ok_l_system (P := P) (w := w) (base := base) T
    have hr_l_system : Room 5 _ := hr.mono (by decide)
    have G_l_tape := ok_l_tape (P := P) (w := w) (base := base) T
    have hr_l_tape : Room 1 _ := hr.mono (by decide)
    have G_l_take := ok_l_take (P := P) (w := w) (base := base) T
    have hr_l_take : Room 2 _ := hr.mono (by decide)
    have G_l_large := ok_l_large (P := P) (w := w) (base := base) T
    have hr_l_large : Room 3 _ := hr.mono (by decide)
    have G_moves := ok_moves (P := P) (w := w) (base := base) T
    have hr_moves : Room 2 _ := hr.mono (by decide)
    have G_l_equal := ok_l_equal (P := P) (w := w) (base := base) T
    have hr_l_equal : Room 5 _ := hr.mono (by decide)
    have G_plus := ok_plus (P := P) (w := w) (base := base) T
    have hr_plus : Room 2 _ := hr.mono (by decide)
    have G_l_ratio := ok_l_ratio (P := P) (w := w) (base := base) T
    have hr_l_ratio : Room 1 _ := hr.mono (by decide)
    replace G_plus := okq_plus (P := P) (w := w) (base := base) T
    refine ⟨_, (pss_cons (ps_set (i := 1) sc_law.nd rfl (Or.inl rfl) (pe_lst (pa_cons (pe_call G_l_tape hr_l_tape (by rfl) T.g_l_tape T.F_l_tape.kp T.b_l_tape .nil pass0 (pa_cons (pv 0) pa_nil)) (pa_cons pe_int pa_nil))))
      (pss_cons (ps_set (i := 2) sc_law.nd rfl (Or.inl rfl) (pe_call G_l_system hr_l_system (by rfl) T.g_l_system T.F_l_system.kp T.b_l_system .nil pass0 (pa_cons (pv 1) (pa_cons pe_int pa_nil))))
      (C8.pss_cut (ps_if (pt_cmpR op_eq (pe_call G_l_take hr_l_take (by rfl) T.g_l_take T.F_l_take.kp T.b_l_take .nil pass0 (pa_cons (pv 1) (pa_cons pe_int pa_nil))) pe_int (nomark _)) (pss_one (ps_set (i := 2) sc_law.nd rfl (Or.inl rfl) (pe_call G_l_large hr_l_large (by rfl) T.g_l_large T.F_l_large.kp T.b_l_large .nil pass0 (pa_cons (pv 1) (pa_cons (pe_op op_add pe_int (pe_call G_l_take hr_l_take (by rfl) T.g_l_take T.F_l_take.kp T.b_l_take .nil pass0 (pa_cons (pv 1) (pa_cons pe_int pa_nil)))) pa_nil))))) pss_nil)
      (pss_cons (ps_for PassesOwn.never rfl (pi_range1 (by rfl) T.z_range (pa_cons (pe_callB call_len_seq (by rfl) T.z_len (by decide +kernel) (pa_cons (pv 2) pa_nil)) pa_nil)) (pg_name (i := 3) sc_law.nd rfl (Or.inl rfl)) (pss_one (ps_for PassesOwn.never rfl (pi_range1 (by rfl) T.z_range (pa_cons (pe_callB call_len_seq (by rfl) T.z_len (by decide +kernel) (pa_cons (pe_ix ix_tup (pv 2) (pv 3) (fun _ _ => rfl)) pa_nil)) pa_nil)) (pg_name (i := 4) sc_law.nd rfl (Or.inl rfl)) (pss_cons (ps_set (i := 5) sc_law.nd rfl (Or.inl rfl) (pe_ix ix_tup (pe_ix ix_tup (pe_ix ix_tup (pv 2) (pv 3) (fun _ _ => rfl)) (pv 4) (fun _ _ => rfl)) pe_int (fun _ _ => rfl)))
      (pss_cons (ps_set (i := 6) sc_law.nd rfl (Or.inr rfl) (pe_callB (cr_sum rfl) (by rfl) T.z_sum (by decide +kernel) (pa_cons (pe_lc (own := [("end", 9)]) (g := gName 9) (by rfl) sc_law.nd (pi_tup (pv 5)) (blkOk_by (own := [("end", 9)]) (N := ["script", "state", "system", "at", "number", "ends", "whole", "told", "total", "end", "chance"]) (sc := defScope s_law) (by decide +kernel)) (fun _ _ _ _ _ => (pg_name (i := 9) sc_law.nd rfl (Or.inl rfl))) (fun _ _ _ _ _ => pts_nil) (fun _ _ _ _ _ => (pe_ix (ixT K) (pv 9) pe_int (fun _ _ => rfl)))) pa_nil)))
      (pss_cons (ps_set (i := 7) sc_law.nd rfl (Or.inl rfl) (pe_call G_moves hr_moves (by rfl) T.g_moves T.F_moves.kp T.b_moves .nil pass0 (pa_cons (pv 2) (pa_cons (pv 3) (pa_cons (pv 4) pa_nil)))))
      (pss_cons (ps_if (pt_not (pt_val (pe_call G_l_equal hr_l_equal (by rfl) T.g_l_equal T.F_l_equal.kp T.b_l_equal .nil pass0 (pa_cons (pv 7) (pa_cons (pe_lc (own := [("end", 9)]) (g := gName 9) (by rfl) sc_law.nd (pi_tup (pv 5)) (blkOk_by (own := [("end", 9)]) (N := ["script", "state", "system", "at", "number", "ends", "whole", "told", "total", "end", "chance"]) (sc := defScope s_law) (by decide +kernel)) (fun _ _ _ _ _ => (pg_name (i := 9) sc_law.nd rfl (Or.inl rfl))) (fun _ _ _ _ _ => pts_nil) (fun _ _ _ _ _ => (pe_tup (pa_cons (pe_ix (ixT K) (pv 9) pe_int (fun _ _ => rfl)) (pa_cons (pe_call G_l_ratio hr_l_ratio (by rfl) T.g_l_ratio T.F_l_ratio.kp T.b_l_ratio .nil pass0 (pa_cons (pe_ix (ixT K) (pv 9) pe_int (fun _ _ => rfl)) (pa_cons (pv 6) pa_nil))) pa_nil))))) pa_nil))))) (pss_one (ps_ret pe_bl)) pss_nil)
      (pss_cons (ps_set (i := 8) sc_law.nd rfl (Or.inl rfl) (pe_tup (pa_cons pe_int (pa_cons pe_int pa_nil))))
      (pss_cons (ps_for PassesOwn.never rfl (pi_list (pv 7)) (pg_tup (by rfl) (pgs_cons (pg_name (i := 9) sc_law.nd rfl (Or.inl rfl)) (pgs_cons (pg_name (i := 10) sc_law.nd rfl (Or.inl rfl)) pgs_nil))) (pss_one (ps_set (i := 8) sc_law.nd rfl (Or.inl rfl) (pe_call G_plus hr_plus (by rfl) T.g_plus T.F_plus.kp T.b_plus .nil pass0 (pa_cons (pv 8) (pa_cons (pv 10) pa_nil))))))
      (pss_one (ps_if (pt_cmpR (op_neD hr.units) (pv 8) (pe_tup (pa_cons pe_int (pa_cons pe_int pa_nil))) (nomark _)) (pss_one (ps_ret pe_bl)) pss_nil)))))))))))
      (pss_one (ps_ret pe_bl)))))), ?_⟩
    walk_at "rd"
    refine ⟨a, ns, rfl, hS, hlen, fun t ts H1 s1 ht0 ht ok => ?_⟩
    walk_at "rd"
    refine ⟨(by show 2 ≤ sizeLine; decide), fun p hp => ?_⟩
    walk_at "rd"
    have ntp : t ≠ p := ne_of_none ht hp
    have T0 : Tp (upd H1 p (.lst [.ref t, .int 0])) p t ts 0 := ⟨⟨0, upd_same, by decide, by decide⟩, by rw [upd_ne ntp]; exact ht, ntp, ok⟩
    refine ⟨p, t, ts, 0, 5, rfl, T0, by omega, by omega, by omega, fun v y H2 hy hv T2 F2 => ?_⟩
    walk_at "rd"
    refine r_cut (fun σ' H3 => ∃ (v : V) (y : List (List Cho)), σ' = [some (.ref a), some (.ref p), some v, none, none, none, none, none, none, none, none] ∧ Dp K H3 v (eY y) ∧ SysG y) ?_ ?_
    · walk_at "rd"
      refine ⟨p, t, ts, _, 6, rfl, T2, by omega, by decide, fun r H3 r0 r1 T3 e3 => ?_⟩
      walk_at "rd"
      refine r_if (fun c => ?_) (fun c => ?_)
      · walk_at "rd"
        refine ⟨p, t, ts, _, 13, rfl, T3, by omega, by decide, fun r4 H4 r40 r41 T4 e4 => ?_⟩
        walk_at "rd"
        refine ⟨p, t, ts, _, 8 + r4, rfl, T4, by omega, by omega, by omega, fun v5 y5 H5 hy5 hv5 T5 F5 => ?_⟩
        walk_at "rd"
        exact ⟨v5, y5, rfl, hv5, sysG_large (by omega) hy5⟩
      · walk_at "rd"
        exact ⟨v, y, rfl, dp_tk (T2.tk (fm_off e3)) (tu_Y _) hv, sysG_of hy⟩
    · rintro σ' H3 ⟨v, y, rfl, hv, hy⟩
      obtain ⟨ay, ys, rfl, sy, dy⟩ := dp_tup hv
      have ly : ys.length = y.length := by
        have := dpa_len dy
        rw [List.length_map] at this
        exact this
      have ly20 := hy.1
      walk_at "rd"
      refine ⟨ay, ys, rfl, .inr sy, ?_⟩
      walk_at "rd"
      refine ⟨by omega, by omega, ?_⟩
      unfold tLc
      refine for_range (n := ys.length) (fun i σ H4 => ∃ (b c d e f g h j : Option V), σ = [some (.ref a), some (.ref p), some (.ref ay), b, c, d, e, f, g, h, j] ∧ Same H3 H4) ⟨_, _, _, _, _, _, _, _, rfl, Same.refl _⟩ ?_ ?_
      · rintro i σ H4 hi ⟨b, c, d, e, f, g, h, j, rfl, s4⟩
        walk_at "rd"
        obtain ⟨vst, hvst⟩ : ∃ v, ys[i]? = some v := ⟨_, List.getElem?_eq_getElem hi⟩
        obtain ⟨st, hst, dst0⟩ := dpa_at dy hvst
        obtain ⟨ast, yst, rfl, sst, dst⟩ := dp_tup dst0
        have lst : yst.length = st.length := by
          have := dpa_len dst
          rw [List.length_map] at this
          exact this
        obtain ⟨lst6, hch⟩ := hy.2 st (List.mem_of_getElem? hst)
        refine r_ixT (sm_t s4 sy) (at_of (j := i) (by omega) hvst) ?_
        walk_at "rd"
        refine ⟨ast, yst, rfl, .inr (sm_t s4 sst), ?_⟩
        walk_at "rd"
        refine ⟨by omega, by omega, ?_⟩
        refine for_range (n := yst.length) (fun m σ H5 => ∃ (c d e f g h j : Option V), σ = [some (.ref a), some (.ref p), some (.ref ay), some (.int (0 + i)), c, d, e, f, g, h, j] ∧ Same H3 H5) ⟨_, _, _, _, _, _, _, rfl, s4⟩ ?_ ?_
        · rintro m σ H5 hm ⟨c, d, e, f, g, h, j, rfl, s5⟩
          obtain ⟨vch, hvch⟩ : ∃ v, yst[m]? = some v := ⟨_, List.getElem?_eq_getElem hm⟩
          obtain ⟨ch, hch1, dch⟩ := dpa_at dst hvch
          obtain ⟨ach, ae, ves, rfl, sch, se, de⟩ := dp_C dch
          have hw := hch ch (List.mem_of_getElem? hch1)
          obtain ⟨W1, W2⟩ := hw.sum
          have lve : ves.length = ch.2.length := by
            have := dpa_len de
            rw [List.length_map] at this
            exact this
          have lve20 := hw.2.1
          walk_at "rd"
          refine r_ixT (sm_t s5 sy) (at_of (j := i) (by omega) hvst) ?_
          walk_at "rd"
          refine r_ixT (sm_t s5 sst) (at_of (j := m) (by omega) hvch) ?_
          walk_at "rd"
          refine r_ixT (sm_t s5 sch) (v := .ref ae) rfl ?_
          walk_at "rd"
          refine ⟨_, rfl, ⟨_, sm_t s5 se⟩, fun D hD => lc_tup (K := K) (a := ae) (xs := ves) (fun i H' => Same H5 H' ∧ H' D = some (.lst ((ch.2.take i).map fun e => V.int e.2)))
            ⟨sm_new hD, upd_same⟩ (fun i H' _ h => sm_t h.1 (sm_t s5 se)) ?_ ?_⟩
          · rintro l v H' hl ⟨s6, hL⟩
            obtain ⟨e, he, hv⟩ := dpa_at de hl
            obtain ⟨a, rfl, sa⟩ := dp_E hv
            walk_at "rd"
            refine ⟨rfl, ?_⟩
            refine r_yes ?_
            walk_at "rd"
            refine r_ixT (sm_t s6 (sm_t s5 sa)) (v := .int e.2) rfl ?_
            refine ⟨_, hL, ?_, same_mut s6 hD, ?_⟩
            · rw [List.length_map, List.length_take]
              have : sizeLine = 16777216 := sizeLine_eq
              omega
            · rw [upd_same, take_app he, List.map_append]
              rfl
          · rintro H6 ⟨s6, hL⟩
            rw [lve, List.take_length] at hL
            walk_at "rd"
            refine ⟨D, ch.2.map (·.2), rfl, SqL.of (by rw [hL, List.map_map]; rfl), ?_⟩
            have eW : (ch.2.map (·.2)).sum = wsum ch.2 := rfl
            rw [eW]
            have s36 := s5.trans s6
            walk_at "rd"
            refine ⟨.ref ay, i, m, y, st, ch, by rw [Int.zero_add, Int.zero_add]; rfl, dp_mono s36 hv, hst, hch1, hw, fun q H7 s7 hq0 hq => ?_⟩
            walk_at "rd"
            have s37 := s36.trans s7
            have hWn : wsum ch.2 ≠ 0 := by omega
            refine ⟨_, rfl, ⟨_, sm_t s37 se⟩, fun D2 hD2 => lc_tup (K := K) (a := ae) (xs := ves) (fun i H8 => Same H7 H8 ∧ ∃ vs : List V, H8 D2 = some (.lst vs) ∧ DpAll K H8 vs ((ch.2.take i).map (eM (wsum ch.2))))
              ⟨sm_new hD2, [], upd_same, .nil⟩ (fun i H8 _ h => sm_t h.1 (sm_t s37 se)) ?_ ?_⟩
            · rintro l v H8 hl ⟨s8, vs, hL2, hd2⟩
              obtain ⟨e, he, hv⟩ := dpa_at de hl
              obtain ⟨a, rfl, sa⟩ := dp_E hv
              walk_at "rd"
              refine ⟨rfl, ?_⟩
              refine r_yes ?_
              walk_at "rd"
              refine r_ixT (sm_t s8 (sm_t s37 sa)) (v := .int e.1) rfl ?_
              walk_at "rd"
              refine r_ixT (sm_t s8 (sm_t s37 sa)) (v := .int e.2) rfl ?_
              walk_at "rd"
              have he2 := hw.2.2 e (List.mem_of_getElem? he)
              refine ⟨e.2, _, rfl, hWn, small_pow _ (by omega), small_pow _ (by omega), fun q3 H9 s9 _ hq3 => ?_⟩
              walk_at "rd"
              refine ⟨(by show 2 ≤ sizeLine; decide), fun u hu => ?_⟩
              have hL3 := s9 _ _ hL2
              have nuD : D2 ≠ u := ne_of_none hL3 hu
              have hlvs : vs.length ≤ 20 := by
                have := dpa_len hd2
                rw [List.length_map, List.length_take] at this
                omega
              have hL4 : (upd H9 u (.tup [.int e.1, .ref q3])) D2 = some (.lst vs) := by rw [upd_ne nuD]; exact hL3
              refine ⟨vs, hL4, Nat.lt_of_le_of_lt hlvs (by decide), ?_, vs ++ [.ref u], upd_same, ?_⟩
              · exact same_mut (s8.trans (s9.trans (sm_new hu))) hD2
              · rw [take_app he, List.map_append]
                have tk4 : Tk H9 (upd (upd H9 u (.tup [.int e.1, .ref q3])) D2 (.lst (vs ++ [.ref u]))) := (tk_new hu).trans (tk_lst hL4)
                refine dpa_app (dpa_tk ((Same_tk s9).trans tk4) (tu_map _ (tu_M _)) hd2) (.cons (.tup (xs := [.int e.1, .ref q3]) (SqT.of ?_) (.cons (.int _) (.cons (fq_dp ?_) .nil))) .nil)
                · rw [upd_ne nuD.symm, upd_same]
                · have hq' : SqT K H9 q3 (Fq (Rat.divInt e.2 (wsum ch.2))) := SqT.of (by rw [hq3, fq_ratio hWn])
                  exact tk_t tk4 hq'
            · rintro H8 ⟨s8, vs, hL2, hd2⟩
              rw [lve, List.take_length] at hd2
              walk_at "rd"
              have hq8 := dp_mono s8 hq
              refine ⟨_, _, _, rfl, hq8, .lst (SqL.of hL2) hd2, .lst (by rw [List.length_map]; omega) (fun d hd => ?_), ?_⟩
              · obtain ⟨e, _, rfl⟩ := List.mem_map.mp hd
                exact dn_M _ _ _
              walk_at "rd"
              refine ⟨(by show 2 ≤ sizeLine; decide), fun u hu => ?_⟩
              walk_at "rd"
              obtain ⟨aq, xq, eqq, sq, dq⟩ := dp_lst hq8
              cases eqq
              have lxq : xq.length = ch.2.length := by
                have := dpa_len dq
                rw [List.length_map] at this
                exact this
              refine ⟨q, rfl, ⟨_, sm_l (sm_new hu) sq⟩, for_list (K := K) (a := q) (xs := xq) (fun l σ H9 => ∃ (b : Addr) (h j : Option V), σ = [some (.ref a), some (.ref p), some (.ref ay), some (.int (0 + i)), some (.int (0 + m)), some (.ref ae), some (.int (wsum ch.2)), some (.ref q), some (.ref b), h, j] ∧ Same H8 H9 ∧
                  SqT K H9 b (Fq (Rat.divInt (wsum (ch.2.take l)) (wsum ch.2))))
                ⟨u, _, _, rfl, sm_new hu, ?_⟩ (fun l σ H9 _ ⟨_, _, _, _, s9, _⟩ => sm_l s9 sq) ?_ ?_⟩
              · have e0 : Fq (Rat.divInt (wsum (ch.2.take 0)) (wsum ch.2)) = [.int 0, .int 1] := by
                  show Fq (Rat.divInt 0 (wsum ch.2)) = _
                  rw [Rat.zero_divInt]
                  rfl
                rw [e0]
                exact SqT.of upd_same
              · rintro l v σ H9 hl ⟨b, h, j, rfl, s9, sb⟩
                obtain ⟨e, he, hv⟩ := dpa_at dq hl
                obtain ⟨a1, a2, rfl, sa1, sa2⟩ := dp_M hv
                refine r_gtup2 (sm_t s9 sa1) ?_
                walk_at "rd"
                have hsum : (wsum (ch.2.take l)).natAbs ≤ 20000 := by
                  unfold wsum
                  have := sum_bd ((ch.2.take l).map (·.2)) fun x hx => by
                    obtain ⟨e, he, rfl⟩ := List.mem_map.mp hx
                    exact hw.2.2 e (List.mem_of_mem_take he)
                  rw [List.length_map, List.length_take] at this
                  omega
                have he2 := hw.2.2 e (List.mem_of_getElem? he)
                refine ⟨b, a2, _, _, rfl, sb, sm_t s9 sa2, bq_small _ hWn (by omega) (by omega), bq_small _ hWn (by omega) (by omega), trivial, fun q4 Ha sa _ hq4 => ?_⟩
                walk_at "rd"
                refine ⟨q4, _, _, rfl, s9.trans sa, SqT.of ?_⟩
                rw [hq4]
                show some (HO.tup (Fq (Rat.divInt _ _ + Rat.divInt _ _))) = _
                rw [divInt_add hWn]
                unfold wsum
                rw [take_app he, List.map_append, List.sum_append]
                simp
              · rintro σ H9 ⟨b, h, j, rfl, s9, sb⟩
                rw [lxq, List.take_length] at sb
                have e1 : Fq (Rat.divInt (wsum ch.2) (wsum ch.2)) = [.int 1, .int 1] := by
                  rw [Rat.divInt_self' hWn]
                  rfl
                rw [e1] at sb
                walk_at "rd"
                refine ⟨(by show 2 ≤ sizeLine; decide), fun u2 hu2 => ?_⟩
                refine r_neD_same (d := .tuple [.int 1, .int 1]) (fr_dp (sm_t (sm_new hu2) sb)) (fr_dp (SqT.of upd_same)) (by decide) (by decide) ?_
                walk_at "rd"
                exact ⟨_, _, _, _, _, _, _, rfl, (s37.trans (s8.trans s9)).trans (sm_new hu2)⟩
        · rintro σ H5 ⟨c, d, e, f, g, h, j, rfl, s5⟩
          exact ⟨_, _, _, _, _, _, _, _, rfl, s5⟩
      · rintro σ H4 ⟨b, c, d, e, f, g, h, j, rfl, s4⟩
        walk_at "rd"
        exact k _
theorem all_mk {l : PySem.W.OpenLaw} {w : World} {K : PySem.W.Frag} {h : Heap} {mg : Str → Option Value} {fa f0 f1 f2 f3 f4 f5 f6 f7 f8 f9 f10 f11 f12 : Addr} (X : K.In h) (G : h.Ns mainGlobals mg) (hfa : mg "law" = some (.ref fa))
    {od0 an0 : Option Addr} {sl0 : Array (Option Value)} {oc0 kV0 dc0 pm0 cd0 ct0 : Value}
    {od1 an1 : Option Addr} {sl1 : Array (Option Value)} {oc1 kV1 dc1 pm1 cd1 ct1 : Value}
    {od2 an2 : Option Addr} {sl2 : Array (Option Value)} {oc2 kV2 dc2 pm2 cd2 ct2 : Value}
    {od3 an3 : Option Addr} {sl3 : Array (Option Value)} {oc3 kV3 dc3 pm3 cd3 ct3 : Value}
    {od4 an4 : Option Addr} {sl4 : Array (Option Value)} {oc4 kV4 dc4 pm4 cd4 ct4 : Value}
    {od5 an5 : Option Addr} {sl5 : Array (Option Value)} {oc5 kV5 dc5 pm5 cd5 ct5 : Value}
    {od6 an6 : Option Addr} {sl6 : Array (Option Value)} {oc6 kV6 dc6 pm6 cd6 ct6 : Value}
    {od7 an7 : Option Addr} {sl7 : Array (Option Value)} {oc7 kV7 dc7 pm7 cd7 ct7 : Value}
    {od8 an8 : Option Addr} {sl8 : Array (Option Value)} {oc8 kV8 dc8 pm8 cd8 ct8 : Value}
    {od9 an9 : Option Addr} {sl9 : Array (Option Value)} {oc9 kV9 dc9 pm9 cd9 ct9 : Value}
    {od10 an10 : Option Addr} {sl10 : Array (Option Value)} {oc10 kV10 dc10 pm10 cd10 ct10 : Value}
    {od11 an11 : Option Addr} {sl11 : Array (Option Value)} {oc11 kV11 dc11 pm11 cd11 ct11 : Value}
    {od12 an12 : Option Addr} {sl12 : Array (Option Value)} {oc12 kV12 dc12 pm12 cd12 ct12 : Value}
    (a0 : PySem.W.nsIn K mainGlobals "ratio" = some (some (.ref f0))) (l0 : K.lookup f0 = some ⟨oc0, od0, .func (PySem.W.fnOf "ratio" "ratio" (defArgs s_ratio) (defBody s_ratio) (defScope s_ratio) .none kV0 dc0 pm0 an0 cd0 ct0), sl0⟩) (c0 : PySem.W.codeIn K cd0 "ratio" = true) (k0 : PySem.W.keepIn K (.ref f0) = true)
    (a1 : PySem.W.nsIn K mainGlobals "plus" = some (some (.ref f1))) (l1 : K.lookup f1 = some ⟨oc1, od1, .func (PySem.W.fnOf "plus" "plus" (defArgs s_plus) (defBody s_plus) (defScope s_plus) .none kV1 dc1 pm1 an1 cd1 ct1), sl1⟩) (c1 : PySem.W.codeIn K cd1 "plus" = true) (k1 : PySem.W.keepIn K (.ref f1) = true)
    (a2 : PySem.W.nsIn K mainGlobals "moves" = some (some (.ref f2))) (l2 : K.lookup f2 = some ⟨oc2, od2, .func (PySem.W.fnOf "moves" "moves" (defArgs s_moves) (defBody s_moves) (defScope s_moves) .none kV2 dc2 pm2 an2 cd2 ct2), sl2⟩) (c2 : PySem.W.codeIn K cd2 "moves" = true) (k2 : PySem.W.keepIn K (.ref f2) = true)
    (a3 : PySem.W.nsIn K mainGlobals "_law_tape" = some (some (.ref f3))) (l3 : K.lookup f3 = some ⟨oc3, od3, .func (PySem.W.fnOf "_law_tape" "_law_tape" (defArgs s_l_tape) (defBody s_l_tape) (defScope s_l_tape) .none kV3 dc3 pm3 an3 cd3 ct3), sl3⟩) (c3 : PySem.W.codeIn K cd3 "_law_tape" = true) (k3 : PySem.W.keepIn K (.ref f3) = true)
    (a4 : PySem.W.nsIn K mainGlobals "_law_draw" = some (some (.ref f4))) (l4 : K.lookup f4 = some ⟨oc4, od4, .func (PySem.W.fnOf "_law_draw" "_law_draw" (defArgs s_l_draw) (defBody s_l_draw) (defScope s_l_draw) .none kV4 dc4 pm4 an4 cd4 ct4), sl4⟩) (c4 : PySem.W.codeIn K cd4 "_law_draw" = true) (k4 : PySem.W.keepIn K (.ref f4) = true)
    (a5 : PySem.W.nsIn K mainGlobals "_law_equal" = some (some (.ref f5))) (l5 : K.lookup f5 = some ⟨oc5, od5, .func (PySem.W.fnOf "_law_equal" "_law_equal" (defArgs s_l_equal) (defBody s_l_equal) (defScope s_l_equal) .none kV5 dc5 pm5 an5 cd5 ct5), sl5⟩) (c5 : PySem.W.codeIn K cd5 "_law_equal" = true) (k5 : PySem.W.keepIn K (.ref f5) = true)
    (a6 : PySem.W.nsIn K mainGlobals "_law_take" = some (some (.ref f6))) (l6 : K.lookup f6 = some ⟨oc6, od6, .func (PySem.W.fnOf "_law_take" "_law_take" (defArgs s_l_take) (defBody s_l_take) (defScope s_l_take) .none kV6 dc6 pm6 an6 cd6 ct6), sl6⟩) (c6 : PySem.W.codeIn K cd6 "_law_take" = true) (k6 : PySem.W.keepIn K (.ref f6) = true)
    (a7 : PySem.W.nsIn K mainGlobals "_law_ratio" = some (some (.ref f7))) (l7 : K.lookup f7 = some ⟨oc7, od7, .func (PySem.W.fnOf "_law_ratio" "_law_ratio" (defArgs s_l_ratio) (defBody s_l_ratio) (defScope s_l_ratio) .none kV7 dc7 pm7 an7 cd7 ct7), sl7⟩) (c7 : PySem.W.codeIn K cd7 "_law_ratio" = true) (k7 : PySem.W.keepIn K (.ref f7) = true)
    (a8 : PySem.W.nsIn K mainGlobals "_law_ends" = some (some (.ref f8))) (l8 : K.lookup f8 = some ⟨oc8, od8, .func (PySem.W.fnOf "_law_ends" "_law_ends" (defArgs s_l_ends) (defBody s_l_ends) (defScope s_l_ends) .none kV8 dc8 pm8 an8 cd8 ct8), sl8⟩) (c8 : PySem.W.codeIn K cd8 "_law_ends" = true) (k8 : PySem.W.keepIn K (.ref f8) = true)
    (a9 : PySem.W.nsIn K mainGlobals "_law_choices" = some (some (.ref f9))) (l9 : K.lookup f9 = some ⟨oc9, od9, .func (PySem.W.fnOf "_law_choices" "_law_choices" (defArgs s_l_choices) (defBody s_l_choices) (defScope s_l_choices) .none kV9 dc9 pm9 an9 cd9 ct9), sl9⟩) (c9 : PySem.W.codeIn K cd9 "_law_choices" = true) (k9 : PySem.W.keepIn K (.ref f9) = true)
    (a10 : PySem.W.nsIn K mainGlobals "_law_system" = some (some (.ref f10))) (l10 : K.lookup f10 = some ⟨oc10, od10, .func (PySem.W.fnOf "_law_system" "_law_system" (defArgs s_l_system) (defBody s_l_system) (defScope s_l_system) .none kV10 dc10 pm10 an10 cd10 ct10), sl10⟩) (c10 : PySem.W.codeIn K cd10 "_law_system" = true) (k10 : PySem.W.keepIn K (.ref f10) = true)
    (a11 : PySem.W.nsIn K mainGlobals "_law_large" = some (some (.ref f11))) (l11 : K.lookup f11 = some ⟨oc11, od11, .func (PySem.W.fnOf "_law_large" "_law_large" (defArgs s_l_large) (defBody s_l_large) (defScope s_l_large) .none kV11 dc11 pm11 an11 cd11 ct11), sl11⟩) (c11 : PySem.W.codeIn K cd11 "_law_large" = true) (k11 : PySem.W.keepIn K (.ref f11) = true)
    (a12 : PySem.W.nsIn K mainGlobals "law" = some (some (.ref f12))) (l12 : K.lookup f12 = some ⟨oc12, od12, .func (PySem.W.fnOf "law" "law" (defArgs s_law) (defBody s_law) (defScope s_law) .none kV12 dc12 pm12 an12 cd12 ct12), sl12⟩) (c12 : PySem.W.codeIn K cd12 "law" = true) (k12 : PySem.W.keepIn K (.ref f12) = true)
    (z_abs : PySem.W.nsIn K mainGlobals "abs" = some none)
    (z_bool : PySem.W.nsIn K mainGlobals "bool" = some none)
    (z_int : PySem.W.nsIn K mainGlobals "int" = some none)
    (z_isinstance : PySem.W.nsIn K mainGlobals "isinstance" = some none)
    (z_len : PySem.W.nsIn K mainGlobals "len" = some none)
    (z_list : PySem.W.nsIn K mainGlobals "list" = some none)
    (z_range : PySem.W.nsIn K mainGlobals "range" = some none)
    (z_sorted : PySem.W.nsIn K mainGlobals "sorted" = some none)
    (z_str : PySem.W.nsIn K mainGlobals "str" = some none)
    (z_sum : PySem.W.nsIn K mainGlobals "sum" = some none)
    (z_tuple : PySem.W.nsIn K mainGlobals "tuple" = some none)
    (z_gcd : PySem.W.nsIn K mainGlobals "gcd" = some (some (.builtin "math.gcd")))
    : ∃ fd : FuncData, (∀ (s : Shared) (v : Value), BindsTo s fd ⟨[v], []⟩ [("script", v)]) ∧ ∀ base : Heap, K.In base → base.Ns mainGlobals mg → FnOk l.prog w K mg base CX0 6 fa fd ["script"] (sp_law K) := by
  have e := hfa.symm.trans (PySem.W.mg_of X G a12)
  cases e
  have F0 := fun_mk (st := s_ratio) l0 c0 k0
  have b0 := F0.binds (ps := ["n", "d"]) fun _ _ _ _ _ _ us hl => match us, hl with | [_, _], _ => rfl
  have F1 := fun_mk (st := s_plus) l1 c1 k1
  have b1 := F1.binds (ps := ["a", "b"]) fun _ _ _ _ _ _ us hl => match us, hl with | [_, _], _ => rfl
  have F2 := fun_mk (st := s_moves) l2 c2 k2
  have b2 := F2.binds (ps := ["system", "state", "choice"]) fun _ _ _ _ _ _ us hl => match us, hl with | [_, _, _], _ => rfl
  have F3 := fun_mk (st := s_l_tape) l3 c3 k3
  have b3 := F3.binds (ps := ["script"]) fun _ _ _ _ _ _ us hl => match us, hl with | [_], _ => rfl
  have F4 := fun_mk (st := s_l_draw) l4 c4 k4
  have b4 := F4.binds (ps := ["tape", "at", "many"]) fun _ _ _ _ _ _ us hl => match us, hl with | [_, _, _], _ => rfl
  have F5 := fun_mk (st := s_l_equal) l5 c5 k5
  have b5 := F5.binds (ps := ["actual", "due"]) fun _ _ _ _ _ _ us hl => match us, hl with | [_, _], _ => rfl
  have F6 := fun_mk (st := s_l_take) l6 c6 k6
  have b6 := F6.binds (ps := ["state", "many"]) fun _ _ _ _ _ _ us hl => match us, hl with | [_, _], _ => rfl
  have F7 := fun_mk (st := s_l_ratio) l7 c7 k7
  have b7 := F7.binds (ps := ["n", "d"]) fun _ _ _ _ _ _ us hl => match us, hl with | [_, _], _ => rfl
  have F8 := fun_mk (st := s_l_ends) l8 c8 k8
  have b8 := F8.binds (ps := ["state", "many"]) fun _ _ _ _ _ _ us hl => match us, hl with | [_, _], _ => rfl
  have F9 := fun_mk (st := s_l_choices) l9 c9 k9
  have b9 := F9.binds (ps := ["state", "many", "most"]) fun _ _ _ _ _ _ us hl => match us, hl with | [_, _, _], _ => rfl
  have F10 := fun_mk (st := s_l_system) l10 c10 k10
  have b10 := F10.binds (ps := ["state", "most"]) fun _ _ _ _ _ _ us hl => match us, hl with | [_, _], _ => rfl
  have F11 := fun_mk (st := s_l_large) l11 c11 k11
  have b11 := F11.binds (ps := ["state", "many"]) fun _ _ _ _ _ _ us hl => match us, hl with | [_, _], _ => rfl
  have F12 := fun_mk (st := s_law) l12 c12 k12
  have b12 := F12.binds (ps := ["script"]) fun _ _ _ _ _ _ us hl => match us, hl with | [_], _ => rfl
  let T : Env K mg := { a_ratio := _, d_ratio := _, F_ratio := F0, b_ratio := b0, g_ratio := PySem.W.mg_of X G a0, a_plus := _, d_plus := _, F_plus := F1, b_plus := b1, g_plus := PySem.W.mg_of X G a1, a_moves := _, d_moves := _, F_moves := F2, b_moves := b2, g_moves := PySem.W.mg_of X G a2, a_l_tape := _, d_l_tape := _, F_l_tape := F3, b_l_tape := b3, g_l_tape := PySem.W.mg_of X G a3, a_l_draw := _, d_l_draw := _, F_l_draw := F4, b_l_draw := b4, g_l_draw := PySem.W.mg_of X G a4, a_l_equal := _, d_l_equal := _, F_l_equal := F5, b_l_equal := b5, g_l_equal := PySem.W.mg_of X G a5, a_l_take := _, d_l_take := _, F_l_take := F6, b_l_take := b6, g_l_take := PySem.W.mg_of X G a6, a_l_ratio := _, d_l_ratio := _, F_l_ratio := F7, b_l_ratio := b7, g_l_ratio := PySem.W.mg_of X G a7, a_l_ends := _, d_l_ends := _, F_l_ends := F8, b_l_ends := b8, g_l_ends := PySem.W.mg_of X G a8, a_l_choices := _, d_l_choices := _, F_l_choices := F9, b_l_choices := b9, g_l_choices := PySem.W.mg_of X G a9, a_l_system := _, d_l_system := _, F_l_system := F10, b_l_system := b10, g_l_system := PySem.W.mg_of X G a10, a_l_large := _, d_l_large := _, F_l_large := F11, b_l_large := b11, g_l_large := PySem.W.mg_of X G a11, a_law := _, d_law := _, F_law := F12, b_law := b12, g_law := PySem.W.mg_of X G a12, z_abs := PySem.W.mg_none_of X G z_abs, z_bool := PySem.W.mg_none_of X G z_bool, z_int := PySem.W.mg_none_of X G z_int, z_isinstance := PySem.W.mg_none_of X G z_isinstance, z_len := PySem.W.mg_none_of X G z_len, z_list := PySem.W.mg_none_of X G z_list, z_range := PySem.W.mg_none_of X G z_range, z_sorted := PySem.W.mg_none_of X G z_sorted, z_str := PySem.W.mg_none_of X G z_str, z_sum := PySem.W.mg_none_of X G z_sum, z_tuple := PySem.W.mg_none_of X G z_tuple, z_gcd := PySem.W.mg_of X G z_gcd }
  exact ⟨PySem.W.fnOf "law" "law" (defArgs s_law) (defBody s_law) (defScope s_law) .none kV12 dc12 pm12 an12 cd12 ct12, fun s v => .of_eq rfl, fun base _ _ => ok_law T⟩
end Bo
open PySem PySem.W PyProof.Rows
set_option maxRecDepth 100000 in
set_option maxHeartbeats 0 in
theorem PySem.Challenge.cw_bestodds_k04_moves_of_choices_holds : PySem.Challenge.rw_bestodds_k04_moves_of_choices.Holds := by
  w_on; o_law; k_head; (case hw => w_witness2)
  k_fill
  refine L2.walk_of (l := PySem.Challenge.rw_bestodds_k04_moves_of_choices) (n := 63) (k := 6) (x := "script") (CX := fun _ => L2.CX0) (sp := fun w => Bo.sp_law _) rfl (by decide) rfl ⟨rfl, by decide, by decide⟩ (fun w h Y => PySem.W.kIn_of Y) ?F (fun _ _ a ns hl _ hS => ⟨a, ns, rfl, hS, hl, fun _ => rfl⟩) (fun _ _ _ _ _ h => h)
  case F =>
    intro w mg fa h KX G hmg
    refine' Bo.all_mk KX G hmg ?a0 ?l0 ?c0 ?k0 ?a1 ?l1 ?c1 ?k1 ?a2 ?l2 ?c2 ?k2 ?a3 ?l3 ?c3 ?k3 ?a4 ?l4 ?c4 ?k4 ?a5 ?l5 ?c5 ?k5 ?a6 ?l6 ?c6 ?k6 ?a7 ?l7 ?c7 ?k7 ?a8 ?l8 ?c8 ?k8 ?a9 ?l9 ?c9 ?k9 ?a10 ?l10 ?c10 ?k10 ?a11 ?l11 ?c11 ?k11 ?a12 ?l12 ?c12 ?k12 ?z_abs ?z_bool ?z_int ?z_isinstance ?z_len ?z_list ?z_range ?z_sorted ?z_str ?z_sum ?z_tuple ?z_gcd
    (case a0 => k_is)
    (case l0 => k_is)
    (case c0 => k_is)
    (case k0 => k_is)
    (case a1 => k_is)
    (case l1 => k_is)
    (case c1 => k_is)
    (case k1 => k_is)
    (case a2 => k_is)
    (case l2 => k_is)
    (case c2 => k_is)
    (case k2 => k_is)
    (case a3 => k_is)
    (case l3 => k_is)
    (case c3 => k_is)
    (case k3 => k_is)
    (case a4 => k_is)
    (case l4 => k_is)
    (case c4 => k_is)
    (case k4 => k_is)
    (case a5 => k_is)
    (case l5 => k_is)
    (case c5 => k_is)
    (case k5 => k_is)
    (case a6 => k_is)
    (case l6 => k_is)
    (case c6 => k_is)
    (case k6 => k_is)
    (case a7 => k_is)
    (case l7 => k_is)
    (case c7 => k_is)
    (case k7 => k_is)
    (case a8 => k_is)
    (case l8 => k_is)
    (case c8 => k_is)
    (case k8 => k_is)
    (case a9 => k_is)
    (case l9 => k_is)
    (case c9 => k_is)
    (case k9 => k_is)
    (case a10 => k_is)
    (case l10 => k_is)
    (case c10 => k_is)
    (case k10 => k_is)
    (case a11 => k_is)
    (case l11 => k_is)
    (case c11 => k_is)
    (case k11 => k_is)
    (case a12 => k_is)
    (case l12 => k_is)
    (case c12 => k_is)
    (case k12 => k_is)
    (case z_abs => k_is)
    (case z_bool => k_is)
    (case z_int => k_is)
    (case z_isinstance => k_is)
    (case z_len => k_is)
    (case z_list => k_is)
    (case z_range => k_is)
    (case z_sorted => k_is)
    (case z_str => k_is)
    (case z_sum => k_is)
    (case z_tuple => k_is)
    (case z_gcd => k_is)

