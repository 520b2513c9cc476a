import PyProof.Rows.All
import Wide.All
import OpenK.AllK
import Wide.FinOn
import HandS.ForMost
import HandS.IsInst
import HandS.Wide
import HandS.Gcd
import HandS.Codes
import HandS.Style
import HandS.TupMul
import HandS.TupAny
import KE.GoesNew
import KE.GoesMore
import HandS.Conv
import HandS.SortInts
import HandS.DictTup
import HandS.NoneIn
import Flt.Len
import HandS.Star
import HandS.Iter
import HandS.List
import PySem.Challenge.RW_bestodds_k16_chances_of_policies
set_option Elab.async false
set_option linter.all false
set_option maxRecDepth 100000
set_option maxHeartbeats 4000000
namespace Bo
open PySem L2

/-! ### readings, step by step -/
section
variable {σ : L2.St} {H : Hp} {Q : VK} {D : Ends} {ta tb te : TE} {t u : TS} {tt tu : TT} {K : PySem.W.Frag}
theorem r_seq (h : t { D with nx := u D } σ H) : tSeq t u D σ H := h
theorem r_asg {g : TG} (h : te σ H fun x H1 => g x σ H1 D.nx) : tAsg te g D σ H := h
theorem r_name {i : Nat} {v : V} {R : L2.St → Hp → Prop} (h : R (σ.set i (some v)) H) : gName i v σ H R := h
theorem r_var {i : Nat} (h : ∃ v, σ[i]? = some (some v) ∧ Q v H) : tVar i σ H Q := h
theorem r_c {v : V} (h : Q v H) : tC v σ H Q := h
theorem r_op {r : R2} (h : ta σ H fun x H1 => tb σ H1 fun y H2 => r x y H2 Q) : tOp r ta tb σ H Q := h
theorem r_un {r : V → Hp → VK → Prop} (h : ta σ H fun x H1 => r x H1 Q) : tUn r ta σ H Q := h
theorem r_i0 {g : Int → Int → V} {i j : Int} (h : Q (g i j) H) : rI0 g (.int i) (.int j) H Q := ⟨i, j, rfl, rfl, h⟩
theorem r_iC {C : Int → Int → Prop} {g : Int → Int → V} {i j : Int} (c : C i j) (h : Q (g i j) H) : rI C g (.int i) (.int j) H Q := ⟨i, j, rfl, rfl, c, h⟩
theorem r_u {g : Int → V} {i : Int} (h : Q (g i) H) : rU g (.int i) H Q := ⟨i, rfl, h⟩
theorem r_eqI {i j : Int} (h : Q (.bl (decide (i = j))) H) : rEq (.int i) (.int j) H Q := by
  refine ⟨rfl, ?_⟩
  have e : decide (V.int i = V.int j) = decide (i = j) := by
    by_cases q : i = j
    · subst q; simp
    · rw [decide_eq_false q, decide_eq_false fun z => q (V.int.inj z)]
  rw [e]
  exact h
theorem r_neI {i j : Int} (h : Q (.bl (!decide (i = j))) H) : rNe (.int i) (.int j) H Q := by
  refine ⟨rfl, ?_⟩
  have e : decide (V.int i = V.int j) = decide (i = j) := by
    by_cases q : i = j
    · subst q; simp
    · rw [decide_eq_false q, decide_eq_false fun z => q (V.int.inj z)]
  rw [e]
  exact h
theorem r_eqS {i j : Str} (h : Q (.bl (decide (i = j))) H) : rEq (.str i) (.str j) H Q := by
  refine ⟨rfl, ?_⟩
  have e : decide (V.str i = V.str j) = decide (i = j) := by
    by_cases q : i = j
    · subst q; simp
    · rw [decide_eq_false q, decide_eq_false fun z => q (V.str.inj z)]
  rw [e]
  exact h
theorem r_eqB {i j : Bool} (h : Q (.bl (decide (i = j))) H) : rEq (.bl i) (.bl j) H Q := by
  refine ⟨rfl, ?_⟩
  have e : decide (V.bl i = V.bl j) = decide (i = j) := by
    by_cases q : i = j
    · subst q; simp
    · rw [decide_eq_false q, decide_eq_false fun z => q (V.bl.inj z)]
  rw [e]
  exact h
theorem r_tst {R : Bool → Hp → Prop} (h : te σ H fun x H' => ∃ k, x = .bl k ∧ R k H') : tTest te σ H R := h
theorem r_tB {R : Bool → Hp → Prop} (h : te σ H fun x H' => ∃ k, x = .bl k ∧ R k H') : tB te σ H R := h
theorem r_bl {b : Bool} {R : Bool → Prop} (h : R b) : ∃ k, V.bl b = .bl k ∧ R k := ⟨b, rfl, h⟩
theorem r_not {R : Bool → Hp → Prop} (h : tt σ H fun c H1 => R (!c) H1) : tNot tt σ H R := h
theorem r_and {R : Bool → Hp → Prop} (h : tt σ H fun c H1 => if c = true then tu σ H1 R else R false H1) : tAnd tt tu σ H R := h
theorem r_or {R : Bool → Hp → Prop} (h : tt σ H fun c H1 => if c = true then R true H1 else tu σ H1 R) : tOr tt tu σ H R := h
theorem r_andV (h : ta σ H fun x H1 => ∃ c, x = .bl c ∧ if c = true then tb σ H1 Q else Q (.bl false) H1) : tAndV ta tb σ H Q := h
theorem r_orV (h : ta σ H fun x H1 => ∃ c, x = .bl c ∧ if c = true then Q (.bl true) H1 else tb σ H1 Q) : tOrV ta tb σ H Q := h
theorem r_notV (h : ta σ H fun x H1 => ∃ c, x = .bl c ∧ Q (.bl (!c)) H1) : tNotV ta σ H Q := h
theorem r_ifs (h : tt σ H fun b H1 => if b = true then t D σ H1 else u D σ H1) : tIfS tt t u D σ H := h
theorem r_ifE (h : tt σ H fun c H1 => if c = true then ta σ H1 Q else tb σ H1 Q) : tIf tt ta tb σ H Q := h
theorem r_ret (h : te σ H D.rt) : tRet te D σ H := h
theorem r_retN (h : D.rt .non H) : tRetN D σ H := h
theorem r_next (h : D.nx σ H) : tNext D σ H := h
theorem r_brk (h : D.bk σ H) : tBreak D σ H := h
theorem r_cont (h : D.ct σ H) : tCont D σ H := h
theorem r_drop (h : te σ H fun _ H1 => D.nx σ H1) : tDrop te D σ H := h
theorem r_nil {R : List V → Hp → Prop} (h : R [] H) : tNil σ H R := h
theorem r_cons {tr : TA} {R : List V → Hp → Prop} (h : ta σ H fun x H1 => tr σ H1 fun xs H2 => R (x :: xs) H2) : tCons ta tr σ H R := h
theorem r_tup {tA : TA} (h : tA σ H fun xs H1 => xs.length ≤ sizeLine ∧ ∀ p, H1 p = none → Q (.ref p) (upd H1 p (.tup xs))) : tTup tA σ H Q := h
theorem r_lst {tA : TA} (h : tA σ H fun xs H1 => xs.length ≤ sizeLine ∧ ∀ p, H1 p = none → Q (.ref p) (upd H1 p (.lst xs))) : tLst tA σ H Q := h
theorem r_cb {r : List V → Hp → VK → Prop} {tA : TA} (h : tA σ H fun vs H1 => r vs H1 Q) : tCB r tA σ H Q := h
theorem r_call {sp : Sp} {E : XK} {tA : TA} (h : tA σ H fun vs H1 => sp (vs ++ []) H1 Q E) : tCall sp [] E tA σ H Q := h
theorem r_ixT {p : Addr} {xs : List V} {i : Int} {v : V} (s : SqT K H p xs) (a : atI xs i = some v) (h : Q v H) : rIxT K (.ref p) (.int i) H Q := ⟨p, xs, i, v, rfl, rfl, s, a, h⟩
theorem r_ixL {p : Addr} {xs : List V} {i : Int} {v : V} (s : SqL K H p xs) (a : atI xs i = some v) (h : Q v H) : rIxL K (.ref p) (.int i) H Q := ⟨p, xs, i, v, rfl, rfl, s, a, h⟩
theorem r_gsub {to ti : TE} {ts : TSet} {v : V} {R : L2.St → Hp → Prop} (h : to σ H fun o H1 => ti σ H1 fun i H2 => ts o i v H2 fun H3 => R σ H3) : gSub to ti ts v σ H R := h
theorem r_setL {p : Addr} {xs : List V} {k : Int} {j : Nat} {v : V} {R : Hp → Prop} (h : H p = some (.lst xs)) (e : ixN xs.length k = some j) (q : R (upd H p (.lst (xs.set j v)))) : rSetL (.ref p) (.int k) v H R := ⟨p, xs, k, j, rfl, rfl, h, e, q⟩
theorem r_ixQT {p : Addr} {xs : List V} {i : Int} {v : V} (s : SqT K H p xs) (a : atI xs i = some v) (h : Q v H) : rIx K (.ref p) (.int i) H Q := .inr (.inl ⟨p, xs, i, v, rfl, rfl, s, a, h⟩)
theorem r_ixQL {p : Addr} {xs : List V} {i : Int} {v : V} (s : SqL K H p xs) (a : atI xs i = some v) (h : Q v H) : rIx K (.ref p) (.int i) H Q := .inl ⟨p, xs, i, v, rfl, rfl, s, a, h⟩
theorem r_gtup2 {p : Addr} {x y : V} {i j : Nat} {R : L2.St → Hp → Prop} (s : SqT K H p [x, y]) (h : R ((σ.set i (some x)).set j (some y)) H) : gTup K 2 (gCons (gName i) (gCons (gName j) gNil)) (.ref p) σ H R := ⟨p, _, rfl, s, rfl, x, [y], rfl, y, [], rfl, rfl, h⟩
theorem r_app {p : Addr} {xs : List V} {y : V} (h : H p = some (.lst xs)) (l : xs.length < 100000) (q : Q .non (upd H p (.lst (xs ++ [y])))) : rAppend (.ref p) [y] H Q := ⟨p, xs, y, rfl, rfl, h, Nat.lt_of_lt_of_le l (by decide), q⟩
theorem r_bm {T : String} {r : V → List V → Hp → VK → Prop} {tA : TA} (h : ta σ H fun x H1 => tyV K T x H1 ∧ tA σ H1 fun xs H2 => r x xs H2 Q) : tBM K T r ta tA σ H Q := h
theorem r_bm0 {T : String} {r : V → List V → Hp → VK → Prop} (h : ta σ H fun x H1 => tyV K T x H1 ∧ r x [] H1 Q) : tBM0 K T r ta σ H Q := h
theorem r_tyL {p : Addr} {xs : List V} {P : Prop} (h : SqL K H p xs) (k : P) : tyV K "list" (.ref p) H ∧ P := ⟨.inl ⟨rfl, _, h⟩, k⟩
theorem r_tyD {p : Addr} {kvs : List (Key × V)} {P : Prop} (h : H p = some (.dK kvs)) (k : P) : tyV K "dict" (.ref p) H ∧ P := ⟨.inr (.inr (.inl ⟨rfl, .inl ⟨_, h⟩⟩)), k⟩
theorem r_dput {td ty : TE} (h : te σ H fun v H1 => td σ H1 fun x H2 => ty σ H2 fun y H3 => ∃ a H4, x = .ref a ∧ DPut H3 a y v H4 ∧ D.nx σ H4) : sDPut td ty te D σ H := h
theorem r_dnew (h : ∀ p, H p = none → Q (.ref p) (upd H p (.dK []))) : tDNewK σ H Q := h
theorem r_lenS {p : Addr} {xs : List V} (s : SqL K H p xs ∨ SqT K H p xs) (h : Q (.int xs.length) H) : ∃ q ys, [V.ref p] = [.ref q] ∧ (SqL K H q ys ∨ SqT K H q ys) ∧ Q (.int ys.length) H := ⟨p, xs, rfl, s, h⟩
theorem r_tupL {p : Addr} {xs : List V} (s : SqL K H p xs) (h : ∀ q, H q = none → Q (.ref q) (upd H q (.tup xs))) : ∃ q ys, [V.ref p] = [.ref q] ∧ ((SqL K H q ys ∧ ∀ l, H l = none → Q (.ref l) (upd H l (.tup ys))) ∨ (SqT K H q ys ∧ Q (.ref q) H)) := ⟨p, xs, rfl, .inl ⟨s, h⟩⟩
theorem r_yes {R : Bool → Hp → Prop} (h : R true H) : tYes σ H R := h
theorem r_chain {r r' : R2} {tc : TE} (h : ta σ H fun x H1 => tb σ H1 fun y H2 => r x y H2 fun z H3 => ∃ k, z = .bl k ∧ if k = true then tc σ H3 fun v H4 => r' y v H4 Q else Q (.bl false) H3) : tChain r r' ta tb tc σ H Q := h
theorem r_for {wi : TI} {g : TG} {b : TS} (h : wi σ H fun J H1 => ∃ W : Nat → Nat → L2.St → Hp → Prop, (∃ m, W 0 m σ H1) ∧ ∀ i m σ H, W i m σ H →
    (J.stop i H ∧ D.nx σ H) ∨ (J.go i H ∧ ∃ N : L2.St → Hp → Prop, (∀ σ' H', N σ' H' → ∃ m', m' < m ∧ W (i + 1) m' σ' H') ∧ ∀ x H', J.yld i H x H' → g x σ H' fun σ2 H2 => b { D with nx := N, ct := N, bk := D.nx } σ2 H2)) : tFor wi g b D σ H := h
theorem r_iList {R : It → Hp → Prop} (h : te σ H fun x H1 => ∃ a, x = .ref a ∧ (∃ xs, SqL K H1 a xs) ∧ R (Itl K a) H1) : iList K te σ H R := h
theorem r_iTup {R : It → Hp → Prop} (h : te σ H fun x H1 => ∃ a, x = .ref a ∧ (∃ xs, SqT K H1 a xs) ∧ R (Itt K a) H1) : iTup K te σ H R := h
theorem r_it {a : Addr} {P : Prop} {R : Addr → Prop} (p : P) (h : R a) : P ∧ R a := ⟨p, h⟩
theorem r_rng1 {tA : TA} {R : It → Hp → Prop} (h : tA σ H fun vs H1 => ∃ j : Int, vs = [.int j] ∧ -(2 ^ 62) ≤ j ∧ j < 2 ^ 62 ∧ R (Itr 0 j.toNat) H1) : iRng1 tA σ H R := h
theorem r_rng2 {tA : TA} {R : It → Hp → Prop} (h : tA σ H fun vs H1 => ∃ i j : Int, vs = [.int i, .int j] ∧ (-(2 ^ 62) ≤ i ∧ i < 2 ^ 62 ∧ -(2 ^ 62) ≤ j ∧ j < 2 ^ 62) ∧ R (Itr i (j - i).toNat) H1) : iRng2 tA σ H R := h
theorem r_int1 {i : Int} (h : Q (.int i) H) : (∃ j, [V.int i] = [.int j] ∧ Q (.int j) H) ∨ ∃ k, [V.int i] = [.bl k] ∧ Q (.int (if k then 1 else 0)) H := .inl ⟨i, rfl, h⟩
theorem r_if {c : Prop} [Decidable c] {A B : Prop} (h1 : c → A) (h2 : ¬ c → B) : if decide c = true then A else B := by
  by_cases h : c
  · rw [decide_eq_true h, if_pos rfl]
    exact h1 h
  · rw [decide_eq_false h, if_neg Bool.false_ne_true]
    exact h2 h
theorem r_ifN {c : Prop} [Decidable c] {A B : Prop} (h1 : ¬ c → A) (h2 : c → B) : if (!decide c) = true then A else B := by
  by_cases h : c
  · rw [decide_eq_true h]
    exact h2 h
  · rw [decide_eq_false h]
    exact h1 h
theorem r_ifT {A B : Prop} (h : A) : if true = true then A else B := h
theorem r_ifF {A B : Prop} (h : B) : if false = true then A else B := h
theorem r_ifNT {A B : Prop} (h : B) : if (!true) = true then A else B := h
theorem r_ifNF {A B : Prop} (h : A) : if (!false) = true then A else B := h
end

section
variable {σ : L2.St} {H : Hp} {D : Ends} {t u : TS}
theorem r_cut (Mid : L2.St → Hp → Prop) (h1 : t { D with nx := Mid } σ H) (h2 : ∀ σ' H', Mid σ' H' → u D σ' H') : C8.tCut t u D σ H := ⟨Mid, h1, h2⟩
end
/-! ### division by any int that is not nought -/
def CDivX (_ j : Int) : Prop := j ≠ 0 ∧ j.natAbs.log2 < 9000
theorem op_fdivX {X : Cx} : OpR X (binaryOp .FloorDiv) (rI CDivX fun i j => .int (i.fdiv j)) := opI fun _ _ _ _ _ _ _ hc q => PyProof.Rows.floordiv_int hc.1 q (.inl (PyProof.noPylong_of_log2 hc.2))

/-! ### heaps -/
section
variable {K : PySem.W.Frag} {H H' H1 : Hp} {a b p q : Addr} {xs ys : List V} {o : HO}
theorem sm_t (e : Same H H') (h : SqT K H a xs) : SqT K H' a xs := by
  rcases h with (h | ⟨o, h⟩) | h
  · exact .inl (.inl (e _ _ h))
  · exact .inl (.inr ⟨o, e _ _ h⟩)
  · exact .inr h
theorem sm_l (e : Same H H') (h : SqL K H a xs) : SqL K H' a xs := e.seq h
theorem sm_new (h : H p = none) : Same H (upd H p o) := fun b u e => by
  rw [upd_ne (ne_of_none e h)]
  exact e
def mn (H : Hp) (p : Addr) : Hp := fun b => if b = p then none else H b
theorem mn_same : mn H p p = none := if_pos rfl
theorem mn_ne (h : b ≠ p) : mn H p b = H b := if_neg h
theorem mn_le : Same (mn H p) H := fun b o e => by
  by_cases h : b = p
  · rw [h, mn_same] at e
    cases e
  · rw [mn_ne h] at e
    exact e
theorem mn_mono (e : Same H H') : Same (mn H p) (mn H' p) := fun b o h => by
  by_cases q : b = p
  · rw [q, mn_same] at h
    cases h
  · rw [mn_ne q] at h ⊢
    exact e _ _ h
theorem mn_upd : mn (upd H p o) p = mn H p := by
  funext b
  by_cases h : b = p
  · rw [h, mn_same, mn_same]
  · rw [mn_ne h, mn_ne h, upd_ne h]
/-- a tuple stands apart from a list -/
theorem mn_t (h : H p = some (.lst ys)) (s : SqT K H a xs) : SqT K (mn H p) a xs := by
  rcases s with (s | ⟨o, s⟩) | s
  · exact .inl (.inl (by rw [mn_ne (ne_of s h (fun z => by cases z))]; exact s))
  · exact .inl (.inr ⟨o, by rw [mn_ne (ne_of s h (fun z => by cases z))]; exact s⟩)
  · exact .inr s
/-- a list other than p -/
theorem mn_l (n : a ≠ p) (s : SqL K H a xs) : SqL K (mn H p) a xs := by
  rcases s with (s | ⟨o, s⟩) | s
  · exact .inl (.inl (by rw [mn_ne n]; exact s))
  · exact .inl (.inr ⟨o, by rw [mn_ne n]; exact s⟩)
  · exact .inr s
theorem mn_free (h : H a = none) : mn H p a = none := by
  by_cases q : a = p
  · rw [q, mn_same]
  · rw [mn_ne q]
    exact h
end

/-! ### rules whose reading names K outright (within a comprehension) -/
section
variable {X : Cx}
theorem ixT (K : PySem.W.Frag) (h : X.K = K := by rfl) : IxR X (rIxT K) := by
  subst h
  exact ix_tup
theorem ixL (K : PySem.W.Frag) (h : X.K = K := by rfl) : IxR X (rIxL K) := by
  subst h
  exact ix_list
theorem ixQ (K : PySem.W.Frag) (h : X.K = K := by rfl) : IxR X (rIx K) := by
  subst h
  exact ix_seq
end
/-! ### what is kept but for the list at p; tuples -/
def Fm (p : Addr) (H H' : Hp) : Prop := ∀ b o, b ≠ p → H b = some o → H' b = some o
section
variable {K : PySem.W.Frag} {H H' H1 : Hp} {a b p q : Addr} {xs ys : List V} {o : HO}
theorem Fm.refl : Fm p H H := fun _ _ _ h => h
theorem Fm.trans (e : Fm p H H1) (f : Fm p H1 H') : Fm p H H' := fun b o n h => f b o n (e b o n h)
theorem Same_fm (e : Same H H') : Fm p H H' := fun b o _ h => e b o h
theorem fm_of (e : Same (mn H p) (mn H' p)) : Fm p H H' := fun b o n h => by
  have := e b o (by rw [mn_ne n]; exact h)
  rw [mn_ne n] at this
  exact this
theorem Fm.mn (e : Fm p H H') : Same (mn H p) (mn H' p) := fun b o h => by
  by_cases q : b = p
  · rw [q, mn_same] at h
    cases h
  · rw [mn_ne q] at h ⊢
    exact e _ _ q h
theorem fm_new (h : H a = none) : Fm p H (upd H a o) := Same_fm (sm_new h)
theorem fm_upd : Fm p H (upd H p o) := fun b u n h => by
  rw [upd_ne n]
  exact h
/-- what stood free and is changed -/
theorem Fm.mut (e : Fm p H H') (h : H a = none) : Fm p H (upd H' a o) := fun b u n q => by
  rw [upd_ne (ne_of_none q h)]
  exact e b u n q
theorem Fm.free (e : Fm p H H') (n : a ≠ p) (h : H' a = none) : H a = none := by
  cases q : H a with
  | none => rfl
  | some u =>
    rw [e a u n q] at h
    cases h
/-- tuples are kept -/
def Tk (H H' : Hp) : Prop := ∀ b xs, (H b = some (.tup xs) → H' b = some (.tup xs)) ∧ ∀ o, H b = some (.frz o (.tup xs)) → H' b = some (.frz o (.tup xs))
theorem Tk.refl : Tk H H := fun _ _ => ⟨id, fun _ => id⟩
theorem Tk.trans (e : Tk H H1) (f : Tk H1 H') : Tk H H' := fun b xs => ⟨fun h => (f b xs).1 ((e b xs).1 h), fun o h => (f b xs).2 o ((e b xs).2 o h)⟩
theorem Same_tk (e : Same H H') : Tk H H' := fun b xs => ⟨e b _, fun _ => e b _⟩
theorem Fm.tk (e : Fm p H H') (h : H p = some (.lst ys)) : Tk H H' := fun b xs =>
  ⟨fun q => e b _ (ne_of q h (fun z => by cases z)) q, fun o q => e b _ (ne_of q h (fun z => by cases z)) q⟩
theorem tk_lst (h : H p = some (.lst ys)) : Tk H (upd H p o) := fun b xs =>
  ⟨fun q => by rw [upd_ne (ne_of q h (fun z => by cases z))]; exact q, fun o q => by rw [upd_ne (ne_of q h (fun z => by cases z))]; exact q⟩
theorem tk_dK {kvs : List (Key × V)} (h : H p = some (.dK kvs)) : Tk H (upd H p o) := fun b xs =>
  ⟨fun q => by rw [upd_ne (ne_of q h (fun z => by cases z))]; exact q, fun o q => by rw [upd_ne (ne_of q h (fun z => by cases z))]; exact q⟩
theorem tk_new (h : H p = none) : Tk H (upd H p o) := Same_tk (sm_new h)
theorem tk_t (e : Tk H H') (h : SqT K H a xs) : SqT K H' a xs := by
  rcases h with (h | ⟨o, h⟩) | h
  · exact .inl (.inl ((e _ _).1 h))
  · exact .inl (.inr ⟨o, (e _ _).2 o h⟩)
  · exact .inr h
end

/-! ### data -/
section
variable {K : PySem.W.Frag} {H H' : Hp}
mutual
theorem dp_mono (e : Same H H') : ∀ {v : V} {d : PyData}, Dp K H v d → Dp K H' v d
  | _, _, .non => .non
  | _, _, .bl b => .bl b
  | _, _, .int i => .int i
  | _, _, .str x => .str x
  | _, _, .lst s a => .lst (sm_l e s) (dpa_mono e a)
  | _, _, .tup s a => .tup (sm_t e s) (dpa_mono e a)
theorem dpa_mono (e : Same H H') : ∀ {vs : List V} {ds : List PyData}, DpAll K H vs ds → DpAll K H' vs ds
  | _, _, .nil => .nil
  | _, _, .cons h t => .cons (dp_mono e h) (dpa_mono e t)
end
theorem dpa_len : ∀ {vs : List V} {ds : List PyData}, DpAll K H vs ds → vs.length = ds.length
  | _, _, .nil => rfl
  | _, _, .cons _ t => congrArg (· + 1) (dpa_len t)
theorem dpa_get : ∀ {vs : List V} {ds : List PyData} {i : Nat} {d : PyData}, DpAll K H vs ds → ds[i]? = some d → ∃ v, vs[i]? = some v ∧ Dp K H v d
  | _, _, _, _, .nil, e => by simp at e
  | _, _, 0, _, .cons h _, e => by
    simp at e
    subst e
    exact ⟨_, rfl, h⟩
  | _, _, i + 1, d, .cons _ t, e => by
    obtain ⟨v, h1, h2⟩ := dpa_get (i := i) (d := d) t (by simpa using e)
    exact ⟨v, by simpa using h1, h2⟩
/-- data without lists -/
inductive Tu : PyData → Prop
  | non : Tu .none
  | bl (b : Bool) : Tu (.bool b)
  | int (i : Int) : Tu (.int i)
  | str (x : Str) : Tu (.str x)
  | tup {ds : List PyData} (h : ∀ d, d ∈ ds → Tu d) : Tu (.tuple ds)
mutual
theorem dp_tk (e : Tk H H') : ∀ {v : V} {d : PyData}, Tu d → Dp K H v d → Dp K H' v d
  | _, _, _, .non => .non
  | _, _, _, .bl b => .bl b
  | _, _, _, .int i => .int i
  | _, _, _, .str x => .str x
  | _, _, t, .lst s a => nomatch t
  | _, _, t, .tup s a => .tup (tk_t e s) (dpa_tk e (fun d hd => by cases t with | tup h => exact h d hd) a)
theorem dpa_tk (e : Tk H H') : ∀ {vs : List V} {ds : List PyData}, (∀ d, d ∈ ds → Tu d) → DpAll K H vs ds → DpAll K H' vs ds
  | _, _, _, .nil => .nil
  | _, _, t, .cons h r => .cons (dp_tk e (t _ (List.mem_cons_self ..)) h) (dpa_tk e (fun d hd => t d (List.mem_cons_of_mem _ hd)) r)
end
theorem dpa_app : ∀ {vs ws : List V} {ds es : List PyData}, DpAll K H vs ds → DpAll K H ws es → DpAll K H (vs ++ ws) (ds ++ es)
  | _, _, _, _, .nil, h => h
  | _, _, _, _, .cons a t, h => .cons a (dpa_app t h)
/-- the types of what is read -/
theorem tyx_t {a : Addr} {xs : List V} (s : SqT K H a xs) : TyX K H (.ref a) (.type "tuple") := by
  rcases s with (s | ⟨o, s⟩) | ⟨o, its, n, e, c, _⟩
  · exact .base (.tup s)
  · exact .fTuple s
  · exact .kTuple e c
theorem tyx_l {a : Addr} {xs : List V} (s : SqL K H a xs) : TyX K H (.ref a) (.type "list") := by
  rcases s with (s | ⟨o, s⟩) | ⟨o, its, n, e, c, _⟩
  · exact .base (.lst s)
  · exact .base (.frz s)
  · exact .kList e c
theorem r_isi {Q : VK} {x : V} {a c : String} (b : Bool) (ty : TyX K H x (.type a)) (e : kitB a c = some b) (h : Q (.bl b) H) : rIsi K [x, .ty c] H Q := ⟨x, .ty c, .type a, .type c, b, rfl, .ty c, ty, kit_ty e, h⟩
/-- data at most n deep -/
inductive Dn : Nat → PyData → Prop
  | non (n : Nat) : Dn n .none
  | bl (n : Nat) (b : Bool) : Dn n (.bool b)
  | int (n : Nat) (i : Int) : Dn n (.int i)
  | str (n : Nat) (x : Str) : Dn n (.str x)
  | tup {n : Nat} {ds : List PyData} (l : ds.length ≤ 100000) (h : ∀ d, d ∈ ds → Dn n d) : Dn (n + 1) (.tuple ds)
  | lst {n : Nat} {ds : List PyData} (l : ds.length ≤ 100000) (h : ∀ d, d ∈ ds → Dn n d) : Dn (n + 1) (.list ds)
theorem Dn.up : ∀ {n : Nat} {d : PyData}, Dn n d → Dn (n + 1) d
  | _, _, .non _ => .non _
  | _, _, .bl _ b => .bl _ b
  | _, _, .int _ i => .int _ i
  | _, _, .str _ x => .str _ x
  | _, _, .tup l h => .tup l fun d hd => (h d hd).up
  | _, _, .lst l h => .lst l fun d hd => (h d hd).up
end
end Bo

/-! ### what code is worth, as functions on plain values: lists that are changed belong to one slot each -/
namespace Bo
open PySem L2
/-! data that stand: lists and tuples that nobody changes -/
mutual
inductive Da (K : PySem.W.Frag) (B : Hp) : V → PyData → Prop
  | non : Da K B .non .none
  | bl (b : Bool) : Da K B (.bl b) (.bool b)
  | int (i : Int) : Da K B (.int i) (.int i)
  | str (x : Str) : Da K B (.str x) (.str x)
  | lst {a : Addr} {xs : List V} {ds : List PyData} (s : B a = some (.lst xs)) (h : DaAll K B xs ds) : Da K B (.ref a) (.list ds)
  | tup {a : Addr} {xs : List V} {ds : List PyData} (s : SqT K B a xs) (h : DaAll K B xs ds) : Da K B (.ref a) (.tuple ds)
inductive DaAll (K : PySem.W.Frag) (B : Hp) : List V → List PyData → Prop
  | nil : DaAll K B [] []
  | cons {v : V} {d : PyData} {vs : List V} {ds : List PyData} (h : Da K B v d) (t : DaAll K B vs ds) : DaAll K B (v :: vs) (d :: ds)
end
section
variable {K : PySem.W.Frag} {B B' : Hp}
mutual
theorem da_mono (e : Same B B') : ∀ {v : V} {d : PyData}, Da K B v d → Da K B' v d
  | _, _, .non => .non
  | _, _, .bl b => .bl b
  | _, _, .int i => .int i
  | _, _, .str x => .str x
  | _, _, .lst s a => .lst (e _ _ s) (daa_mono e a)
  | _, _, .tup s a => .tup (sm_t e s) (daa_mono e a)
theorem daa_mono (e : Same B B') : ∀ {vs : List V} {ds : List PyData}, DaAll K B vs ds → DaAll K B' vs ds
  | _, _, .nil => .nil
  | _, _, .cons h t => .cons (da_mono e h) (daa_mono e t)
end
mutual
theorem da_dp : ∀ {v : V} {d : PyData}, Da K B v d → Dp K B v d
  | _, _, .non => .non
  | _, _, .bl b => .bl b
  | _, _, .int i => .int i
  | _, _, .str x => .str x
  | _, _, .lst s a => .lst (SqL.of s) (daa_dp a)
  | _, _, .tup s a => .tup s (daa_dp a)
theorem daa_dp : ∀ {vs : List V} {ds : List PyData}, DaAll K B vs ds → DpAll K B vs ds
  | _, _, .nil => .nil
  | _, _, .cons h t => .cons (da_dp h) (daa_dp t)
end
theorem daa_len : ∀ {vs : List V} {ds : List PyData}, DaAll K B vs ds → vs.length = ds.length
  | _, _, .nil => rfl
  | _, _, .cons _ t => congrArg (· + 1) (daa_len t)
theorem daa_get : ∀ {vs : List V} {ds : List PyData} {i : Nat} {d : PyData}, DaAll K B vs ds → ds[i]? = some d → ∃ v, vs[i]? = some v ∧ Da K B v d
  | _, _, _, _, .nil, e => nomatch (show (none : Option PyData) = some _ from e)
  | _, _, 0, _, .cons h _, e => by
    cases (Option.some.inj e)
    exact ⟨_, rfl, h⟩
  | _, _, i + 1, d, .cons _ t, e => daa_get (i := i) (d := d) t e
theorem daa_at : ∀ {vs : List V} {ds : List PyData} {i : Nat} {v : V}, DaAll K B vs ds → vs[i]? = some v → ∃ d, ds[i]? = some d ∧ Da K B v d
  | _, _, _, _, .nil, e => nomatch (show (none : Option V) = some _ from e)
  | _, _, 0, _, .cons h _, e => by
    cases (Option.some.inj e)
    exact ⟨_, rfl, h⟩
  | _, _, i + 1, d, .cons _ t, e => daa_at (i := i) (v := d) t e
theorem daa_app : ∀ {vs ws : List V} {ds es : List PyData}, DaAll K B vs ds → DaAll K B ws es → DaAll K B (vs ++ ws) (ds ++ es)
  | _, _, _, _, .nil, s => s
  | _, _, _, _, .cons h t, s => .cons h (daa_app t s)
theorem daa_take : ∀ {vs : List V} {ds : List PyData} (n : Nat), DaAll K B vs ds → DaAll K B (vs.take n) (ds.take n)
  | _, _, 0, _ => .nil
  | _, _, _ + 1, .nil => .nil
  | _, _, n + 1, .cons h t => .cons h (daa_take n t)
theorem daa_drop : ∀ {vs : List V} {ds : List PyData} (n : Nat), DaAll K B vs ds → DaAll K B (vs.drop n) (ds.drop n)
  | _, _, 0, h => h
  | _, _, _ + 1, .nil => .nil
  | _, _, n + 1, .cons _ t => daa_drop n t
theorem daa_rev : ∀ {vs : List V} {ds : List PyData}, DaAll K B vs ds → DaAll K B vs.reverse ds.reverse
  | _, _, .nil => .nil
  | _, _, .cons h t => by
    rw [List.reverse_cons, List.reverse_cons]
    exact daa_app (daa_rev t) (.cons h .nil)
theorem daa_set : ∀ {vs : List V} {ds : List PyData} {v : V} {d : PyData} (i : Nat), DaAll K B vs ds → Da K B v d → DaAll K B (vs.set i v) (ds.set i d)
  | _, _, _, _, _, .nil, _ => .nil
  | _, _, _, _, 0, .cons _ t, h => .cons h t
  | _, _, _, _, i + 1, .cons g t, h => .cons g (daa_set i t h)
theorem daa_rep {vs : List V} {ds : List PyData} (h : DaAll K B vs ds) : ∀ n : Nat, DaAll K B (List.replicate n vs).flatten (List.replicate n ds).flatten
  | 0 => .nil
  | n + 1 => by
    rw [List.replicate_succ, List.replicate_succ, List.flatten_cons, List.flatten_cons]
    exact daa_app h (daa_rep h n)
theorem daa_ints : ∀ {vs : List V} {ns : List Int}, DaAll K B vs (ns.map PyData.int) → vs = ns.map V.int
  | _, [], h => by cases h; rfl
  | _, n :: ns, h => by
    cases h with
    | cons h t =>
      cases h
      rw [daa_ints t]
      rfl
theorem ints_daa : ∀ (ns : List Int), DaAll K B (ns.map V.int) (ns.map PyData.int)
  | [] => .nil
  | n :: ns => .cons (.int n) (ints_daa ns)
end
structure Exc where
  cls : String
  arg : Option PyData
inductive R (α : Type) where
  | ok (a : α)
  | err (e : Exc)
  | bad
namespace R
variable {α β : Type}
def bind (x : R α) (f : α → R β) : R β := match x with
  | .ok a => f a
  | .err e => .err e
  | .bad => .bad
@[simp] theorem bind_ok {a : α} {f : α → R β} : bind (.ok a) f = f a := rfl
@[simp] theorem bind_err {e : Exc} {f : α → R β} : bind (.err e) f = .err e := rfl
@[simp] theorem bind_bad {f : α → R β} : bind .bad f = .bad := rfl
/-- only where c holds -/
def when (c : Prop) [Decidable c] (x : R α) : R α := if c then x else .bad
@[simp] theorem when_pos {c : Prop} [Decidable c] {x : R α} (h : c) : when c x = x := if_pos h
theorem when_neg {c : Prop} [Decidable c] {x : R α} (h : ¬ c) : when c x = .bad := if_neg h
end R
/-- a slot's worth: data that stay, a list of its own, a dict of its own -/
inductive SV where
  | dat (d : PyData)
  | own (ds : List PyData)
  | dic (kvs : List (Key × PyData))
  | scr (ns : List Int)
def SV.mine : SV → Bool
  | .dat _ => false
  | .scr _ => false
  | _ => true
abbrev SS := List (Option SV)
/-- the entry: the heap, what of it stays, the boxes (the first parameters), what errors are to meet -/
structure Ct (K : PySem.W.Frag) (n : Nat) where
  H0 : Hp
  B0 : Hp
  bx : List Addr
  hbx : bx.length = n
  er : Exc → V → Hp → Prop
section
variable {K : PySem.W.Frag} {n : Nat}
structure Base (C : Ct K n) (H B : Hp) : Prop where
  keep : ∀ a o, a ∉ C.bx → C.H0 a = some o → H a = some o
  b0 : Same C.B0 B
  bh : Same B H
  fr : ∀ a o, B a = some o → C.B0 a = some o ∨ C.H0 a = none
def DpKs (K : PySem.W.Frag) (B : Hp) (ws : List (Key × V)) (kvs : List (Key × PyData)) : Prop := Paired (fun w k => w.1 = k.1 ∧ Da K B w.2 k.2) ws kvs
def SR (C : Ct K n) (H B : Hp) (v : V) : SV → Prop
  | .scr ns => ∃ a, v = .ref a ∧ SqL K B a (ns.map V.int)
  | .dat d => Da K B v d
  | .own ds => ∃ a vs, v = .ref a ∧ H a = some (.lst vs) ∧ B a = none ∧ DaAll K B vs ds
  | .dic kvs => ∃ a ws, v = .ref a ∧ H a = some (.dK ws) ∧ B a = none ∧ DpKs K B ws kvs
structure Rep (C : Ct K n) (σ : L2.St) (H B : Hp) (S : SS) : Prop where
  base : Base C H B
  len : S.length = σ.length
  slot : ∀ (i : Nat) s, S[i]? = some (some s) → ∃ v, σ[i]? = some (some v) ∧ SR C H B v s
  dis : ∀ (i j : Nat) s u a, S[i]? = some (some s) → S[j]? = some (some u) → s.mine = true → u.mine = true → σ[i]? = some (some (.ref a)) → σ[j]? = some (some (.ref a)) → i = j
  ownf : ∀ (i : Nat) s a, S[i]? = some (some s) → s.mine = true → σ[i]? = some (some (.ref a)) → C.H0 a = none ∨ C.bx[i]? = some a
  box : ∀ (i : Nat) a, C.bx[i]? = some a → σ[i]? = some (some (.ref a)) ∧ ∃ s, S[i]? = some (some s) ∧ s.mine = true
/-- an error goes out -/
def Ct.Out (C : Ct K n) (e : Exc) : Prop := ∀ H B v, Base C H B → (∀ d, e.arg = some d → Da K B v d) → C.er e v H
def Post {α : Type} (C : Ct K n) (x : R α) (k : α → Prop) : Prop := match x with
  | .ok a => k a
  | .err e => C.Out e
  | .bad => False
section
variable {α β : Type} {C : Ct K n} {x : R α} {f : α → R β} {k k' : α → Prop} {g : β → Prop}
theorem post_bind : Post C (x.bind f) g ↔ Post C x fun a => Post C (f a) g := by cases x <;> exact Iff.rfl
theorem Post.mono (h : Post C x k) (m : ∀ a, k a → k' a) : Post C x k' := by
  cases x with
  | ok a => exact m a h
  | err e => exact h
  | bad => exact h
theorem post_when {c : Prop} [Decidable c] : Post C (R.when c x) k ↔ c ∧ Post C x k := by
  by_cases h : c
  · rw [R.when_pos h]
    exact ⟨fun q => ⟨h, q⟩, fun q => q.2⟩
  · rw [R.when_neg h]
    exact ⟨fun q => q.elim, fun q => (h q.1).elim⟩
theorem post_ok {a : α} : Post C (.ok a) k ↔ k a := Iff.rfl
end
/-! ### judgements: a reading's worth -/
abbrev VE := SS → R (PyData × SS)
abbrev VT := SS → R (Bool × SS)
abbrev VA := SS → R (List PyData × SS)
inductive FL where
  | nx (S : SS) | rt (d : PyData) (S : SS) | bk (S : SS) | ct (S : SS)
abbrev VS := SS → R FL
def SE (C : Ct K n) (t : TE) (f : VE) : Prop := ∀ (σ : L2.St) (H B : Hp) (S : SS) (Q : VK), Rep C σ H B S →
  Post C (f S) (fun p => ∀ v H' B', Rep C σ H' B' p.2 → Same B B' → Da K B' v p.1 → Q v H') → t σ H Q
def ST (C : Ct K n) (t : TT) (f : VT) : Prop := ∀ (σ : L2.St) (H B : Hp) (S : SS) (Q : Bool → Hp → Prop), Rep C σ H B S →
  Post C (f S) (fun p => ∀ H' B', Rep C σ H' B' p.2 → Same B B' → Q p.1 H') → t σ H Q
def SA (C : Ct K n) (t : TA) (f : VA) : Prop := ∀ (σ : L2.St) (H B : Hp) (S : SS) (Q : List V → Hp → Prop), Rep C σ H B S →
  Post C (f S) (fun p => ∀ vs H' B', Rep C σ H' B' p.2 → Same B B' → DaAll K B' vs p.1 → Q vs H') → t σ H Q
def FlPost (C : Ct K n) (B : Hp) (D : Ends) : FL → Prop
  | .nx S' => ∀ σ' H' B', Rep C σ' H' B' S' → Same B B' → D.nx σ' H'
  | .rt d S' => ∀ v σ' H' B', Rep C σ' H' B' S' → Same B B' → Da K B' v d → D.rt v H'
  | .bk S' => ∀ σ' H' B', Rep C σ' H' B' S' → Same B B' → D.bk σ' H'
  | .ct S' => ∀ σ' H' B', Rep C σ' H' B' S' → Same B B' → D.ct σ' H'
def SSt (C : Ct K n) (t : TS) (f : VS) : Prop := ∀ (σ : L2.St) (H B : Hp) (S : SS) (D : Ends), Rep C σ H B S → Post C (f S) (FlPost C B D) → t D σ H
/-! ### the state under changes -/
section
variable {C : Ct K n} {σ : L2.St} {H B : Hp} {S : SS}
theorem Rep.own_at (R : Rep C σ H B S) {i : Nat} {s : SV} (h : S[i]? = some (some s)) (m : s.mine = true) : ∃ a o, σ[i]? = some (some (.ref a)) ∧ H a = some o ∧ B a = none := by
  obtain ⟨v, hv, r⟩ := R.slot i s h
  cases s with
  | dat d => cases m
  | scr ns => cases m
  | own ds =>
    obtain ⟨a, vs, rfl, h1, h2, _⟩ := r
    exact ⟨a, _, hv, h1, h2⟩
  | dic ds =>
    obtain ⟨a, vs, rfl, h1, h2, _⟩ := r
    exact ⟨a, _, hv, h1, h2⟩
theorem Rep.new (R : Rep C σ H B S) {p : Addr} (hp : H p = none) : C.H0 p = none ∧ B p = none ∧ p ∉ C.bx := by
  have nb : p ∉ C.bx := fun hb => by
    obtain ⟨i, hi⟩ := List.getElem?_of_mem hb
    obtain ⟨e, s, hs, m⟩ := R.box i p hi
    obtain ⟨a, o, e2, h2, _⟩ := R.own_at hs m
    rw [e] at e2
    cases e2
    rw [hp] at h2
    cases h2
  refine ⟨?_, ?_, nb⟩
  · cases q : C.H0 p with
    | none => rfl
    | some o =>
      rw [R.base.keep p o nb q] at hp
      cases hp
  · cases q : B p with
    | none => rfl
    | some o =>
      rw [R.base.bh p o q] at hp
      cases hp
theorem dpks_mono {B B' : Hp} (e : Same B B') : ∀ {ws : List (Key × V)} {ks : List (Key × PyData)}, DpKs K B ws ks → DpKs K B' ws ks
  | _, _, .nil => .nil
  | _, _, .cons h t => .cons ⟨h.1, da_mono e h.2⟩ (dpks_mono e t)
theorem SR.mono {H' B' : Hp} {v : V} {s : SV} (eB : Same B B') (hh : s.mine = true → ∀ a, v = .ref a → ∀ o, H a = some o → B a = none → H' a = some o ∧ B' a = none) (h : SR C H B v s) : SR C H' B' v s := by
  cases s with
  | dat d => exact da_mono eB h
  | scr ns =>
    obtain ⟨a, e, q⟩ := h
    exact ⟨a, e, sm_l eB q⟩
  | own ds =>
    obtain ⟨a, vs, rfl, h1, h2, h3⟩ := h
    obtain ⟨q1, q2⟩ := hh rfl a rfl _ h1 h2
    exact ⟨a, vs, rfl, q1, q2, daa_mono eB h3⟩
  | dic ds =>
    obtain ⟨a, vs, rfl, h1, h2, h3⟩ := h
    obtain ⟨q1, q2⟩ := hh rfl a rfl _ h1 h2
    exact ⟨a, vs, rfl, q1, q2, dpks_mono eB h3⟩
/-- the heaps grow (or change where nothing of ours stands) -/
theorem Rep.grow {H' B' : Hp} (R : Rep C σ H B S) (b : Base C H' B') (eB : Same B B') (hh : ∀ a o, H a = some o → B a = none → (∃ i : Nat, ∃ s, S[i]? = some (some s) ∧ s.mine = true ∧ σ[i]? = some (some (.ref a))) → H' a = some o ∧ B' a = none) : Rep C σ H' B' S :=
  ⟨b, R.len, fun i s h => by
    obtain ⟨v, hv, r⟩ := R.slot i s h
    exact ⟨v, hv, SR.mono eB (fun m a e o h1 h2 => hh a o h1 h2 ⟨i, s, h, m, by rw [hv, e]⟩) r⟩, R.dis, R.ownf, R.box⟩
/-- a new thing that stays -/
theorem Rep.laid (R : Rep C σ H B S) {p : Addr} {o : HO} (hp : H p = none) : Rep C σ (upd H p o) (upd B p o) S ∧ Same B (upd B p o) := by
  obtain ⟨h0, hb, nb⟩ := R.new hp
  have eB : Same B (upd B p o) := sm_new hb
  refine ⟨R.grow ⟨fun a u n q => ?_, R.base.b0.trans eB, fun a u q => ?_, fun a u q => ?_⟩ eB fun a u h1 h2 _ => ?_, eB⟩
  · rw [upd_ne (ne_of_none q h0)]
    exact R.base.keep a u n q
  · by_cases e : a = p
    · subst e
      rw [upd_same] at q ⊢
      exact q
    · rw [upd_ne e] at q ⊢
      exact R.base.bh a u q
  · by_cases e : a = p
    · subst e
      exact .inr h0
    · rw [upd_ne e] at q
      exact R.base.fr a u q
  · have n := ne_of_none h1 hp
    rw [upd_ne n, upd_ne n]
    exact ⟨h1, h2⟩
/-- a new thing that does not stay (it may be taken by a slot) -/
theorem Rep.loose (R : Rep C σ H B S) {p : Addr} {o : HO} (hp : H p = none) : Rep C σ (upd H p o) B S := by
  obtain ⟨h0, hb, nb⟩ := R.new hp
  refine R.grow ⟨fun a u n q => ?_, R.base.b0, fun a u q => ?_, R.base.fr⟩ (Same.refl _) fun a u h1 h2 _ => ?_
  · rw [upd_ne (ne_of_none q h0)]
    exact R.base.keep a u n q
  · rw [upd_ne (ne_of_none q hb)]
    exact R.base.bh a u q
  · rw [upd_ne (ne_of_none h1 hp)]
    exact ⟨h1, h2⟩
/-- a slot is stored: data -/
theorem Rep.put (R : Rep C σ H B S) {i : Nat} {v : V} {d : PyData} (hb : n ≤ i) (h : Da K B v d) : Rep C (σ.set i (some v)) H B (S.set i (some (.dat d))) := by
  have ne : ∀ j s, (S.set i (some (.dat d)))[j]? = some (some s) → s.mine = true → j ≠ i ∧ S[j]? = some (some s) := fun j s h m => by
    by_cases e : j = i
    · subst e
      have hl : j < S.length := by
        have := (List.getElem?_eq_some_iff.mp h).1
        simpa using this
      rw [List.getElem?_set_self hl] at h
      cases h
      cases m
    · rw [List.getElem?_set_ne (Ne.symm e)] at h
      exact ⟨e, h⟩
  refine ⟨R.base, by simp [R.len], fun j s h2 => ?_, fun j k s u a h1 h2 m1 m2 e1 e2 => ?_, fun j s a h1 m e => ?_, fun j a h1 => ?_⟩
  · by_cases e : j = i
    · subst e
      have hl : j < S.length := by
        have := (List.getElem?_eq_some_iff.mp h2).1
        simpa using this
      rw [List.getElem?_set_self hl] at h2
      cases h2
      exact ⟨v, List.getElem?_set_self (by rw [← R.len]; exact hl), h⟩
    · rw [List.getElem?_set_ne (Ne.symm e)] at h2 ⊢
      exact R.slot j s h2
  · obtain ⟨n1, q1⟩ := ne j s h1 m1
    obtain ⟨n2, q2⟩ := ne k u h2 m2
    rw [List.getElem?_set_ne (Ne.symm n1)] at e1
    rw [List.getElem?_set_ne (Ne.symm n2)] at e2
    exact R.dis j k s u a q1 q2 m1 m2 e1 e2
  · obtain ⟨n1, q1⟩ := ne j s h1 m
    rw [List.getElem?_set_ne (Ne.symm n1)] at e
    exact R.ownf j s a q1 m e
  · have n1 : j ≠ i := by
      have := (List.getElem?_eq_some_iff.mp h1).1
      have := C.hbx
      omega
    rw [List.getElem?_set_ne (Ne.symm n1), List.getElem?_set_ne (Ne.symm n1)]
    exact R.box j a h1
/-- a slot takes a new list or dict -/
theorem Rep.take (R : Rep C σ H B S) {i : Nat} {p : Addr} {s : SV} (hb : n ≤ i) (m : s.mine = true) (h : SR C H B (.ref p) s) (h0 : C.H0 p = none)
    (hf : ∀ (j : Nat) u, S[j]? = some (some u) → u.mine = true → σ[j]? ≠ some (some (.ref p))) : Rep C (σ.set i (some (.ref p))) H B (S.set i (some s)) := by
  have at_ : ∀ j u, (S.set i (some s))[j]? = some (some u) → (j = i ∧ u = s ∧ (σ.set i (some (.ref p)))[j]? = some (some (.ref p))) ∨ (j ≠ i ∧ S[j]? = some (some u) ∧ (σ.set i (some (.ref p)))[j]? = σ[j]?) := fun j u h => by
    by_cases e : j = i
    · subst e
      have hl : j < S.length := by
        have := (List.getElem?_eq_some_iff.mp h).1
        simpa using this
      rw [List.getElem?_set_self hl] at h
      cases h
      exact .inl ⟨rfl, rfl, List.getElem?_set_self (by rw [← R.len]; exact hl)⟩
    · rw [List.getElem?_set_ne (Ne.symm e)] at h
      exact .inr ⟨e, h, List.getElem?_set_ne (Ne.symm e)⟩
  refine ⟨R.base, by simp [R.len], fun j u h2 => ?_, fun j k u w a h1 h2 m1 m2 e1 e2 => ?_, fun j u a h1 m e => ?_, fun j a h1 => ?_⟩
  · rcases at_ j u h2 with ⟨e, e2, e3⟩ | ⟨n, q, e3⟩
    · subst e2
      exact ⟨_, e3, h⟩
    · rw [e3]
      exact R.slot j u q
  · rcases at_ j u h1 with ⟨x1, x2, x3⟩ | ⟨x1, x2, x3⟩
    · rcases at_ k w h2 with ⟨y1, y2, y3⟩ | ⟨y1, y2, y3⟩
      · rw [x1, y1]
      · rw [x3] at e1
        cases e1
        rw [y3] at e2
        exact absurd e2 (hf k w y2 m2)
    · rcases at_ k w h2 with ⟨y1, y2, y3⟩ | ⟨y1, y2, y3⟩
      · rw [y3] at e2
        cases e2
        rw [x3] at e1
        exact absurd e1 (hf j u x2 m1)
      · rw [x3] at e1
        rw [y3] at e2
        exact R.dis j k u w a x2 y2 m1 m2 e1 e2
  · rcases at_ j u h1 with ⟨x1, x2, x3⟩ | ⟨x1, x2, x3⟩
    · rw [x3] at e
      cases e
      exact .inl h0
    · rw [x3] at e
      exact R.ownf j u a x2 m e
  · have n1 : j ≠ i := by
      have := (List.getElem?_eq_some_iff.mp h1).1
      have := C.hbx
      omega
    rw [List.getElem?_set_ne (Ne.symm n1), List.getElem?_set_ne (Ne.symm n1)]
    exact R.box j a h1
/-- a list or dict of a slot is changed -/
theorem Rep.write (R : Rep C σ H B S) {i : Nat} {a : Addr} {s s' : SV} {o : HO} (h : S[i]? = some (some s)) (m : s.mine = true) (m' : s'.mine = true) (hv : σ[i]? = some (some (.ref a))) (r : SR C (upd H a o) B (.ref a) s') :
    Rep C σ (upd H a o) B (S.set i (some s')) := by
  obtain ⟨a', o', e1, e2, e3⟩ := R.own_at h m
  rw [hv] at e1
  cases e1
  have hl : i < S.length := (List.getElem?_eq_some_iff.mp h).1
  have at_ : ∀ j u, (S.set i (some s'))[j]? = some (some u) → (j = i ∧ u = s') ∨ (j ≠ i ∧ S[j]? = some (some u)) := fun j u h => by
    by_cases e : j = i
    · subst e
      rw [List.getElem?_set_self hl] at h
      cases h
      exact .inl ⟨rfl, rfl⟩
    · rw [List.getElem?_set_ne (Ne.symm e)] at h
      exact .inr ⟨e, h⟩
  have old : ∀ (j : Nat) (u : SV), (S.set i (some s'))[j]? = some (some u) → u.mine = true → ∃ u' : SV, S[j]? = some (some u') ∧ u'.mine = true := fun j u h2 m2 => by
    rcases at_ j u h2 with ⟨x1, x2⟩ | ⟨x1, x2⟩
    · subst x1
      exact ⟨s, h, m⟩
    · exact ⟨u, x2, m2⟩
  refine ⟨⟨fun b u n q => ?_, R.base.b0, fun b u q => ?_, R.base.fr⟩, by simp [R.len], fun j u h2 => ?_, fun j k u w b h1 h2 m1 m2 q1 q2 => ?_, fun j u b h1 m e => ?_, fun j b h1 => ?_⟩
  · have : b ≠ a := by
      rintro rfl
      rcases R.ownf i s b h m hv with z | z
      · rw [z] at q
        cases q
      · exact n (List.mem_of_getElem? z)
    rw [upd_ne this]
    exact R.base.keep b u n q
  · rw [upd_ne (ne_of_none q e3)]
    exact R.base.bh b u q
  · rcases at_ j u h2 with ⟨x1, x2⟩ | ⟨x1, x2⟩
    · subst x1 x2
      exact ⟨_, hv, r⟩
    · obtain ⟨v, q1, q2⟩ := R.slot j u x2
      refine ⟨v, q1, SR.mono (Same.refl _) (fun mu b e ob h1 h2 => ⟨?_, h2⟩) q2⟩
      rw [upd_ne]
      · exact h1
      · rintro rfl
        exact x1 (R.dis j i u s b x2 h mu m (by rw [q1, e]) hv)
  · obtain ⟨u', z1, z2⟩ := old j u h1 m1
    obtain ⟨w', z3, z4⟩ := old k w h2 m2
    exact R.dis j k u' w' b z1 z3 z2 z4 q1 q2
  · obtain ⟨u', z1, z2⟩ := old j u h1 m
    exact R.ownf j u' b z1 z2 e
  · obtain ⟨q1, u, q2, q3⟩ := R.box j b h1
    refine ⟨q1, ?_⟩
    by_cases e : j = i
    · subst e
      exact ⟨s', List.getElem?_set_self hl, m'⟩
    · rw [List.getElem?_set_ne (Ne.symm e)]
      exact ⟨u, q2, q3⟩
/-- a list of a slot stays from here on -/
theorem Rep.rest (R : Rep C σ H B S) {i : Nat} {ds : List PyData} (hb : n ≤ i) (h : S[i]? = some (some (.own ds))) : ∃ B', Rep C σ H B' (S.set i (some (.dat (.list ds)))) ∧ Same B B' := by
  obtain ⟨v, hv, a, vs, rfl, h1, h2, h3⟩ := R.slot i _ h
  have hl : i < S.length := (List.getElem?_eq_some_iff.mp h).1
  have eB : Same B (upd B a (.lst vs)) := sm_new h2
  refine ⟨upd B a (.lst vs), ⟨⟨R.base.keep, R.base.b0.trans eB, fun b o q => ?_, fun b o q => ?_⟩, by simp [R.len], fun j s hj => ?_, fun j k s u b q1 q2 m1 m2 e1 e2 => ?_, fun j s b q m e => ?_, fun j b q => ?_⟩, eB⟩
  · by_cases e : b = a
    · subst e
      rw [upd_same] at q
      cases q
      exact h1
    · rw [upd_ne e] at q
      exact R.base.bh b o q
  · by_cases e : b = a
    · subst e
      rcases R.ownf i _ b h rfl hv with z | z
      · exact .inr z
      · have := (List.getElem?_eq_some_iff.mp z).1
        have := C.hbx
        omega
    · rw [upd_ne e] at q
      exact R.base.fr b o q
  · by_cases e : j = i
    · subst e
      rw [List.getElem?_set_self hl] at hj
      cases hj
      exact ⟨_, hv, .lst (upd_same) (daa_mono eB h3)⟩
    · rw [List.getElem?_set_ne (Ne.symm e)] at hj
      obtain ⟨v, q1, q2⟩ := R.slot j s hj
      refine ⟨v, q1, SR.mono eB (fun mu b e2 ob z1 z2 => ⟨z1, ?_⟩) q2⟩
      rw [upd_ne]
      · exact z2
      · rintro rfl
        exact e (R.dis j i s _ b hj h mu rfl (by rw [q1, e2]) hv)
  · have n1 : j ≠ i := fun e => by
      subst e
      rw [List.getElem?_set_self hl] at q1
      cases q1
      cases m1
    have n2 : k ≠ i := fun e => by
      subst e
      rw [List.getElem?_set_self hl] at q2
      cases q2
      cases m2
    rw [List.getElem?_set_ne (Ne.symm n1)] at q1
    rw [List.getElem?_set_ne (Ne.symm n2)] at q2
    exact R.dis j k s u b q1 q2 m1 m2 e1 e2
  · have n1 : j ≠ i := fun e => by
      subst e
      rw [List.getElem?_set_self hl] at q
      cases q
      cases m
    rw [List.getElem?_set_ne (Ne.symm n1)] at q
    exact R.ownf j s b q m e
  · have n1 : j ≠ i := by
      have := (List.getElem?_eq_some_iff.mp q).1
      have := C.hbx
      omega
    obtain ⟨q1, u, q2, q3⟩ := R.box j b q
    exact ⟨q1, u, by rw [List.getElem?_set_ne (Ne.symm n1)]; exact q2, q3⟩
end
end
end Bo

/-! ### expressions -/
namespace Bo
open PySem L2
section
variable {K : PySem.W.Frag} {n : Nat} {C : Ct K n} {σ : L2.St} {H B : Hp} {S : SS}
/-! names, constants -/
def vVar (i : Nat) : VE := fun S => match S[i]? with
  | some (some (.dat d)) => .ok (d, S)
  | _ => .bad
theorem s_var {i : Nat} : SE C (tVar i) (vVar i) := by
  intro σ H B S Q R h
  unfold vVar at h
  split at h
  · rename_i d e
    obtain ⟨v, hv, r⟩ := R.slot i _ e
    exact ⟨v, hv, h v H B R (Same.refl _) r⟩
  · exact h.elim
def vC (d : PyData) : VE := fun S => .ok (d, S)
theorem s_int {m : Int} : SE C (tC (.int m)) (vC (.int m)) := fun _ H B _ _ R h => h _ H B R (Same.refl _) (.int m)
theorem s_bl {b : Bool} : SE C (tC (.bl b)) (vC (.bool b)) := fun _ H B _ _ R h => h _ H B R (Same.refl _) (.bl b)
theorem s_str {x : Str} : SE C (tC (.str x)) (vC (.str x)) := fun _ H B _ _ R h => h _ H B R (Same.refl _) (.str x)
theorem s_non : SE C (tC .non) (vC .none) := fun _ H B _ _ R h => h _ H B R (Same.refl _) .non
/-! operators -/
def SR2 (C : Ct K n) (r : R2) (g : PyData → PyData → R PyData) : Prop := ∀ (σ : L2.St) (H B : Hp) (S : SS) (x y : V) (d e : PyData) (Q : VK), Rep C σ H B S → Da K B x d → Da K B y e →
  Post C (g d e) (fun z => ∀ v H' B', Rep C σ H' B' S → Same B B' → Da K B' v z → Q v H') → r x y H Q
def vOp (g : PyData → PyData → R PyData) (fa fb : VE) : VE := fun S => (fa S).bind fun p => (fb p.2).bind fun q => (g p.1 q.1).bind fun z => .ok (z, q.2)
theorem s_op {r : R2} {g : PyData → PyData → R PyData} {ta tb : TE} {fa fb : VE} (hr : SR2 C r g) (ha : SE C ta fa) (hb : SE C tb fb) : SE C (tOp r ta tb) (vOp g fa fb) := by
  intro σ H B S Q R h
  unfold vOp at h
  rw [post_bind] at h
  refine ha σ H B S _ R (h.mono fun p h1 v H1 B1 R1 e1 d1 => ?_)
  rw [post_bind] at h1
  refine hb σ H1 B1 p.2 _ R1 (h1.mono fun q h2 w H2 B2 R2 e2 d2 => ?_)
  rw [post_bind] at h2
  exact hr σ H2 B2 q.2 v w p.1 q.1 Q R2 (da_mono e2 d1) d2 (h2.mono fun z h3 u H3 B3 R3 e3 d3 => h3 u H3 B3 R3 (e1.trans (e2.trans e3)) d3)
/-- a result that needs no heap -/
def Flat (K : PySem.W.Frag) (v : V) (d : PyData) : Prop := ∀ B, Da K B v d
def gI (f : Int → Int → Int) : PyData → PyData → R PyData
  | .int i, .int j => .ok (.int (f i j))
  | _, _ => .bad
def gIC (c : Int → Int → Bool) (f : Int → Int → Int) : PyData → PyData → R PyData
  | .int i, .int j => R.when (c i j = true) (.ok (.int (f i j)))
  | _, _ => .bad
def gIB (f : Int → Int → Bool) : PyData → PyData → R PyData
  | .int i, .int j => .ok (.bool (f i j))
  | _, _ => .bad
theorem o_i0 {f : Int → Int → Int} : SR2 C (rI0 fun i j => .int (f i j)) (gI f) := by
  intro σ H B S x y d e Q R h1 h2 h
  cases h1 <;> cases h2 <;> first | exact h.elim | exact ⟨_, _, rfl, rfl, h _ H B R (Same.refl _) (.int _)⟩
theorem o_ib {f : Int → Int → Bool} : SR2 C (rI0 fun i j => .bl (f i j)) (gIB f) := by
  intro σ H B S x y d e Q R h1 h2 h
  cases h1 <;> cases h2 <;> first | exact h.elim | exact ⟨_, _, rfl, rfl, h _ H B R (Same.refl _) (.bl _)⟩
theorem o_ic {c : Int → Int → Bool} {p : Int → Int → Prop} {f : Int → Int → Int} (hc : ∀ i j, c i j = true → p i j) : SR2 C (rI p fun i j => .int (f i j)) (gIC c f) := by
  intro σ H B S x y d e Q R h1 h2 h
  cases h1 <;> cases h2 <;> first
    | exact h.elim
    | (obtain ⟨k, h⟩ := post_when.mp h
       exact ⟨_, _, rfl, rfl, hc _ _ k, h _ H B R (Same.refl _) (.int _)⟩)
/-- a product, neither factor too long -/
def cMul (i j : Int) : Bool := decide (i.natAbs < 2 ^ 400000 ∧ j.natAbs < 2 ^ 400000)
def cFdiv (_ j : Int) : Bool := decide (j ≠ 0 ∧ j.natAbs < 2 ^ 8999)
def cMod (_ j : Int) : Bool := decide (j ≠ 0)
theorem lg_lt {m k : Nat} (h : m < 2 ^ k) (hk : 0 < k) : m.log2 < k := by
  by_cases e : m = 0
  · subst e
    exact hk
  · exact (Nat.log2_lt e).mpr h
theorem o_mul : SR2 C (rI CMulW fun i j => .int (i * j)) (gIC cMul fun i j => i * j) := o_ic fun i j h => by
  obtain ⟨h1, h2⟩ := of_decide_eq_true h
  have := lg_lt h1 (by decide)
  have := lg_lt h2 (by decide)
  unfold CMulW
  omega
theorem o_fdiv : SR2 C (rI CDivX fun i j => .int (i.fdiv j)) (gIC cFdiv Int.fdiv) := o_ic fun i j h => by
  obtain ⟨h1, h2⟩ := of_decide_eq_true h
  exact ⟨h1, Nat.lt_trans (lg_lt h2 (by decide)) (by decide)⟩
theorem o_mod : SR2 C (rI (fun _ j => j ≠ 0) fun i j => .int (i.fmod j)) (gIC cMod Int.fmod) := o_ic fun i j h => of_decide_eq_true h
/-- == of plain values -/
def eqF : PyData → PyData → Option Bool
  | .int i, .int j => some (decide (i = j))
  | .bool i, .bool j => some (decide (i = j))
  | .str i, .str j => some (decide (i = j))
  | .none, .none => some true
  | .none, .int _ => some false
  | .int _, .none => some false
  | .none, .bool _ => some false
  | .bool _, .none => some false
  | .none, .str _ => some false
  | .str _, .none => some false
  | .int _, .str _ => some false
  | .str _, .int _ => some false
  | .bool _, .str _ => some false
  | .str _, .bool _ => some false
  | _, _ => none
def gEq (d e : PyData) : R PyData := match eqF d e with
  | some b => .ok (.bool b)
  | none => .bad
def gNe (d e : PyData) : R PyData := match eqF d e with
  | some b => .ok (.bool (!b))
  | none => .bad
theorem eqF_ok {x y : V} {d e : PyData} {b : Bool} (h1 : Da K B x d) (h2 : Da K B y e) (h : eqF d e = some b) : scal x y = true ∧ decide (x = y) = b := by
  cases h1 <;> cases h2 <;> first
    | (cases h; done)
    | (cases (Option.some.inj h); exact ⟨rfl, by simp⟩)
theorem o_eq : SR2 C rEq gEq := by
  intro σ H B S x y d e Q R h1 h2 h
  unfold gEq at h
  split at h
  · rename_i b q
    obtain ⟨k, k2⟩ := eqF_ok h1 h2 q
    exact ⟨k, by rw [k2]; exact h _ H B R (Same.refl _) (.bl _)⟩
  · exact h.elim
theorem o_ne : SR2 C rNe gNe := by
  intro σ H B S x y d e Q R h1 h2 h
  unfold gNe at h
  split at h
  · rename_i b q
    obtain ⟨k, k2⟩ := eqF_ok h1 h2 q
    exact ⟨k, by rw [k2]; exact h _ H B R (Same.refl _) (.bl _)⟩
  · exact h.elim
def isNone : PyData → Bool
  | .none => true
  | _ => false
theorem o_isN : SR2 C (fun x y H Q => y = .non ∧ Q (.bl (decide (x = .non))) H) (fun d e => R.when (isNone e = true) (.ok (.bool (isNone d)))) := by
  intro σ H B S x y d e Q R h1 h2 h
  obtain ⟨k, h⟩ := post_when.mp h
  cases h2 <;> first | (cases k; done) | skip
  refine ⟨rfl, ?_⟩
  have q : decide (x = V.non) = isNone d := by cases h1 <;> simp [isNone]
  rw [q]
  exact h _ H B R (Same.refl _) (.bl _)
theorem o_notN : SR2 C (fun x y H Q => y = .non ∧ Q (.bl (!decide (x = .non))) H) (fun d e => R.when (isNone e = true) (.ok (.bool (!isNone d)))) := by
  intro σ H B S x y d e Q R h1 h2 h
  obtain ⟨k, h⟩ := post_when.mp h
  cases h2 <;> first | (cases k; done) | skip
  refine ⟨rfl, ?_⟩
  have q : decide (x = V.non) = isNone d := by cases h1 <;> simp [isNone]
  rw [q]
  exact h _ H B R (Same.refl _) (.bl _)
/-- == of deep data -/
def gEqD (d e : PyData) : R PyData := R.when (SeqAt.shaped d = true ∧ SeqAt.shaped e = true) (.ok (.bool (PyData.eqv d e)))
def gNeD (d e : PyData) : R PyData := R.when (SeqAt.shaped d = true ∧ SeqAt.shaped e = true) (.ok (.bool (!PyData.eqv d e)))
theorem o_eqD : SR2 C (rEqD K) gEqD := by
  intro σ H B S x y d e Q R h1 h2 h
  obtain ⟨⟨k1, k2⟩, h⟩ := post_when.mp h
  exact ⟨d, e, da_dp (da_mono R.base.bh h1), da_dp (da_mono R.base.bh h2), k1, k2, h _ H B R (Same.refl _) (.bl _)⟩
theorem o_neD : SR2 C (rNeD K) gNeD := by
  intro σ H B S x y d e Q R h1 h2 h
  obtain ⟨⟨k1, k2⟩, h⟩ := post_when.mp h
  exact ⟨d, e, da_dp (da_mono R.base.bh h1), da_dp (da_mono R.base.bh h2), k1, k2, h _ H B R (Same.refl _) (.bl _)⟩
/-- x in a sequence of plain values -/
def flatD : PyData → Bool
  | .none => true
  | .bool _ => true
  | .int _ => true
  | .str _ => true
  | _ => false
def eqP : PyData → PyData → Bool
  | .int i, .int j => decide (i = j)
  | .bool i, .bool j => decide (i = j)
  | .str i, .str j => decide (i = j)
  | .none, .none => true
  | .int i, .bool b => decide (i = if b then 1 else 0)
  | .bool b, .int i => decide ((if b then 1 else 0) = i)
  | _, _ => false
def inD (d : PyData) (ds : List PyData) : Bool := ds.any fun e => eqP e d
def itemsD : PyData → Option (List PyData)
  | .list ds => some ds
  | .tuple ds => some ds
  | _ => none
def gIn (neg : Bool) (d e : PyData) : R PyData := match itemsD e with
  | some ds => R.when (flatD d = true ∧ ds.all flatD = true) (.ok (.bool (if neg then !inD d ds else inD d ds)))
  | none => .bad
theorem flat_v {x : V} {d : PyData} (h : Da K B x d) (f : flatD d = true) : flatV x = true := by
  cases h <;> first | rfl | (cases f; done)
theorem eq_v {x y : V} {d e : PyData} (h : Da K B x d) (h2 : Da K B y e) (f : flatD d = true) (f2 : flatD e = true) : eqV x y = eqP d e := by
  cases h <;> first | (cases f; done) | (cases h2 <;> first | (cases f2; done) | rfl | simp [eqV, eqP])
theorem flats_v : ∀ {xs : List V} {ds : List PyData}, DaAll K B xs ds → ds.all flatD = true → xs.all flatV = true
  | _, _, .nil, _ => rfl
  | _, _, .cons h t, f => by
    rw [List.all_cons, Bool.and_eq_true] at f ⊢
    exact ⟨flat_v h f.1, flats_v t f.2⟩
theorem in_v {x : V} {d : PyData} (h : Da K B x d) (f : flatD d = true) : ∀ {xs : List V} {ds : List PyData}, DaAll K B xs ds → ds.all flatD = true → inV x xs = inD d ds
  | _, _, .nil, _ => rfl
  | _, _, .cons g t, q => by
    rw [List.all_cons, Bool.and_eq_true] at q
    show (eqV _ x || inV x _) = (eqP _ d || inD d _)
    rw [eq_v g h q.1 f, in_v h f t q.2]
theorem seq_of {y : V} {e : PyData} {ds : List PyData} (h : Da K B y e) (q : itemsD e = some ds) : ∃ p xs, y = .ref p ∧ (SqL K B p xs ∨ SqT K B p xs) ∧ DaAll K B xs ds := by
  cases h with
  | lst s a => cases (Option.some.inj q); exact ⟨_, _, rfl, .inl (SqL.of s), a⟩
  | tup s a => cases (Option.some.inj q); exact ⟨_, _, rfl, .inr s, a⟩
  | non => exact nomatch q
  | bl b => exact nomatch q
  | int i => exact nomatch q
  | str x => exact nomatch q
theorem seq_up {H : Hp} {p : Addr} {xs : List V} (e : Same B H) (h : SqL K B p xs ∨ SqT K B p xs) : SqL K H p xs ∨ SqT K H p xs := h.imp (sm_l e) (sm_t e)
theorem o_in {neg : Bool} : SR2 C (rIn K neg) (gIn neg) := by
  intro σ H B S x y d e Q R h1 h2 h
  unfold gIn at h
  split at h
  · rename_i ds q
    obtain ⟨⟨k1, k2⟩, h⟩ := post_when.mp h
    obtain ⟨p, xs, rfl, sq, da⟩ := seq_of h2 q
    refine ⟨p, xs, rfl, seq_up R.base.bh sq, flat_v h1 k1, flats_v da k2, ?_⟩
    rw [in_v h1 k1 da k2]
    exact h _ H B R (Same.refl _) (.bl _)
  · exact h.elim
/-- an item -/
def ixD (ds : List PyData) (i : Int) : R PyData := match atI ds i with
  | some d => .ok d
  | none => .bad
def gIxL : PyData → PyData → R PyData
  | .list ds, .int i => ixD ds i
  | _, _ => .bad
def gIxT : PyData → PyData → R PyData
  | .tuple ds, .int i => ixD ds i
  | _, _ => .bad
theorem at_da {xs : List V} {ds : List PyData} {i : Int} {d : PyData} (a : DaAll K B xs ds) (h : atI ds i = some d) : ∃ v, atI xs i = some v ∧ Da K B v d := by
  unfold atI at h ⊢
  rw [daa_len a]
  cases e : ixN ds.length i with
  | none => rw [e] at h; exact nomatch h
  | some j =>
    rw [e] at h
    exact daa_get a h
theorem o_ixL : SR2 C (rIxL K) gIxL := by
  intro σ H B S x y d e Q R h1 h2 h
  cases h1 with
  | lst s a =>
    cases h2 with
    | int i =>
      unfold gIxL ixD at h
      simp only at h
      split at h
      · rename_i z q
        obtain ⟨v, hv, dv⟩ := at_da a q
        exact ⟨_, _, _, v, rfl, rfl, SqL.of (R.base.bh _ _ s), hv, h v H B R (Same.refl _) dv⟩
      · exact h.elim
    | _ => exact h.elim
  | _ => exact h.elim
theorem o_ixT : SR2 C (rIxT K) gIxT := by
  intro σ H B S x y d e Q R h1 h2 h
  cases h1 with
  | tup s a =>
    cases h2 with
    | int i =>
      unfold gIxT ixD at h
      simp only at h
      split at h
      · rename_i z q
        obtain ⟨v, hv, dv⟩ := at_da a q
        exact ⟨_, _, _, v, rfl, rfl, sm_t R.base.bh s, hv, h v H B R (Same.refl _) dv⟩
      · exact h.elim
    | _ => exact h.elim
  | _ => exact h.elim
/-- + of lists, of tuples -/
def gCat : PyData → PyData → R PyData
  | .list ds, .list es => R.when (ds.length + es.length ≤ 100000) (.ok (.list (ds ++ es)))
  | _, _ => .bad
def gCatT : PyData → PyData → R PyData
  | .tuple ds, .tuple es => R.when (ds.length + es.length ≤ 100000) (.ok (.tuple (ds ++ es)))
  | _, _ => .bad
theorem line_le {m : Nat} (h : m ≤ 100000) : m ≤ sizeLine := Nat.le_trans h (by decide)
/-- a new list, a new tuple that stays -/
theorem Rep.lst (R : Rep C σ H B S) {p : Addr} {xs : List V} {ds : List PyData} (hp : H p = none) (a : DaAll K B xs ds) : ∃ B', Rep C σ (upd H p (.lst xs)) B' S ∧ Same B B' ∧ Da K B' (.ref p) (.list ds) := by
  obtain ⟨R1, e⟩ := R.laid (o := .lst xs) hp
  exact ⟨_, R1, e, .lst upd_same (daa_mono e a)⟩
theorem Rep.tup (R : Rep C σ H B S) {p : Addr} {xs : List V} {ds : List PyData} (hp : H p = none) (a : DaAll K B xs ds) : ∃ B', Rep C σ (upd H p (.tup xs)) B' S ∧ Same B B' ∧ Da K B' (.ref p) (.tuple ds) := by
  obtain ⟨R1, e⟩ := R.laid (o := .tup xs) hp
  exact ⟨_, R1, e, .tup (SqT.of upd_same) (daa_mono e a)⟩
theorem o_cat : SR2 C rCat gCat := by
  intro σ H B S x y d e Q R h1 h2 h
  cases h1 with
  | lst s a =>
    cases h2 with
    | lst s2 a2 =>
      obtain ⟨k, h⟩ := post_when.mp h
      refine ⟨_, _, _, _, rfl, rfl, R.base.bh _ _ s, R.base.bh _ _ s2, line_le (by rw [daa_len a, daa_len a2]; exact k), fun p hp => ?_⟩
      obtain ⟨B', R1, e1, d1⟩ := R.lst hp (daa_app a a2)
      exact h _ _ B' R1 e1 d1
    | _ => exact h.elim
  | _ => exact h.elim
theorem o_catT : SR2 C (rCatA K) gCatT := by
  intro σ H B S x y d e Q R h1 h2 h
  cases h1 with
  | tup s a =>
    cases h2 with
    | tup s2 a2 =>
      obtain ⟨k, h⟩ := post_when.mp h
      have l1 := daa_len a
      have l2 := daa_len a2
      refine ⟨_, _, _, _, rfl, rfl, sm_t R.base.bh s, sm_t R.base.bh s2, line_le (by rw [l1, l2]; exact k), fun e => ?_, fun _ e => ?_, fun _ _ p hp => ?_⟩
      · subst e
        cases a
        exact h _ H B R (Same.refl _) (.tup s2 a2)
      · subst e
        cases a2
        refine h _ H B R (Same.refl _) (.tup s ?_)
        rw [List.append_nil]
        exact a
      · obtain ⟨B', R1, e1, d1⟩ := R.tup hp (daa_app a a2)
        exact h _ _ B' R1 e1 d1
    | _ => exact h.elim
  | _ => exact h.elim
def gRep : PyData → PyData → R PyData
  | .list ds, .int k => R.when (ds.length * k.toNat ≤ 100000 ∧ k ≤ 100000 ∧ -100000 ≤ k) (.ok (.list (List.replicate k.toNat ds).flatten))
  | _, _ => .bad
theorem o_rep : SR2 C rRep gRep := by
  intro σ H B S x y d e Q R h1 h2 h
  cases h1 with
  | lst s a =>
    cases h2 with
    | int i =>
      obtain ⟨⟨k, k2, k3⟩, h⟩ := post_when.mp h
      refine ⟨_, _, _, rfl, rfl, R.base.bh _ _ s, by omega, by omega, line_le (by rw [daa_len a]; exact k), fun p hp => ?_⟩
      obtain ⟨B', R1, e1, d1⟩ := R.lst hp (daa_rep a i.toNat)
      exact h _ _ B' R1 e1 d1
    | _ => exact h.elim
  | _ => exact h.elim
def gCatS : PyData → PyData → R PyData
  | .str x, .str y => R.when (x.length + y.length ≤ 100000) (.ok (.str (x ++ y)))
  | _, _ => .bad
theorem o_catS : SR2 C (fun x y H Q => ∃ i j, x = .str i ∧ y = .str j ∧ i.length + j.length ≤ sizeLine ∧ Q (.str (i ++ j)) H) gCatS := by
  intro σ H B S x y d e Q R h1 h2 h
  cases h1 <;> cases h2 <;> first
    | exact h.elim
    | (obtain ⟨k, h⟩ := post_when.mp h
       exact ⟨_, _, rfl, rfl, line_le k, h _ H B R (Same.refl _) (.str _)⟩)
/-! one-place operators -/
def vUn (g : PyData → R PyData) (fa : VE) : VE := fun S => (fa S).bind fun p => (g p.1).bind fun z => .ok (z, p.2)
def gNeg : PyData → R PyData
  | .int i => .ok (.int (-i))
  | _ => .bad
theorem s_neg {ta : TE} {fa : VE} (ha : SE C ta fa) : SE C (tUn (rU fun i => .int (-i)) ta) (vUn gNeg fa) := by
  intro σ H B S Q R h
  unfold vUn at h
  rw [post_bind] at h
  refine ha σ H B S _ R (h.mono fun p h1 v H1 B1 R1 e1 d1 => ?_)
  rw [post_bind] at h1
  generalize p.1 = d at d1 h1
  cases d1 <;> first | exact h1.elim | exact ⟨_, rfl, h1 _ H1 B1 R1 e1 (.int _)⟩
/-! bools -/
def toB : PyData → R Bool
  | .bool b => .ok b
  | _ => .bad
theorem bl_of {v : V} {d : PyData} {k : Bool → Prop} (h : Da K B v d) (q : Post C (toB d) k) : ∃ b, v = .bl b ∧ d = .bool b ∧ k b := by
  cases h <;> first | exact q.elim | exact ⟨_, rfl, rfl, q⟩
def vAnd (fa fb : VE) : VE := fun S => (fa S).bind fun p => (toB p.1).bind fun b => if b = true then fb p.2 else .ok (.bool false, p.2)
def vOr (fa fb : VE) : VE := fun S => (fa S).bind fun p => (toB p.1).bind fun b => if b = true then .ok (.bool true, p.2) else fb p.2
def vNot (fa : VE) : VE := fun S => (fa S).bind fun p => (toB p.1).bind fun b => .ok (.bool (!b), p.2)
theorem s_andV {ta tb : TE} {fa fb : VE} (ha : SE C ta fa) (hb : SE C tb fb) : SE C (tAndV ta tb) (vAnd fa fb) := by
  intro σ H B S Q R h
  unfold vAnd at h
  rw [post_bind] at h
  refine ha σ H B S _ R (h.mono fun p h1 v H1 B1 R1 e1 d1 => ?_)
  rw [post_bind] at h1
  obtain ⟨b, rfl, _, h1⟩ := bl_of d1 h1
  refine ⟨b, rfl, ?_⟩
  cases b with
  | true => exact hb σ H1 B1 p.2 Q R1 (h1.mono fun q h2 w H2 B2 R2 e2 d2 => h2 w H2 B2 R2 (e1.trans e2) d2)
  | false => exact h1 _ H1 B1 R1 e1 (.bl _)
theorem s_orV {ta tb : TE} {fa fb : VE} (ha : SE C ta fa) (hb : SE C tb fb) : SE C (tOrV ta tb) (vOr fa fb) := by
  intro σ H B S Q R h
  unfold vOr at h
  rw [post_bind] at h
  refine ha σ H B S _ R (h.mono fun p h1 v H1 B1 R1 e1 d1 => ?_)
  rw [post_bind] at h1
  obtain ⟨b, rfl, _, h1⟩ := bl_of d1 h1
  refine ⟨b, rfl, ?_⟩
  cases b with
  | false => exact hb σ H1 B1 p.2 Q R1 (h1.mono fun q h2 w H2 B2 R2 e2 d2 => h2 w H2 B2 R2 (e1.trans e2) d2)
  | true => exact h1 _ H1 B1 R1 e1 (.bl _)
theorem s_notV {ta : TE} {fa : VE} (ha : SE C ta fa) : SE C (tNotV ta) (vNot fa) := by
  intro σ H B S Q R h
  unfold vNot at h
  rw [post_bind] at h
  refine ha σ H B S _ R (h.mono fun p h1 v H1 B1 R1 e1 d1 => ?_)
  rw [post_bind] at h1
  obtain ⟨b, rfl, _, h1⟩ := bl_of d1 h1
  exact ⟨b, rfl, h1 _ H1 B1 R1 e1 (.bl _)⟩
/-! tests -/
def vTst (fa : VE) : VT := fun S => (fa S).bind fun p => (toB p.1).bind fun b => .ok (b, p.2)
theorem s_tst {ta : TE} {fa : VE} (ha : SE C ta fa) : ST C (tTest ta) (vTst fa) := by
  intro σ H B S Q R h
  unfold vTst at h
  rw [post_bind] at h
  refine ha σ H B S _ R (h.mono fun p h1 v H1 B1 R1 e1 d1 => ?_)
  rw [post_bind] at h1
  obtain ⟨b, rfl, _, h1⟩ := bl_of d1 h1
  exact ⟨b, rfl, h1 H1 B1 R1 e1⟩
theorem s_tB {ta : TE} {fa : VE} (ha : SE C ta fa) : ST C (tB ta) (vTst fa) := s_tst ha
def tNotF (fa : VT) : VT := fun S => (fa S).bind fun p => .ok (!p.1, p.2)
theorem s_not {ta : TT} {fa : VT} (ha : ST C ta fa) : ST C (tNot ta) (tNotF fa) := by
  intro σ H B S Q R h
  unfold tNotF at h
  rw [post_bind] at h
  exact ha σ H B S _ R (h.mono fun p h1 H1 B1 R1 e1 => h1 H1 B1 R1 e1)
def tAndF (fa fb : VT) : VT := fun S => (fa S).bind fun p => if p.1 = true then fb p.2 else .ok (false, p.2)
def tOrF (fa fb : VT) : VT := fun S => (fa S).bind fun p => if p.1 = true then .ok (true, p.2) else fb p.2
theorem s_and {ta tb : TT} {fa fb : VT} (ha : ST C ta fa) (hb : ST C tb fb) : ST C (tAnd ta tb) (tAndF fa fb) := by
  intro σ H B S Q R h
  unfold tAndF at h
  rw [post_bind] at h
  refine ha σ H B S _ R (h.mono fun p h1 H1 B1 R1 e1 => ?_)
  obtain ⟨c, S1⟩ := p
  cases c with
  | true => exact hb σ H1 B1 S1 Q R1 (Post.mono h1 fun q h2 H2 B2 R2 e2 => h2 H2 B2 R2 (e1.trans e2))
  | false => exact h1 H1 B1 R1 e1
theorem s_or {ta tb : TT} {fa fb : VT} (ha : ST C ta fa) (hb : ST C tb fb) : ST C (tOr ta tb) (tOrF fa fb) := by
  intro σ H B S Q R h
  unfold tOrF at h
  rw [post_bind] at h
  refine ha σ H B S _ R (h.mono fun p h1 H1 B1 R1 e1 => ?_)
  obtain ⟨c, S1⟩ := p
  cases c with
  | false => exact hb σ H1 B1 S1 Q R1 (Post.mono h1 fun q h2 H2 B2 R2 e2 => h2 H2 B2 R2 (e1.trans e2))
  | true => exact h1 H1 B1 R1 e1
/-- by truth -/
def truD : PyData → R Bool
  | .none => .ok false
  | .bool b => .ok b
  | .int i => .ok (i != 0)
  | .str x => R.when (x.length ≤ 100000) (.ok ((x.length : Int) != 0))
  | .list ds => .ok (!ds.isEmpty)
  | .tuple ds => .ok (!ds.isEmpty)
  | _ => .bad
def vTru (fa : VE) : VT := fun S => (fa S).bind fun p => (truD p.1).bind fun b => .ok (b, p.2)
theorem empty_da {xs : List V} {ds : List PyData} (h : DaAll K B xs ds) : ds.isEmpty = xs.isEmpty := by cases h <;> rfl
theorem s_tru {ta : TE} {fa : VE} (ha : SE C ta fa) : ST C (fun σ H Q => ta σ H fun x H' => ∃ k, TruV K x H' k ∧ Q k H') (vTru fa) := by
  intro σ H B S Q R h
  unfold vTru at h
  rw [post_bind] at h
  refine ha σ H B S _ R (h.mono fun p h1 v H1 B1 R1 e1 d1 => ?_)
  obtain ⟨d, S1⟩ := p
  rw [post_bind] at h1
  dsimp only at d1
  cases d1 with
  | non => exact ⟨false, rfl, h1 H1 B1 R1 e1⟩
  | bl b => exact ⟨b, rfl, h1 H1 B1 R1 e1⟩
  | int i => exact ⟨_, rfl, h1 H1 B1 R1 e1⟩
  | str x =>
    obtain ⟨k, h1⟩ := post_when.mp h1
    exact ⟨_, ⟨line_le k, rfl⟩, h1 H1 B1 R1 e1⟩
  | lst s a => exact ⟨_, .inl ⟨_, SqL.of (R1.base.bh _ _ s), rfl⟩, by rw [← empty_da a]; exact h1 H1 B1 R1 e1⟩
  | tup s a => exact ⟨_, .inr (.inl ⟨_, sm_t R1.base.bh s, rfl⟩), by rw [← empty_da a]; exact h1 H1 B1 R1 e1⟩
/-! x if c else y -/
def vIf (fc : VT) (fa fb : VE) : VE := fun S => (fc S).bind fun p => if p.1 = true then fa p.2 else fb p.2
theorem s_if {tc : TT} {ta tb : TE} {fc : VT} {fa fb : VE} (hc : ST C tc fc) (ha : SE C ta fa) (hb : SE C tb fb) : SE C (tIf tc ta tb) (vIf fc fa fb) := by
  intro σ H B S Q R h
  unfold vIf at h
  rw [post_bind] at h
  refine hc σ H B S _ R (h.mono fun p h1 H1 B1 R1 e1 => ?_)
  obtain ⟨c, S1⟩ := p
  cases c with
  | true => exact ha σ H1 B1 S1 Q R1 (Post.mono h1 fun q h2 w H2 B2 R2 e2 d2 => h2 w H2 B2 R2 (e1.trans e2) d2)
  | false => exact hb σ H1 B1 S1 Q R1 (Post.mono h1 fun q h2 w H2 B2 R2 e2 d2 => h2 w H2 B2 R2 (e1.trans e2) d2)
/-! a < b < c -/
def vChain (g g' : PyData → PyData → R PyData) (fa fb fc : VE) : VE := fun S => (fa S).bind fun p => (fb p.2).bind fun q => (g p.1 q.1).bind fun z => (toB z).bind fun b =>
  if b = true then (fc q.2).bind fun r => (g' q.1 r.1).bind fun z => .ok (z, r.2) else .ok (.bool false, q.2)
theorem s_chain {r r' : R2} {g g' : PyData → PyData → R PyData} {ta tb tc : TE} {fa fb fc : VE} (hr : SR2 C r g) (hr' : SR2 C r' g') (ha : SE C ta fa) (hb : SE C tb fb) (hc : SE C tc fc) : SE C (tChain r r' ta tb tc) (vChain g g' fa fb fc) := by
  intro σ H B S Q R h
  unfold vChain at h
  rw [post_bind] at h
  refine ha σ H B S _ R (h.mono fun p h1 v H1 B1 R1 e1 d1 => ?_)
  rw [post_bind] at h1
  refine hb σ H1 B1 p.2 _ R1 (h1.mono fun q h2 w H2 B2 R2 e2 d2 => ?_)
  rw [post_bind] at h2
  refine hr σ H2 B2 q.2 v w p.1 q.1 _ R2 (da_mono e2 d1) d2 (h2.mono fun z h3 u H3 B3 R3 e3 d3 => ?_)
  rw [post_bind] at h3
  obtain ⟨b, rfl, _, h3⟩ := bl_of d3 h3
  refine ⟨b, rfl, ?_⟩
  cases b with
  | false => exact h3 _ H3 B3 R3 (e1.trans (e2.trans e3)) (.bl _)
  | true =>
    replace h3 : Post C ((fc q.2).bind fun r => (g' q.1 r.1).bind fun z => .ok (z, r.2)) _ := h3
    rw [post_bind] at h3
    refine hc σ H3 B3 q.2 _ R3 (h3.mono fun r h4 w4 H4 B4 R4 e4 d4 => ?_)
    rw [post_bind] at h4
    exact hr' σ H4 B4 r.2 w w4 q.1 r.1 Q R4 (da_mono (e3.trans e4) d2) d4 (h4.mono fun z h5 u H5 B5 R5 e5 d5 => h5 u H5 B5 R5 (e1.trans (e2.trans (e3.trans (e4.trans e5)))) d5)
/-! argument lists, displays, calls -/
def vNil : VA := fun S => .ok ([], S)
def vCons (fa : VE) (fr : VA) : VA := fun S => (fa S).bind fun p => (fr p.2).bind fun q => .ok (p.1 :: q.1, q.2)
theorem s_nil : SA C tNil vNil := fun _ H B _ _ R h => h _ H B R (Same.refl _) .nil
theorem s_cons {ta : TE} {tr : TA} {fa : VE} {fr : VA} (ha : SE C ta fa) (hr : SA C tr fr) : SA C (tCons ta tr) (vCons fa fr) := by
  intro σ H B S Q R h
  unfold vCons at h
  rw [post_bind] at h
  refine ha σ H B S _ R (h.mono fun p h1 v H1 B1 R1 e1 d1 => ?_)
  rw [post_bind] at h1
  exact hr σ H1 B1 p.2 _ R1 (h1.mono fun q h2 w H2 B2 R2 e2 d2 => h2 _ H2 B2 R2 (e1.trans e2) (.cons (da_mono e2 d1) d2))
def vTup (fa : VA) : VE := fun S => (fa S).bind fun p => R.when (p.1.length ≤ 100000) (.ok (.tuple p.1, p.2))
def vLst (fa : VA) : VE := fun S => (fa S).bind fun p => R.when (p.1.length ≤ 100000) (.ok (.list p.1, p.2))
theorem s_tup {ta : TA} {fa : VA} (ha : SA C ta fa) : SE C (tTup ta) (vTup fa) := by
  intro σ H B S Q R h
  unfold vTup at h
  rw [post_bind] at h
  refine ha σ H B S _ R (h.mono fun p h1 vs H1 B1 R1 e1 d1 => ?_)
  obtain ⟨k, h1⟩ := post_when.mp h1
  refine ⟨line_le (by rw [daa_len d1]; exact k), fun a ha => ?_⟩
  obtain ⟨B', R2, e2, d2⟩ := R1.tup ha d1
  exact h1 _ _ B' R2 (e1.trans e2) d2
theorem s_lst {ta : TA} {fa : VA} (ha : SA C ta fa) : SE C (tLst ta) (vLst fa) := by
  intro σ H B S Q R h
  unfold vLst at h
  rw [post_bind] at h
  refine ha σ H B S _ R (h.mono fun p h1 vs H1 B1 R1 e1 d1 => ?_)
  obtain ⟨k, h1⟩ := post_when.mp h1
  refine ⟨line_le (by rw [daa_len d1]; exact k), fun a ha => ?_⟩
  obtain ⟨B', R2, e2, d2⟩ := R1.lst ha d1
  exact h1 _ _ B' R2 (e1.trans e2) d2
/-- a built-in, by values -/
def SCR (C : Ct K n) (r : List V → Hp → VK → Prop) (g : List PyData → R PyData) : Prop := ∀ (σ : L2.St) (H B : Hp) (S : SS) (xs : List V) (ds : List PyData) (Q : VK), Rep C σ H B S → DaAll K B xs ds →
  Post C (g ds) (fun z => ∀ v H' B', Rep C σ H' B' S → Same B B' → Da K B' v z → Q v H') → r xs H Q
def vCall (g : List PyData → R PyData) (fa : VA) : VE := fun S => (fa S).bind fun p => (g p.1).bind fun z => .ok (z, p.2)
theorem s_cb {r : List V → Hp → VK → Prop} {g : List PyData → R PyData} {ta : TA} {fa : VA} (hr : SCR C r g) (ha : SA C ta fa) : SE C (tCB r ta) (vCall g fa) := by
  intro σ H B S Q R h
  unfold vCall at h
  rw [post_bind] at h
  refine ha σ H B S _ R (h.mono fun p h1 vs H1 B1 R1 e1 d1 => ?_)
  rw [post_bind] at h1
  exact hr σ H1 B1 p.2 vs p.1 Q R1 d1 (h1.mono fun z h2 v H2 B2 R2 e2 d2 => h2 v H2 B2 R2 (e1.trans e2) d2)
def gLen : List PyData → R PyData
  | [.list ds] => .ok (.int ds.length)
  | [.tuple ds] => .ok (.int ds.length)
  | _ => .bad
theorem c_len : SCR C (fun xs H Q => ∃ p ys, xs = [.ref p] ∧ (SqL K H p ys ∨ SqT K H p ys) ∧ Q (.int ys.length) H) gLen := by
  intro σ H B S xs ds Q R d h
  cases d with
  | nil => exact h.elim
  | cons h1 t =>
    cases t with
    | cons h2 t => cases h1 <;> exact h.elim
    | nil =>
      cases h1 with
      | lst s a => exact ⟨_, _, rfl, .inl (SqL.of (R.base.bh _ _ s)), by rw [daa_len a]; exact h _ H B R (Same.refl _) (.int _)⟩
      | tup s a => exact ⟨_, _, rfl, .inr (sm_t R.base.bh s), by rw [daa_len a]; exact h _ H B R (Same.refl _) (.int _)⟩
      | _ => exact h.elim
def gAbs : List PyData → R PyData
  | [.int i] => .ok (.int (if i < 0 then -i else i))
  | _ => .bad
theorem c_abs : SCR C (fun xs H Q => ∃ i, xs = [.int i] ∧ Q (.int (if i < 0 then -i else i)) H) gAbs := by
  intro σ H B S xs ds Q R d h
  cases d with
  | nil => exact h.elim
  | cons h1 t =>
    cases t with
    | cons h2 t => cases h1 <;> exact h.elim
    | nil => cases h1 <;> first | exact h.elim | exact ⟨_, rfl, h _ H B R (Same.refl _) (.int _)⟩
def gInt : List PyData → R PyData
  | [.int i] => .ok (.int i)
  | [.bool b] => .ok (.int (if b then 1 else 0))
  | _ => .bad
theorem c_int : SCR C (fun xs H Q => (∃ i, xs = [.int i] ∧ Q (.int i) H) ∨ ∃ k, xs = [.bl k] ∧ Q (.int (if k then 1 else 0)) H) gInt := by
  intro σ H B S xs ds Q R d h
  cases d with
  | nil => exact h.elim
  | cons h1 t =>
    cases t with
    | cons h2 t => cases h1 <;> exact h.elim
    | nil => cases h1 <;> first | exact h.elim | exact .inl ⟨_, rfl, h _ H B R (Same.refl _) (.int _)⟩ | exact .inr ⟨_, rfl, h _ H B R (Same.refl _) (.int _)⟩
def gGcd : List PyData → R PyData
  | [.int i, .int j] => .ok (.int ((Nat.gcd i.natAbs j.natAbs : Nat) : Int))
  | _ => .bad
theorem c_gcd : SCR C rGcd gGcd := by
  intro σ H B S xs ds Q R d h
  cases d with
  | nil => exact h.elim
  | cons h1 t =>
    cases t with
    | nil => cases h1 <;> exact h.elim
    | cons h2 t =>
      cases t with
      | cons h3 t => cases h1 <;> first | exact h.elim | (cases h2 <;> exact h.elim)
      | nil => cases h1 <;> first | exact h.elim | (cases h2 <;> first | exact h.elim | exact ⟨_, _, rfl, h _ H B R (Same.refl _) (.int _)⟩)
def gTuple : List PyData → R PyData
  | [.list ds] => .ok (.tuple ds)
  | [.tuple ds] => .ok (.tuple ds)
  | _ => .bad
def gList : List PyData → R PyData
  | [.list ds] => .ok (.list ds)
  | [.tuple ds] => .ok (.list ds)
  | _ => .bad
theorem c_tuple : SCR C (fun xs H Q => ∃ p ys, xs = [.ref p] ∧ ((SqL K H p ys ∧ ∀ l, H l = none → Q (.ref l) (upd H l (.tup ys))) ∨ (SqT K H p ys ∧ Q (.ref p) H))) gTuple := by
  intro σ H B S xs ds Q R d h
  cases d with
  | nil => exact h.elim
  | cons h1 t =>
    cases t with
    | cons h2 t => cases h1 <;> exact h.elim
    | nil =>
      cases h1 with
      | lst s a =>
        refine ⟨_, _, rfl, .inl ⟨SqL.of (R.base.bh _ _ s), fun l hl => ?_⟩⟩
        obtain ⟨B', R1, e1, d1⟩ := R.tup hl a
        exact h _ _ B' R1 e1 d1
      | tup s a => exact ⟨_, _, rfl, .inr ⟨sm_t R.base.bh s, h _ H B R (Same.refl _) (.tup s a)⟩⟩
      | _ => exact h.elim
theorem c_list : SCR C (fun xs H Q => ∃ p ys, xs = [.ref p] ∧ (SqL K H p ys ∨ SqT K H p ys) ∧ ∀ l, H l = none → Q (.ref l) (upd H l (.lst ys))) gList := by
  intro σ H B S xs ds Q R d h
  cases d with
  | nil => exact h.elim
  | cons h1 t =>
    cases t with
    | cons h2 t => cases h1 <;> exact h.elim
    | nil =>
      cases h1 with
      | lst s a =>
        refine ⟨_, _, rfl, .inl (SqL.of (R.base.bh _ _ s)), fun l hl => ?_⟩
        obtain ⟨B', R1, e1, d1⟩ := R.lst hl a
        exact h _ _ B' R1 e1 d1
      | tup s a =>
        refine ⟨_, _, rfl, .inr (sm_t R.base.bh s), fun l hl => ?_⟩
        obtain ⟨B', R1, e1, d1⟩ := R.lst hl a
        exact h _ _ B' R1 e1 d1
      | _ => exact h.elim
/-- ints, bools of data -/
def intsD : List PyData → Option (List Int)
  | [] => some []
  | .int i :: ds => (intsD ds).map (i :: ·)
  | _ :: _ => none
def boolsD : List PyData → Option (List Bool)
  | [] => some []
  | .bool i :: ds => (boolsD ds).map (i :: ·)
  | _ :: _ => none
theorem ints_v : ∀ {xs : List V} {ds : List PyData} {ns : List Int}, DaAll K B xs ds → intsD ds = some ns → xs = ns.map V.int ∧ ds = ns.map PyData.int
  | _, _, _, .nil, h => by cases h; exact ⟨rfl, rfl⟩
  | _, _, _, .cons h1 t, h => by
    cases h1 with
    | int i =>
      unfold intsD at h
      obtain ⟨ms, h2, rfl⟩ := Option.map_eq_some_iff.mp h
      obtain ⟨e1, e2⟩ := ints_v t h2
      exact ⟨by rw [e1]; rfl, by rw [e2]; rfl⟩
    | _ => exact nomatch h
theorem bools_v : ∀ {xs : List V} {ds : List PyData} {ns : List Bool}, DaAll K B xs ds → boolsD ds = some ns → xs = ns.map V.bl ∧ ds = ns.map PyData.bool
  | _, _, _, .nil, h => by cases h; exact ⟨rfl, rfl⟩
  | _, _, _, .cons h1 t, h => by
    cases h1 with
    | bl i =>
      unfold boolsD at h
      obtain ⟨ms, h2, rfl⟩ := Option.map_eq_some_iff.mp h
      obtain ⟨e1, e2⟩ := bools_v t h2
      exact ⟨by rw [e1]; rfl, by rw [e2]; rfl⟩
    | _ => exact nomatch h
theorem ints_map : ∀ ns : List Int, intsD (ns.map PyData.int) = some ns
  | [] => rfl
  | n :: ns => by
    show (intsD (ns.map PyData.int)).map (n :: ·) = _
    rw [ints_map ns]
    rfl
theorem bools_map : ∀ ns : List Bool, boolsD (ns.map PyData.bool) = some ns
  | [] => rfl
  | n :: ns => by
    show (boolsD (ns.map PyData.bool)).map (n :: ·) = _
    rw [bools_map ns]
    rfl
def gInts (g : List Int → PyData) : List PyData → R PyData
  | [.list ds] => match intsD ds with
    | some ns => .ok (g ns)
    | none => .bad
  | _ => .bad
def gBools (g : List Bool → PyData) : List PyData → R PyData
  | [.list ds] => match boolsD ds with
    | some ns => .ok (g ns)
    | none => .bad
  | _ => .bad
theorem c_sum : SCR C (rSum K) (gInts fun ns => .int ns.sum) := by
  intro σ H B S xs ds Q R d h
  cases d with
  | nil => exact h.elim
  | cons h1 t =>
    cases t with
    | cons h2 t => cases h1 <;> exact h.elim
    | nil =>
      cases h1 with
      | lst s a =>
        unfold gInts at h
        simp only at h
        split at h
        · rename_i ns q
          obtain ⟨rfl, rfl⟩ := ints_v a q
          exact ⟨_, ns, rfl, SqL.of (R.base.bh _ _ s), h _ H B R (Same.refl _) (.int _)⟩
        · exact h.elim
      | _ => exact h.elim
theorem c_any : SCR C (rAny K) (gBools fun bs => .bool (bs.any id)) := by
  intro σ H B S xs ds Q R d h
  cases d with
  | nil => exact h.elim
  | cons h1 t =>
    cases t with
    | cons h2 t => cases h1 <;> exact h.elim
    | nil =>
      cases h1 with
      | lst s a =>
        unfold gBools at h
        simp only at h
        split at h
        · rename_i ns q
          obtain ⟨rfl, rfl⟩ := bools_v a q
          exact ⟨_, ns, rfl, SqL.of (R.base.bh _ _ s), h _ H B R (Same.refl _) (.bl _)⟩
        · exact h.elim
      | _ => exact h.elim
theorem c_all : SCR C (rAll K) (gBools fun bs => .bool (bs.all id)) := by
  intro σ H B S xs ds Q R d h
  cases d with
  | nil => exact h.elim
  | cons h1 t =>
    cases t with
    | cons h2 t => cases h1 <;> exact h.elim
    | nil =>
      cases h1 with
      | lst s a =>
        unfold gBools at h
        simp only at h
        split at h
        · rename_i ns q
          obtain ⟨rfl, rfl⟩ := bools_v a q
          exact ⟨_, ns, rfl, SqL.of (R.base.bh _ _ s), h _ H B R (Same.refl _) (.bl _)⟩
        · exact h.elim
      | _ => exact h.elim
end
end Bo

namespace Bo
open PySem L2
section
variable {K : PySem.W.Frag} {n : Nat} {C : Ct K n} {σ : L2.St} {H B : Hp} {S : SS}
/-! ### new lists -/
/-- nobody else has it -/
structure Loose (C : Ct K n) (σ : L2.St) (S : SS) (B : Hp) (a : Addr) : Prop where
  b : B a = none
  h0 : C.H0 a = none
  no : ∀ (j : Nat) (u : SV), S[j]? = some (some u) → u.mine = true → σ[j]? ≠ some (some (.ref a))
abbrev VF := SS → R (List PyData × SS)
/-- a new list: what it holds -/
def SEF (C : Ct K n) (t : TE) (f : VF) : Prop := ∀ (σ : L2.St) (H B : Hp) (S : SS) (Q : VK), Rep C σ H B S →
  Post C (f S) (fun p => ∀ a vs H' B', Rep C σ H' B' p.2 → Same B B' → H' a = some (.lst vs) → Loose C σ p.2 B' a → DaAll K B' vs p.1 → Q (.ref a) H') → t σ H Q
theorem Rep.settle (R : Rep C σ H B S) {a : Addr} {vs : List V} (h : H a = some (.lst vs)) (L : Loose C σ S B a) : Rep C σ H (upd B a (.lst vs)) S ∧ Same B (upd B a (.lst vs)) := by
  have e : Same B (upd B a (.lst vs)) := sm_new L.b
  refine ⟨R.grow ⟨R.base.keep, R.base.b0.trans e, fun b o q => ?_, fun b o q => ?_⟩ e fun b o h1 h2 ⟨j, u, q1, q2, q3⟩ => ⟨h1, ?_⟩, e⟩
  · by_cases z : b = a
    · subst z
      rw [upd_same] at q
      cases q
      exact h
    · rw [upd_ne z] at q
      exact R.base.bh b o q
  · by_cases z : b = a
    · subst z
      exact .inr L.h0
    · rw [upd_ne z] at q
      exact R.base.fr b o q
  · rw [upd_ne]
    · exact h2
    · rintro rfl
      exact L.no j u q1 q2 q3
def vFr (f : VF) : VE := fun S => (f S).bind fun p => .ok (.list p.1, p.2)
/-- a new list that stays -/
theorem s_fr {t : TE} {f : VF} (h : SEF C t f) : SE C t (vFr f) := by
  intro σ H B S Q R q
  unfold vFr at q
  rw [post_bind] at q
  refine h σ H B S Q R (q.mono fun p q a vs H' B' R1 e1 ha L d => ?_)
  obtain ⟨R2, e2⟩ := R1.settle ha L
  exact q _ H' _ R2 (e1.trans e2) (.lst upd_same (daa_mono e2 d))
/-- laid where nothing stood -/
theorem Rep.newLoose (R : Rep C σ H B S) {p : Addr} {o : HO} (hp : H p = none) : Rep C σ (upd H p o) B S ∧ Loose C σ S B p := by
  obtain ⟨h0, hb, _⟩ := R.new hp
  refine ⟨R.loose hp, hb, h0, fun j u q m e => ?_⟩
  obtain ⟨a, o, e1, e2, _⟩ := R.own_at q m
  rw [e] at e1
  cases e1
  rw [hp] at e2
  cases e2
def vLstF (fa : VA) : VF := fun S => (fa S).bind fun p => R.when (p.1.length ≤ 100000) (.ok p)
theorem f_lst {ta : TA} {fa : VA} (ha : SA C ta fa) : SEF C (tLst ta) (vLstF fa) := by
  intro σ H B S Q R h
  unfold vLstF at h
  rw [post_bind] at h
  refine ha σ H B S _ R (h.mono fun p h1 vs H1 B1 R1 e1 d1 => ?_)
  obtain ⟨k, h1⟩ := post_when.mp h1
  refine ⟨line_le (by rw [daa_len d1]; exact k), fun a ha => ?_⟩
  obtain ⟨R2, L⟩ := R1.newLoose (o := .lst vs) ha
  exact h1 a vs _ B1 R2 e1 upd_same L d1
/-- list(x) -/
def vListF (fa : VE) : VF := fun S => (fa S).bind fun p => match itemsD p.1 with
  | some ds => .ok (ds, p.2)
  | none => .bad
theorem f_list {ta : TE} {fa : VE} (ha : SE C ta fa) : SEF C (tCB (fun xs H Q => ∃ p ys, xs = [.ref p] ∧ (SqL K H p ys ∨ SqT K H p ys) ∧ ∀ l, H l = none → Q (.ref l) (upd H l (.lst ys))) (tCons ta tNil)) (vListF fa) := by
  intro σ H B S Q R h
  unfold vListF at h
  rw [post_bind] at h
  refine ha σ H B S _ R (h.mono fun p h1 v H1 B1 R1 e1 d1 => ?_)
  split at h1
  · rename_i ds q
    obtain ⟨a, xs, rfl, sq, da⟩ := seq_of d1 q
    refine ⟨a, xs, rfl, seq_up R1.base.bh sq, fun l hl => ?_⟩
    obtain ⟨R2, L⟩ := R1.newLoose (o := .lst xs) hl
    exact h1 l xs _ B1 R2 e1 upd_same L da
  · exact h1.elim
/-! ### slices -/
abbrev VO := SS → R (Option Int × SS)
def SO (C : Ct K n) (t : TO) (f : VO) : Prop := ∀ (σ : L2.St) (H B : Hp) (S : SS) (Q : Option Int → Hp → Prop), Rep C σ H B S →
  Post C (f S) (fun p => ∀ H' B', Rep C σ H' B' p.2 → Same B B' → Q p.1 H') → t σ H Q
def vNoPart : VO := fun S => .ok (none, S)
def toI : PyData → R Int
  | .int i => .ok i
  | _ => .bad
def vPart (fa : VE) : VO := fun S => (fa S).bind fun p => (toI p.1).bind fun i => .ok (some i, p.2)
theorem s_noPart : SO C tNoPart vNoPart := fun _ H B _ _ R h => h H B R (Same.refl _)
theorem int_of {v : V} {d : PyData} {k : Int → Prop} (h : Da K B v d) (q : Post C (toI d) k) : ∃ b, v = .int b ∧ d = .int b ∧ k b := by
  cases h <;> first | exact q.elim | exact ⟨_, rfl, rfl, q⟩
theorem s_part {ta : TE} {fa : VE} (ha : SE C ta fa) : SO C (tPart ta) (vPart fa) := by
  intro σ H B S Q R h
  unfold vPart at h
  rw [post_bind] at h
  refine ha σ H B S _ R (h.mono fun p h1 v H1 B1 R1 e1 d1 => ?_)
  rw [post_bind] at h1
  obtain ⟨i, rfl, _, h1⟩ := int_of d1 h1
  exact ⟨i, rfl, h1 H1 B1 R1 e1⟩
def cutD {α : Type} (l : List α) (lo hi : Option Int) : List α := (l.drop (HT.sIx l.length 0 lo)).take (HT.sIx l.length l.length hi - HT.sIx l.length 0 lo)
theorem daa_cut {vs : List V} {ds : List PyData} {lo hi : Option Int} (h : DaAll K B vs ds) : DaAll K B (cutV vs lo hi) (cutD ds lo hi) := by
  unfold cutV cutD
  rw [daa_len h]
  exact daa_take _ (daa_drop _ h)
def SSl (C : Ct K n) (r : V → Option Int → Option Int → Hp → VK → Prop) (g : PyData → Option Int → Option Int → R PyData) : Prop := ∀ (σ : L2.St) (H B : Hp) (S : SS) (x : V) (d : PyData) (lo hi : Option Int) (Q : VK), Rep C σ H B S → Da K B x d →
  Post C (g d lo hi) (fun z => ∀ v H' B', Rep C σ H' B' S → Same B B' → Da K B' v z → Q v H') → r x lo hi H Q
def vSl (g : PyData → Option Int → Option Int → R PyData) (fa : VE) (fl fh : VO) : VE := fun S => (fa S).bind fun p => (fl p.2).bind fun l => (fh l.2).bind fun h => (g p.1 l.1 h.1).bind fun z => .ok (z, h.2)
theorem s_sl {r : V → Option Int → Option Int → Hp → VK → Prop} {g : PyData → Option Int → Option Int → R PyData} {ta : TE} {tl th : TO} {fa : VE} {fl fh : VO} (hr : SSl C r g) (ha : SE C ta fa) (hl : SO C tl fl) (hh : SO C th fh) : SE C (tSl r ta tl th) (vSl g fa fl fh) := by
  intro σ H B S Q R h
  unfold vSl at h
  rw [post_bind] at h
  refine ha σ H B S _ R (h.mono fun p h1 v H1 B1 R1 e1 d1 => ?_)
  rw [post_bind] at h1
  refine hl σ H1 B1 p.2 _ R1 (h1.mono fun l h2 H2 B2 R2 e2 => ?_)
  rw [post_bind] at h2
  refine hh σ H2 B2 l.2 _ R2 (h2.mono fun u h3 H3 B3 R3 e3 => ?_)
  rw [post_bind] at h3
  exact hr σ H3 B3 u.2 v p.1 l.1 u.1 Q R3 (da_mono (e2.trans e3) d1) (h3.mono fun z h4 w H4 B4 R4 e4 d4 => h4 w H4 B4 R4 (e1.trans (e2.trans (e3.trans e4))) d4)
def gSlL (d : PyData) (lo hi : Option Int) : R PyData := match d with
  | .list ds => .ok (.list (cutD ds lo hi))
  | _ => .bad
def gSlT (d : PyData) (lo hi : Option Int) : R PyData := match d with
  | .tuple ds => .ok (.tuple (cutD ds lo hi))
  | _ => .bad
theorem l_slL : SSl C (rSlL K) gSlL := by
  intro σ H B S x d lo hi Q R h1 h
  cases h1 with
  | lst s a =>
    refine ⟨_, _, rfl, SqL.of (R.base.bh _ _ s), fun p hp => ?_⟩
    obtain ⟨B', R1, e1, d1⟩ := R.lst hp (daa_cut a)
    exact h _ _ B' R1 e1 d1
  | _ => exact h.elim
theorem l_slT : SSl C (rSlA K) gSlT := by
  intro σ H B S x d lo hi Q R h1 h
  cases h1 with
  | @tup a xs ds s da =>
    refine ⟨_, _, rfl, sm_t R.base.bh s, fun w => ?_, fun _ p hp => ?_⟩
    · have e : cutD ds lo hi = ds := by
        unfold cutD
        rw [← daa_len da, w.1, w.2, List.drop_zero, Nat.sub_zero, daa_len da, List.take_length]
      have h2 : ∀ v H' B', Rep C σ H' B' S → Same B B' → Da K B' v (.tuple (cutD ds lo hi)) → Q v H' := h
      rw [e] at h2
      exact h2 _ H B R (Same.refl _) (.tup s da)
    · obtain ⟨B', R1, e1, d1⟩ := R.tup hp (daa_cut da)
      exact h _ _ B' R1 e1 d1
  | _ => exact h.elim
/-- xs[::-1] -/
def gRevL : PyData → R PyData
  | .list ds => .ok (.list ds.reverse)
  | _ => .bad
theorem s_revL {ta : TE} {fa : VE} (ha : SE C ta fa) : SE C (tRevL K ta) (vUn gRevL fa) := by
  intro σ H B S Q R h
  unfold vUn at h
  rw [post_bind] at h
  refine ha σ H B S _ R (h.mono fun p h1 v H1 B1 R1 e1 d1 => ?_)
  rw [post_bind] at h1
  obtain ⟨d, S1⟩ := p
  dsimp only at d1 h1 R1
  cases d1 with
  | lst s a =>
    refine ⟨_, _, rfl, SqL.of (R1.base.bh _ _ s), fun q hq => ?_⟩
    obtain ⟨B', R2, e2, d2⟩ := R1.lst hq (daa_rev a)
    exact h1 _ _ B' R2 (e1.trans e2) d2
  | _ => exact h1.elim
/-! ### targets -/
def SG (C : Ct K n) (g : TG) (fg : PyData → SS → R SS) (ts : List Nat) : Prop := ∀ (σ : L2.St) (H B : Hp) (S : SS) (v : V) (d : PyData) (Q : L2.St → Hp → Prop), Rep C σ H B S → Da K B v d →
  Post C (fg d S) (fun S' => ∀ σ', Rep C σ' H B S' → σ'.length = σ.length → (∀ i, i ∉ ts → σ'[i]? = σ[i]?) → Q σ' H) → g v σ H Q
def SGs (C : Ct K n) (g : TGs) (fg : List PyData → SS → R SS) (ts : List Nat) : Prop := ∀ (σ : L2.St) (H B : Hp) (S : SS) (vs : List V) (ds : List PyData) (Q : L2.St → Hp → Prop), Rep C σ H B S → DaAll K B vs ds →
  Post C (fg ds S) (fun S' => ∀ σ', Rep C σ' H B S' → σ'.length = σ.length → (∀ i, i ∉ ts → σ'[i]? = σ[i]?) → Q σ' H) → g vs σ H Q
def aName (i : Nat) : PyData → SS → R SS := fun d S => .ok (S.set i (some (.dat d)))
theorem g_name {i : Nat} (hi : n ≤ i) : SG C (gName i) (aName i) [i] := by
  intro σ H B S v d Q R dv h
  exact h _ (R.put hi dv) (by simp) fun j hj => List.getElem?_set_ne (fun e => hj (by simp [e]))
def aNil : List PyData → SS → R SS := fun ds S => match ds with
  | [] => .ok S
  | _ => .bad
def aCons (f : PyData → SS → R SS) (g : List PyData → SS → R SS) : List PyData → SS → R SS := fun ds S => match ds with
  | d :: ds => (f d S).bind fun S1 => g ds S1
  | [] => .bad
theorem g_nil : SGs C gNil aNil [] := by
  intro σ H B S vs ds Q R dv h
  cases dv with
  | nil => exact ⟨rfl, h σ R rfl fun _ _ => rfl⟩
  | cons => exact h.elim
theorem g_cons {g : TG} {gs : TGs} {f : PyData → SS → R SS} {fs : List PyData → SS → R SS} {ts us : List Nat} (h1 : SG C g f ts) (h2 : SGs C gs fs us) : SGs C (gCons g gs) (aCons f fs) (ts ++ us) := by
  intro σ H B S vs ds Q R dv h
  cases dv with
  | nil => exact h.elim
  | cons d t =>
    replace h := post_bind.mp h
    refine ⟨_, _, rfl, h1 σ H B S _ _ _ R d (h.mono fun S1 h σ1 R1 l1 k1 => ?_)⟩
    exact h2 σ1 H B S1 _ _ _ R1 t (h.mono fun S2 h σ2 R2 l2 k2 => h σ2 R2 (l2.trans l1) fun i hi => by
      rw [List.mem_append] at hi
      exact (k2 i fun z => hi (.inr z)).trans (k1 i fun z => hi (.inl z)))
def aTup (m : Nat) (f : List PyData → SS → R SS) : PyData → SS → R SS := fun d S => match d with
  | .tuple ds => R.when (ds.length = m) (f ds S)
  | _ => .bad
theorem g_tup {m : Nat} {gs : TGs} {fs : List PyData → SS → R SS} {ts : List Nat} (h1 : SGs C gs fs ts) : SG C (gTup K m gs) (aTup m fs) ts := by
  intro σ H B S v d Q R dv h
  cases dv with
  | tup s a =>
    obtain ⟨k, h⟩ := post_when.mp h
    exact ⟨_, _, rfl, sm_t R.base.bh s, (daa_len a).trans k, h1 σ H B S _ _ Q R a h⟩
  | _ => exact h.elim
/-! ### what is walked -/
/-- the walk J over ds, whatever else changes -/
structure Walks (C : Ct K n) (B : Hp) (J : It) (ds : List PyData) : Prop where
  go : ∀ (i : Nat) (H : Hp), i < ds.length → Same B H → J.go i H
  stop : ∀ (H : Hp), Same B H → J.stop ds.length H
  yld : ∀ (i : Nat) (H H' : Hp) (x : V) (d : PyData), ds[i]? = some d → J.yld i H x H' → ∀ (C : Ct K n) σ B1 S, Rep C σ H B1 S → Same B B1 → ∃ B', Rep C σ H' B' S ∧ Same B1 B' ∧ Da K B' x d ∧ ∀ D o, H D = some o → H' D = some o
def SI (C : Ct K n) (w : TI) (f : VF) : Prop := ∀ (σ : L2.St) (H B : Hp) (S : SS) (Rr : It → Hp → Prop), Rep C σ H B S →
  Post C (f S) (fun p => ∀ J H' B', Rep C σ H' B' p.2 → Same B B' → Walks C B' J p.1 → Rr J H') → w σ H Rr
theorem walks_list {a : Addr} {xs : List V} {ds : List PyData} (s : B a = some (.lst xs)) (h : DaAll K B xs ds) : Walks C B (Itl K a) ds where
  go := fun i H hi e => by
    rw [← daa_len h] at hi
    exact ⟨xs, xs[i], SqL.of (e _ _ s), List.getElem?_eq_getElem hi⟩
  stop := fun H e => ⟨xs, SqL.of (e _ _ s), by rw [daa_len h]; exact Nat.le_refl _⟩
  yld := fun i H H' x d hd y C σ B1 S R e => by
    obtain ⟨rfl, y⟩ := y
    have hx := y xs (SqL.of (R.base.bh _ _ (e _ _ s)))
    obtain ⟨d', q1, q2⟩ := daa_at h hx
    rw [hd] at q1
    cases q1
    exact ⟨B1, R, Same.refl _, da_mono e q2, fun _ _ z => z⟩
theorem walks_tup {a : Addr} {xs : List V} {ds : List PyData} (s : SqT K B a xs) (h : DaAll K B xs ds) : Walks C B (Itt K a) ds where
  go := fun i H hi e => by
    rw [← daa_len h] at hi
    exact ⟨xs, xs[i], sm_t e s, List.getElem?_eq_getElem hi⟩
  stop := fun H e => ⟨xs, sm_t e s, by rw [daa_len h]; exact Nat.le_refl _⟩
  yld := fun i H H' x d hd y C σ B1 S R e => by
    obtain ⟨rfl, y⟩ := y
    have hx := y xs (sm_t (e.trans R.base.bh) s)
    obtain ⟨d', q1, q2⟩ := daa_at h hx
    rw [hd] at q1
    cases q1
    exact ⟨B1, R, Same.refl _, da_mono e q2, fun _ _ z => z⟩
def rangeD (lo : Int) (m : Nat) : List PyData := (List.range m).map fun i => .int (lo + (i : Nat))
theorem walks_range {lo : Int} {m : Nat} : Walks C B (Itr lo m) (rangeD lo m) where
  go := fun i H hi _ => by
    unfold rangeD at hi
    rw [List.length_map, List.length_range] at hi
    exact hi
  stop := fun H _ => by
    unfold rangeD
    rw [List.length_map, List.length_range]
    exact Nat.le_refl m
  yld := fun i H H' x d hd y C σ B1 S R e => by
    obtain ⟨rfl, rfl⟩ := y
    unfold rangeD at hd
    rw [List.getElem?_map] at hd
    have hi : i < m := by
      rcases Nat.lt_or_ge i m with q | q
      · exact q
      · rw [List.getElem?_eq_none (by rw [List.length_range]; exact q)] at hd
        cases hd
    rw [List.getElem?_range hi] at hd
    cases hd
    exact ⟨B1, R, Same.refl _, .int _, fun _ _ z => z⟩
def vIter (fa : VE) : VF := fun S => (fa S).bind fun p => match p.1 with
  | .list ds => .ok (ds, p.2)
  | _ => .bad
def vIterT (fa : VE) : VF := fun S => (fa S).bind fun p => match p.1 with
  | .tuple ds => .ok (ds, p.2)
  | _ => .bad
theorem i_list {ta : TE} {fa : VE} (ha : SE C ta fa) : SI C (iList K ta) (vIter fa) := by
  intro σ H B S Rr R h
  replace h := post_bind.mp h
  refine ha σ H B S _ R (h.mono fun p h1 v H1 B1 R1 e1 d1 => ?_)
  obtain ⟨d, S1⟩ := p
  dsimp only at d1 h1 R1
  cases d1 with
  | lst s a => exact ⟨_, rfl, ⟨_, SqL.of (R1.base.bh _ _ s)⟩, h1 _ H1 B1 R1 e1 (walks_list s a)⟩
  | _ => exact h1.elim
theorem i_tup {ta : TE} {fa : VE} (ha : SE C ta fa) : SI C (iTup K ta) (vIterT fa) := by
  intro σ H B S Rr R h
  replace h := post_bind.mp h
  refine ha σ H B S _ R (h.mono fun p h1 v H1 B1 R1 e1 d1 => ?_)
  obtain ⟨d, S1⟩ := p
  dsimp only at d1 h1 R1
  cases d1 with
  | tup s a => exact ⟨_, rfl, ⟨_, sm_t R1.base.bh s⟩, h1 _ H1 B1 R1 e1 (walks_tup s a)⟩
  | _ => exact h1.elim
def vRange1 (fa : VA) : VF := fun S => (fa S).bind fun p => match p.1 with
  | [.int j] => R.when (-1000000 ≤ j ∧ j ≤ 1000000) (.ok (rangeD 0 j.toNat, p.2))
  | _ => .bad
def vRange2 (fa : VA) : VF := fun S => (fa S).bind fun p => match p.1 with
  | [.int i, .int j] => R.when ((-1000000 ≤ i ∧ i ≤ 1000000) ∧ -1000000 ≤ j ∧ j ≤ 1000000) (.ok (rangeD i (j - i).toNat, p.2))
  | _ => .bad
theorem i_range1 {ta : TA} {fa : VA} (ha : SA C ta fa) : SI C (iRng1 ta) (vRange1 fa) := by
  intro σ H B S Rr R h
  replace h := post_bind.mp h
  refine ha σ H B S _ R (h.mono fun p h1 v H1 B1 R1 e1 d1 => ?_)
  obtain ⟨d, S1⟩ := p
  dsimp only at d1 h1 R1
  split at h1
  · rename_i j
    obtain ⟨⟨k1, k2⟩, h1⟩ := post_when.mp h1
    cases d1 with
    | cons q1 t =>
      cases t
      cases q1
      exact ⟨j, rfl, by omega, by omega, h1 _ H1 B1 R1 e1 walks_range⟩
  · exact h1.elim
theorem i_range2 {ta : TA} {fa : VA} (ha : SA C ta fa) : SI C (iRng2 ta) (vRange2 fa) := by
  intro σ H B S Rr R h
  replace h := post_bind.mp h
  refine ha σ H B S _ R (h.mono fun p h1 v H1 B1 R1 e1 d1 => ?_)
  obtain ⟨d, S1⟩ := p
  dsimp only at d1 h1 R1
  split at h1
  · rename_i i j
    obtain ⟨⟨⟨k1, k2⟩, k3, k4⟩, h1⟩ := post_when.mp h1
    cases d1 with
    | cons q1 t =>
      cases t with
      | cons q2 t =>
        cases t
        cases q1
        cases q2
        exact ⟨i, j, rfl, ⟨by omega, by omega, by omega, by omega⟩, h1 _ H1 B1 R1 e1 walks_range⟩
  · exact h1.elim
/-! zip of two lists -/
def zipD (ds es : List PyData) : List PyData := (ds.zip es).map fun p => .tuple [p.1, p.2]
theorem walks_zip {a b : Addr} {xs ys : List V} {ds es : List PyData} (s : B a = some (.lst xs)) (h : DaAll K B xs ds) (s2 : B b = some (.lst ys)) (h2 : DaAll K B ys es) : Walks C B (Itz K a b) (zipD ds es) where
  go := fun i H hi e => by
    unfold zipD at hi
    rw [List.length_map, List.length_zip, ← daa_len h, ← daa_len h2] at hi
    exact ⟨xs, ys, xs[i]'(by omega), ys[i]'(by omega), SqL.of (e _ _ s), SqL.of (e _ _ s2), List.getElem?_eq_getElem _, List.getElem?_eq_getElem _⟩
  stop := fun H e => by
    unfold zipD
    rw [List.length_map, List.length_zip, ← daa_len h, ← daa_len h2]
    exact ⟨xs, ys, SqL.of (e _ _ s), SqL.of (e _ _ s2), by omega⟩
  yld := fun i H H' x d hd y C σ B1 S R e => by
    obtain ⟨T, x1, x2, rfl, hT, rfl, y1, y2⟩ := y
    have hx := y1 xs (SqL.of (R.base.bh _ _ (e _ _ s)))
    have hy := y2 ys (SqL.of (R.base.bh _ _ (e _ _ s2)))
    obtain ⟨d1, q1, q2⟩ := daa_at h hx
    obtain ⟨d2, q3, q4⟩ := daa_at h2 hy
    obtain ⟨B', R1, e1, da⟩ := R.tup (xs := [x1, x2]) (ds := [d1, d2]) hT (.cons (da_mono e q2) (.cons (da_mono e q4) .nil))
    have ed : d = .tuple [d1, d2] := by
      unfold zipD at hd
      rw [List.getElem?_map, (List.getElem?_zip_eq_some (z := (d1, d2))).mpr ⟨q1, q3⟩] at hd
      exact (Option.some.inj hd).symm
    rw [ed]
    exact ⟨B', R1, e1, da, fun D o z => by rw [upd_ne (ne_of_none z hT)]; exact z⟩
def vZip (fa : VA) : VF := fun S => (fa S).bind fun p => match p.1 with
  | [.list ds, .list es] => .ok (zipD ds es, p.2)
  | _ => .bad
theorem i_zip {ta : TA} {fa : VA} (ha : SA C ta fa) : SI C (iZip K ta) (vZip fa) := by
  intro σ H B S Rr R h
  replace h := post_bind.mp h
  refine ha σ H B S _ R (h.mono fun p h1 v H1 B1 R1 e1 d1 => ?_)
  obtain ⟨d, S1⟩ := p
  dsimp only at d1 h1 R1
  split at h1
  · cases d1 with
    | cons q1 t =>
      cases t with
      | cons q2 t =>
        cases t
        cases q1 with
        | lst s a =>
          cases q2 with
          | lst s2 a2 => exact ⟨_, _, _, _, rfl, SqL.of (R1.base.bh _ _ s), SqL.of (R1.base.bh _ _ s2), h1 _ H1 B1 R1 e1 (walks_zip s a s2 a2)⟩
  · exact h1.elim
/-! enumerate of a list -/
def enumD (ds : List PyData) : List PyData := (ds.zipIdx).map fun p => .tuple [.int (p.2 : Nat), p.1]
theorem enumD_get {ds : List PyData} {i : Nat} {d : PyData} (h : ds[i]? = some d) : (enumD ds)[i]? = some (.tuple [.int (i : Nat), d]) := by
  unfold enumD
  rw [List.getElem?_map, List.getElem?_zipIdx, h]
  simp
theorem enumD_len {ds : List PyData} : (enumD ds).length = ds.length := by simp [enumD]
theorem walks_enum {a : Addr} {xs : List V} {ds : List PyData} (s : B a = some (.lst xs)) (h : DaAll K B xs ds) : Walks C B (Ite K a) (enumD ds) where
  go := fun i H hi e => by
    rw [enumD_len, ← daa_len h] at hi
    exact ⟨xs, xs[i], SqL.of (e _ _ s), List.getElem?_eq_getElem hi⟩
  stop := fun H e => ⟨xs, SqL.of (e _ _ s), by rw [daa_len h, enumD_len]; exact Nat.le_refl _⟩
  yld := fun i H H' x d hd y C σ B1 S R e => by
    obtain ⟨T, x1, rfl, hT, rfl, y1⟩ := y
    have hx := y1 xs (SqL.of (R.base.bh _ _ (e _ _ s)))
    obtain ⟨d1, q1, q2⟩ := daa_at h hx
    obtain ⟨B', R1, e1, da⟩ := R.tup (xs := [.int (i : Nat), x1]) (ds := [.int (i : Nat), d1]) hT (.cons (.int _) (.cons (da_mono e q2) .nil))
    rw [enumD_get q1] at hd
    cases hd
    exact ⟨B', R1, e1, da, fun D o z => by rw [upd_ne (ne_of_none z hT)]; exact z⟩
def vEnum (fa : VA) : VF := fun S => (fa S).bind fun p => match p.1 with
  | [.list ds] => .ok (enumD ds, p.2)
  | _ => .bad
theorem i_enum {ta : TA} {fa : VA} (ha : SA C ta fa) : SI C (iEnum K ta) (vEnum fa) := by
  intro σ H B S Rr R h
  replace h := post_bind.mp h
  refine ha σ H B S _ R (h.mono fun p h1 v H1 B1 R1 e1 d1 => ?_)
  obtain ⟨d, S1⟩ := p
  dsimp only at d1 h1 R1
  split at h1
  · cases d1 with
    | cons q1 t =>
      cases t
      cases q1 with
      | lst s a => exact ⟨_, _, rfl, SqL.of (R1.base.bh _ _ s), h1 _ H1 B1 R1 e1 (walks_enum s a)⟩
  · exact h1.elim
/-! ### statements -/
def vNext : VS := fun S => .ok (.nx S)
def vBrk : VS := fun S => .ok (.bk S)
def vCnt : VS := fun S => .ok (.ct S)
def vRet (fa : VE) : VS := fun S => (fa S).bind fun p => .ok (.rt p.1 p.2)
def vRetN : VS := fun S => .ok (.rt .none S)
def vDrop (fa : VE) : VS := fun S => (fa S).bind fun p => .ok (.nx p.2)
def seqF (fb : VS) : FL → R FL
  | .nx S => fb S
  | f => .ok f
def vSeq (fa fb : VS) : VS := fun S => (fa S).bind (seqF fb)
def vIfS (fc : VT) (fa fb : VS) : VS := fun S => (fc S).bind fun p => if p.1 = true then fa p.2 else fb p.2
def vAsg (fa : VE) (fg : PyData → SS → R SS) : VS := fun S => (fa S).bind fun p => (fg p.1 p.2).bind fun S => .ok (.nx S)
theorem st_next : SSt C tNext vNext := fun σ H B _ _ R h => h σ H B R (Same.refl _)
theorem st_brk : SSt C tBreak vBrk := fun σ H B _ _ R h => h σ H B R (Same.refl _)
theorem st_cnt : SSt C tCont vCnt := fun σ H B _ _ R h => h σ H B R (Same.refl _)
theorem st_ret {ta : TE} {fa : VE} (ha : SE C ta fa) : SSt C (tRet ta) (vRet fa) := by
  intro σ H B S D R h
  replace h := post_bind.mp h
  exact ha σ H B S _ R (h.mono fun p h1 v H1 B1 R1 e1 d1 => h1 v σ H1 B1 R1 e1 d1)
theorem st_retN : SSt C tRetN vRetN := fun σ H B _ _ R h => h _ σ H B R (Same.refl _) .non
theorem st_drop {ta : TE} {fa : VE} (ha : SE C ta fa) : SSt C (tDrop ta) (vDrop fa) := by
  intro σ H B S D R h
  replace h := post_bind.mp h
  exact ha σ H B S _ R (h.mono fun p h1 v H1 B1 R1 e1 d1 => h1 σ H1 B1 R1 e1)
theorem FlPost.from {B0 : Hp} {D : Ends} {fl : FL} (h : FlPost C B0 D fl) (e : Same B0 B) : FlPost C B D fl := by
  cases fl with
  | nx S => exact fun σ' H' B' R e' => h σ' H' B' R (e.trans e')
  | rt d S => exact fun v σ' H' B' R e' => h v σ' H' B' R (e.trans e')
  | bk S => exact fun σ' H' B' R e' => h σ' H' B' R (e.trans e')
  | ct S => exact fun σ' H' B' R e' => h σ' H' B' R (e.trans e')
theorem st_seq {ta tb : TS} {fa fb : VS} (ha : SSt C ta fa) (hb : SSt C tb fb) : SSt C (tSeq ta tb) (vSeq fa fb) := by
  intro σ H B S D R h
  replace h := post_bind.mp h
  refine ha σ H B S _ R (h.mono fun fl h1 => ?_)
  cases fl with
  | nx S1 => exact fun σ' H' B' R1 e1 => hb σ' H' B' S1 D R1 (Post.mono h1 fun fl q => q.from e1)
  | rt d S1 => exact h1
  | bk S1 => exact h1
  | ct S1 => exact h1
theorem st_if {tc : TT} {ta tb : TS} {fc : VT} {fa fb : VS} (hc : ST C tc fc) (ha : SSt C ta fa) (hb : SSt C tb fb) : SSt C (tIfS tc ta tb) (vIfS fc fa fb) := by
  intro σ H B S D R h
  replace h := post_bind.mp h
  refine hc σ H B S _ R (h.mono fun p h1 H1 B1 R1 e1 => ?_)
  obtain ⟨c, S1⟩ := p
  cases c with
  | true => exact ha σ H1 B1 S1 D R1 (Post.mono h1 fun fl q => q.from e1)
  | false => exact hb σ H1 B1 S1 D R1 (Post.mono h1 fun fl q => q.from e1)
theorem st_asg {ta : TE} {fa : VE} {g : TG} {fg : PyData → SS → R SS} {ts : List Nat} (ha : SE C ta fa) (hg : SG C g fg ts) : SSt C (tAsg ta g) (vAsg fa fg) := by
  intro σ H B S D R h
  replace h := post_bind.mp h
  refine ha σ H B S _ R (h.mono fun p h1 v H1 B1 R1 e1 d1 => ?_)
  exact hg σ H1 B1 p.2 v p.1 _ R1 d1 ((post_bind.mp h1).mono fun S2 h2 σ' R2 _ _ => h2 σ' H1 B1 R2 e1)
/-- a new list for a slot of its own -/
def vOwn (i : Nat) (f : VF) : VS := fun S => (f S).bind fun p => .ok (.nx (p.2.set i (some (.own p.1))))
theorem st_own {ta : TE} {f : VF} {i : Nat} (hi : n ≤ i) (ha : SEF C ta f) : SSt C (tAsg ta (gName i)) (vOwn i f) := by
  intro σ H B S D R h
  replace h := post_bind.mp h
  refine ha σ H B S _ R (h.mono fun p h1 a vs H1 B1 R1 e1 ha L d1 => ?_)
  exact h1 _ H1 B1 (R1.take hi rfl ⟨a, vs, rfl, ha, L.b, d1⟩ L.h0 L.no) e1
/-- from here on the lists of these slots stay -/
def frzS (i : Nat) (S : SS) : SS := match S[i]? with
  | some (some (.own ds)) => S.set i (some (.dat (.list ds)))
  | _ => S
def vFrz (i : Nat) (f : VS) : VS := fun S => f (frzS i S)
theorem st_frz {t : TS} {f : VS} {i : Nat} (hi : n ≤ i) (h : SSt C t f) : SSt C t (vFrz i f) := by
  intro σ H B S D R q
  unfold vFrz frzS at q
  split at q
  · rename_i ds e
    obtain ⟨B1, R1, e1⟩ := R.rest hi e
    exact h σ H B1 _ D R1 (q.mono fun fl q => q.from e1)
  · exact h σ H B S D R q
/-! ### loops -/
def loopF (fg : PyData → SS → R SS) (fb : VS) : List PyData → SS → R FL
  | [], S => .ok (.nx S)
  | d :: ds, S => (fg d S).bind fun S1 => (fb S1).bind fun fl => match fl with
    | .nx S2 => loopF fg fb ds S2
    | .ct S2 => loopF fg fb ds S2
    | .bk S2 => .ok (.nx S2)
    | .rt d S2 => .ok (.rt d S2)
def vFor (fi : VF) (fg : PyData → SS → R SS) (fb : VS) : VS := fun S => (fi S).bind fun p => loopF fg fb p.1 p.2
theorem st_for {wi : TI} {g : TG} {tb : TS} {fi : VF} {fg : PyData → SS → R SS} {fb : VS} {ts : List Nat} (hi : SI C wi fi) (hg : SG C g fg ts) (hb : SSt C tb fb) : SSt C (tFor wi g tb) (vFor fi fg fb) := by
  intro σ H B S D R h
  replace h := post_bind.mp h
  refine hi σ H B S _ R (h.mono fun p h1 J H1 B1 R1 e1 W => ?_)
  obtain ⟨ds, S1⟩ := p
  dsimp only at h1 R1 W
  refine ⟨fun i m σ' H' => m = ds.length - i ∧ i ≤ ds.length ∧ ∃ B' S', Rep C σ' H' B' S' ∧ Same B1 B' ∧ Post C (loopF fg fb (ds.drop i) S') (FlPost C B D), ⟨ds.length, by simp, Nat.zero_le _, B1, S1, R1, Same.refl _, h1⟩, ?_⟩
  rintro i m σ' H' ⟨rfl, hi, B', S', R', e', q⟩
  have eH : Same B1 H' := e'.trans R'.base.bh
  rcases Nat.lt_or_ge i ds.length with hlt | hge
  · refine .inr ⟨W.go i H' hlt eH, fun σ2 H2 => ∃ B2 S2, Rep C σ2 H2 B2 S2 ∧ Same B1 B2 ∧ Post C (loopF fg fb (ds.drop (i + 1)) S2) (FlPost C B D), ?_, ?_⟩
    · rintro σ2 H2 ⟨B2, S2, R2, e2, q2⟩
      exact ⟨ds.length - (i + 1), by omega, rfl, hlt, B2, S2, R2, e2, q2⟩
    · intro x H2 y
      obtain ⟨B2, R2, e2, dx, _⟩ := W.yld i H' H2 x ds[i] (List.getElem?_eq_getElem hlt) y C σ' B' S' R' e'
      rw [List.drop_eq_getElem_cons hlt] at q
      replace q := post_bind.mp q
      refine hg σ' H2 B2 S' x ds[i] _ R2 dx (q.mono fun S3 q σ3 R3 _ _ => ?_)
      replace q := post_bind.mp q
      refine hb σ3 H2 B2 S3 _ R3 (q.mono fun fl q => ?_)
      have e3 : Same B1 B2 := e'.trans e2
      cases fl with
      | nx S4 => exact fun σ4 H4 B4 R4 e4 => ⟨B4, S4, R4, e3.trans e4, q⟩
      | ct S4 => exact fun σ4 H4 B4 R4 e4 => ⟨B4, S4, R4, e3.trans e4, q⟩
      | bk S4 => exact fun σ4 H4 B4 R4 e4 => q σ4 H4 B4 R4 (e1.trans (e3.trans e4))
      | rt d S4 => exact fun v σ4 H4 B4 R4 e4 => q v σ4 H4 B4 R4 (e1.trans (e3.trans e4))
  · have ei : i = ds.length := by omega
    subst ei
    rw [List.drop_length] at q
    exact .inl ⟨W.stop H' eH, q σ' H' B' R' (e1.trans e')⟩
def fuel : Nat := 1000000
def loopW (fc : VT) (fb : VS) : Nat → SS → R FL
  | 0, _ => .bad
  | m + 1, S => (fc S).bind fun p => if p.1 = true then (fb p.2).bind fun fl => match fl with
    | .nx S2 => loopW fc fb m S2
    | .ct S2 => loopW fc fb m S2
    | .bk S2 => .ok (.nx S2)
    | .rt d S2 => .ok (.rt d S2)
    else .ok (.nx p.2)
def vWhile (fc : VT) (fb : VS) : VS := fun S => loopW fc fb fuel S
theorem st_while {tc : TT} {tb : TS} {fc : VT} {fb : VS} (hc : ST C tc fc) (hb : SSt C tb fb) : SSt C (tWhile tc tb) (vWhile fc fb) := by
  intro σ H B S D R h
  unfold vWhile at h
  refine ⟨fun m σ' H' => ∃ B' S', Rep C σ' H' B' S' ∧ Same B B' ∧ Post C (loopW fc fb m S') (FlPost C B D), ⟨fuel, B, S, R, Same.refl _, h⟩, ?_⟩
  rintro m σ' H' ⟨B', S', R', e', q⟩
  cases m with
  | zero => exact q.elim
  | succ m =>
    replace q := post_bind.mp q
    refine hc σ' H' B' S' _ R' (q.mono fun p q H2 B2 R2 e2 => ?_)
    obtain ⟨c, S2⟩ := p
    have e3 := e'.trans e2
    cases c with
    | false => exact q σ' H2 B2 R2 e3
    | true =>
      refine ⟨fun σ3 H3 => ∃ B3 S3, Rep C σ3 H3 B3 S3 ∧ Same B B3 ∧ Post C (loopW fc fb m S3) (FlPost C B D), ?_, ?_⟩
      · rintro σ3 H3 ⟨B3, S3, R3, e4, q3⟩
        exact ⟨m, Nat.lt_succ_self _, B3, S3, R3, e4, q3⟩
      · replace q : Post C ((fb S2).bind _) _ := q
        replace q := post_bind.mp q
        refine hb σ' H2 B2 S2 _ R2 (q.mono fun fl q => ?_)
        cases fl with
        | nx S4 => exact fun σ4 H4 B4 R4 e4 => ⟨B4, S4, R4, e3.trans e4, q⟩
        | ct S4 => exact fun σ4 H4 B4 R4 e4 => ⟨B4, S4, R4, e3.trans e4, q⟩
        | bk S4 => exact fun σ4 H4 B4 R4 e4 => q σ4 H4 B4 R4 (e3.trans e4)
        | rt d S4 => exact fun v σ4 H4 B4 R4 e4 => q v σ4 H4 B4 R4 (e3.trans e4)
end
end Bo

namespace Bo
open PySem L2
section
variable {K : PySem.W.Frag} {n : Nat} {C : Ct K n} {σ : L2.St} {H B : Hp} {S : SS}
/-! ### a list that is held aside -/
def Ct.hold (C : Ct K n) (D : Addr) (xs : List V) : Ct K n := { C with H0 := upd C.H0 D (.lst xs) }
section
variable {D : Addr} {xs : List V}
theorem hold_base (h0 : C.H0 D = none) (b : Base (C.hold D xs) H B) : Base C H B := by
  refine ⟨fun a o n q => b.keep a o n (by show upd C.H0 D _ a = _; rw [upd_ne (ne_of_none q h0)]; exact q), b.b0, b.bh, fun a o q => ?_⟩
  rcases b.fr a o q with z | z
  · exact .inl z
  · refine .inr ?_
    have z' : upd C.H0 D (.lst xs) a = none := z
    by_cases e : a = D
    · subst e
      exact h0
    · rw [upd_ne e] at z'
      exact z'
theorem hold_out {e : Exc} (h0 : C.H0 D = none) (h : C.Out e) : (C.hold D xs).Out e := fun H B v b d => h H B v (hold_base h0 b) d
theorem hold_post {α : Type} {x : R α} {k : α → Prop} (h0 : C.H0 D = none) (h : Post C x k) : Post (C.hold D xs) x k := by
  cases x with
  | ok a => exact h
  | err e => exact hold_out h0 h
  | bad => exact h
theorem Rep.hold (R : Rep C σ H B S) (hD : H D = some (.lst xs)) (L : Loose C σ S B D) : Rep (C.hold D xs) σ H B S := by
  refine ⟨⟨fun a o n q => ?_, R.base.b0, R.base.bh, fun a o q => ?_⟩, R.len, fun i s h => ?_, R.dis, fun i s a h m e => ?_, R.box⟩
  · have q' : upd C.H0 D (.lst xs) a = some o := q
    by_cases z : a = D
    · subst z
      rw [upd_same] at q'
      cases q'
      exact hD
    · rw [upd_ne z] at q'
      exact R.base.keep a o n q'
  · rcases R.base.fr a o q with z | z
    · exact .inl z
    · refine .inr ?_
      show upd C.H0 D (.lst xs) a = none
      rw [upd_ne (ne_of_none q L.b)]
      exact z
  · obtain ⟨v, hv, r⟩ := R.slot i s h
    exact ⟨v, hv, by cases s <;> exact r⟩
  · rcases R.ownf i s a h m e with z | z
    · refine .inl ?_
      show upd C.H0 D (.lst xs) a = none
      rw [upd_ne (fun q => L.no i s h m (by rw [← q]; exact e))]
      exact z
    · exact .inr z
theorem Rep.unhold (h0 : C.H0 D = none) (hB : C.B0 D = none) (nb : D ∉ C.bx) (R : Rep (C.hold D xs) σ H B S) : Rep C σ H B S ∧ H D = some (.lst xs) ∧ Loose C σ S B D := by
  have hH : (C.hold D xs).H0 D = some (.lst xs) := upd_same
  have bD : B D = none := by
    cases q : B D with
    | none => rfl
    | some o =>
      rcases R.base.fr D o q with z | z
      · exact nomatch (z.symm.trans hB)
      · exact nomatch (z.symm.trans hH)
  refine ⟨⟨hold_base h0 R.base, R.len, fun i s h => ?_, R.dis, fun i s a h m e => ?_, R.box⟩, R.base.keep D _ nb hH, bD, h0, fun j u q m e => ?_⟩
  · obtain ⟨v, hv, r⟩ := R.slot i s h
    exact ⟨v, hv, by cases s <;> exact r⟩
  · rcases R.ownf i s a h m e with z | z
    · refine .inl ?_
      have z' : upd C.H0 D (.lst xs) a = none := z
      by_cases q : a = D
      · subst q
        exact h0
      · rw [upd_ne q] at z'
        exact z'
    · exact .inr z
  · rcases R.ownf j u D q m e with z | z
    · exact nomatch (z.symm.trans hH)
    · exact nb (List.mem_of_getElem? z)
end
/-! ### slots set aside -/
def wipeS (S : SS) : List Nat → SS
  | [] => S
  | v :: vs => (wipeS S vs).set v none
def backS (S0 S : SS) : List Nat → SS
  | [] => S
  | v :: vs => (backS S0 S vs).set v (S0[v]?.join)
theorem wipeS_len : ∀ vs : List Nat, (wipeS S vs).length = S.length
  | [] => rfl
  | v :: vs => by
    unfold wipeS
    rw [List.length_set, wipeS_len vs]
theorem backS_len {S0 : SS} : ∀ vs : List Nat, (backS S0 S vs).length = S.length
  | [] => rfl
  | v :: vs => by
    unfold backS
    rw [List.length_set, backS_len vs]
theorem wipeS_some {i : Nat} {s : SV} : ∀ {vs : List Nat}, (wipeS S vs)[i]? = some (some s) → i ∉ vs ∧ S[i]? = some (some s)
  | [], h => ⟨by simp, h⟩
  | v :: vs, h => by
    unfold wipeS at h
    by_cases e : i = v
    · subst e
      have hl := (List.getElem?_eq_some_iff.mp h).1
      rw [List.length_set] at hl
      rw [List.getElem?_set_self hl] at h
      cases h
    · rw [List.getElem?_set_ne (Ne.symm e)] at h
      obtain ⟨h1, h2⟩ := wipeS_some h
      exact ⟨fun z => (List.mem_cons.mp z).elim e h1, h2⟩
theorem backS_some {S0 : SS} {i : Nat} {s : SV} : ∀ {vs : List Nat}, (backS S0 S vs)[i]? = some (some s) → (i ∈ vs ∧ S0[i]? = some (some s)) ∨ (i ∉ vs ∧ S[i]? = some (some s))
  | [], h => .inr ⟨by simp, h⟩
  | v :: vs, h => by
    unfold backS at h
    by_cases e : i = v
    · subst e
      have hl := (List.getElem?_eq_some_iff.mp h).1
      rw [List.length_set] at hl
      rw [List.getElem?_set_self hl] at h
      refine .inl ⟨List.mem_cons_self, ?_⟩
      cases q : S0[i]? with
      | none => rw [q] at h; cases h
      | some o => rw [q] at h; exact h
    · rw [List.getElem?_set_ne (Ne.symm e)] at h
      rcases backS_some h with ⟨h1, h2⟩ | ⟨h1, h2⟩
      · exact .inl ⟨List.mem_cons_of_mem _ h1, h2⟩
      · exact .inr ⟨fun z => (List.mem_cons.mp z).elim e h1, h2⟩
theorem wipe_ext {σ σ' : L2.St} {vs : List Nat} (hl : σ'.length = σ.length) (h : ∀ i, i ∉ vs → σ'[i]? = σ[i]?) : wipe σ' vs = wipe σ vs := by
  have key : ∀ us : List Nat, ∀ i, i ∈ us → ∀ τ : L2.St, i < τ.length → (wipe τ us)[i]? = some none := by
    intro us
    induction us with
    | nil => intro i hi; exact absurd hi (by simp)
    | cons u us ih =>
      intro i hi τ hτ
      unfold wipe
      by_cases e : i = u
      · subst e
        rw [List.getElem?_set_self (by rw [wipe_length]; exact hτ)]
      · rw [List.getElem?_set_ne (Ne.symm e)]
        rcases List.mem_cons.mp hi with z | z
        · exact absurd z e
        · exact ih i z τ hτ
  refine List.ext_getElem? fun i => ?_
  by_cases hi : i ∈ vs
  · by_cases hb : i < σ.length
    · rw [key vs i hi σ hb, key vs i hi σ' (by omega)]
    · rw [List.getElem?_eq_none (by rw [wipe_length]; omega), List.getElem?_eq_none (by rw [wipe_length]; omega)]
  · rw [wipe_out hi, wipe_out hi, h i hi]
theorem Rep.wiped (R : Rep C σ H B S) {vs : List Nat} (hv : ∀ v ∈ vs, n ≤ v) : Rep C (wipe σ vs) H B (wipeS S vs) := by
  refine ⟨R.base, by rw [wipeS_len, wipe_length]; exact R.len, fun i s h => ?_, fun i j s u a h1 h2 m1 m2 e1 e2 => ?_, fun i s a h m e => ?_, fun i a h => ?_⟩
  · obtain ⟨h1, h2⟩ := wipeS_some h
    rw [wipe_out h1]
    exact R.slot i s h2
  · obtain ⟨p1, p2⟩ := wipeS_some h1
    obtain ⟨q1, q2⟩ := wipeS_some h2
    rw [wipe_out p1] at e1
    rw [wipe_out q1] at e2
    exact R.dis i j s u a p2 q2 m1 m2 e1 e2
  · obtain ⟨p1, p2⟩ := wipeS_some h
    rw [wipe_out p1] at e
    exact R.ownf i s a p2 m e
  · have hn : i ∉ vs := fun z => by
      have := hv i z
      have := (List.getElem?_eq_some_iff.mp h).1
      have := C.hbx
      omega
    obtain ⟨q1, s, q2, q3⟩ := R.box i a h
    refine ⟨by rw [wipe_out hn]; exact q1, s, ?_, q3⟩
    have out : ∀ us : List Nat, i ∉ us → (wipeS S us)[i]? = S[i]? := by
      intro us
      induction us with
      | nil => intro _; rfl
      | cons u us ih =>
        intro hu
        unfold wipeS
        rw [List.getElem?_set_ne (fun e => hu (by simp [e]))]
        exact ih fun z => hu (List.mem_cons_of_mem _ z)
    rw [out vs hn]
    exact q2
/-- no slot to be set aside has a list of its own -/
def okS (vs : List Nat) (S : SS) : Bool := vs.all fun v => match S[v]? with
  | some (some s) => !s.mine
  | _ => true
theorem okS_at {vs : List Nat} {i : Nat} {s : SV} (h : okS vs S = true) (hi : i ∈ vs) (e : S[i]? = some (some s)) : s.mine = false := by
  have := List.all_eq_true.mp h i hi
  rw [e] at this
  simpa using this
theorem Rep.back {H1 B1 : Hp} {S1 : SS} {vs : List Nat} (R : Rep C σ H B S) (R1 : Rep C (wipe σ vs) H1 B1 S1) (e : Same B B1) (ok : okS vs S = true) (hv : ∀ v ∈ vs, n ≤ v) : Rep C σ H1 B1 (backS S S1 vs) := by
  have mine : ∀ (i : Nat) s, (backS S S1 vs)[i]? = some (some s) → s.mine = true → i ∉ vs ∧ S1[i]? = some (some s) := fun i s h m => by
    rcases backS_some h with ⟨h1, h2⟩ | h
    · rw [okS_at ok h1 h2] at m
      cases m
    · exact h
  refine ⟨R1.base, by rw [backS_len, R1.len, wipe_length], fun i s h => ?_, fun i j s u a h1 h2 m1 m2 e1 e2 => ?_, fun i s a h m q => ?_, fun i a h => ?_⟩
  · rcases backS_some h with ⟨h1, h2⟩ | ⟨h1, h2⟩
    · obtain ⟨v, hv, r⟩ := R.slot i s h2
      have hm := okS_at ok h1 h2
      exact ⟨v, hv, SR.mono e (fun m => by rw [hm] at m; cases m) r⟩
    · obtain ⟨v, q, r⟩ := R1.slot i s h2
      rw [wipe_out h1] at q
      exact ⟨v, q, r⟩
  · obtain ⟨p1, p2⟩ := mine i s h1 m1
    obtain ⟨q1, q2⟩ := mine j u h2 m2
    exact R1.dis i j s u a p2 q2 m1 m2 (by rw [wipe_out p1]; exact e1) (by rw [wipe_out q1]; exact e2)
  · obtain ⟨p1, p2⟩ := mine i s h m
    exact R1.ownf i s a p2 m (by rw [wipe_out p1]; exact q)
  · have hn : i ∉ vs := fun z => by
      have := hv i z
      have := (List.getElem?_eq_some_iff.mp h).1
      have := C.hbx
      omega
    obtain ⟨q1, s, q2, q3⟩ := R1.box i a h
    refine ⟨by rw [← wipe_out hn]; exact q1, s, ?_, q3⟩
    have out : ∀ us : List Nat, i ∉ us → (backS S S1 us)[i]? = S1[i]? := by
      intro us
      induction us with
      | nil => intro _; rfl
      | cons u us ih =>
        intro hu
        unfold backS
        rw [List.getElem?_set_ne (fun e => hu (by simp [e]))]
        exact ih fun z => hu (List.mem_cons_of_mem _ z)
    rw [out vs hn]
    exact q2
/-! ### comprehensions -/
def lcF (fg : PyData → SS → R SS) (ft : VT) (fe : VE) (vs : List Nat) : List PyData → SS → R (List PyData × SS)
  | [], S => .ok ([], S)
  | d :: ds, S => (fg d S).bind fun S1 => (ft S1).bind fun p => if p.1 = true then (fe p.2).bind fun q => (lcF fg ft fe vs ds (wipeS q.2 vs)).bind fun r => .ok (q.1 :: r.1, r.2) else lcF fg ft fe vs ds (wipeS p.2 vs)
def vLc (vs : List Nat) (fi : VF) (fg : PyData → SS → R SS) (ft : VT) (fe : VE) : VF := fun S => (fi S).bind fun p => R.when (okS vs p.2 = true ∧ p.1.length ≤ 100000) ((lcF fg ft fe vs p.1 (wipeS p.2 vs)).bind fun r => .ok (r.1, backS p.2 r.2 vs))
def vYes : VT := fun S => .ok (true, S)
theorem s_yes : ST C tYes vYes := fun σ H B S Q R h => h H B R (Same.refl _)
theorem f_lc {wi : TI} {g : TG} {tt : TT} {te : TE} {vs ts : List Nat} {fi : VF} {fg : PyData → SS → R SS} {ft : VT} {fe : VE} (hv : vs.all (fun v => decide (n ≤ v)) = true) (hts : ts.all (fun t => decide (t ∈ vs)) = true) (hi : SI C wi fi)
    (hg : ∀ C' : Ct K n, SG C' g fg ts) (ht : ∀ C' : Ct K n, ST C' tt ft) (he : ∀ C' : Ct K n, SE C' te fe) : SEF C (tLc wi g tt te vs) (vLc vs fi fg ft fe) := by
  intro σ H B S Q R h
  have hv' : ∀ v ∈ vs, n ≤ v := fun v m => of_decide_eq_true (List.all_eq_true.mp hv v m)
  have hts' : ∀ t ∈ ts, t ∈ vs := fun t m => of_decide_eq_true (List.all_eq_true.mp hts t m)
  replace h := post_bind.mp h
  refine hi σ H B S _ R (h.mono fun p h J H1 B1 R1 e1 W => ?_)
  obtain ⟨ds, S1⟩ := p
  dsimp only at h R1 W
  obtain ⟨⟨ok, hlen⟩, h⟩ := post_when.mp h
  replace h := post_bind.mp h
  intro D hD
  obtain ⟨h0, hB1, nb⟩ := R1.new hD
  have hB0 : C.B0 D = none := by
    cases q : C.B0 D with
    | none => rfl
    | some o =>
      rw [R1.base.b0 D o q] at hB1
      cases hB1
  refine ⟨fun i m H' => m = ds.length - i ∧ i ≤ ds.length ∧ ∃ B' S' acc accd, Rep C (wipe σ vs) H' B' S' ∧ Same B1 B' ∧ H' D = some (.lst acc) ∧ Loose C (wipe σ vs) S' B' D ∧ DaAll K B' acc accd ∧ accd.length ≤ i ∧
    Post C (lcF fg ft fe vs (ds.drop i) S') (fun r => ∀ a us H'' B'', Rep C σ H'' B'' (backS S1 r.2 vs) → Same B B'' → H'' a = some (.lst us) → Loose C σ (backS S1 r.2 vs) B'' a → DaAll K B'' us (accd ++ r.1) → Q (.ref a) H''), ⟨ds.length, ?_⟩, ?_⟩
  · obtain ⟨R2, L2⟩ := (R1.wiped hv').newLoose (o := .lst []) hD
    exact ⟨by simp, Nat.zero_le _, B1, wipeS S1 vs, [], [], R2, Same.refl _, upd_same, L2, .nil, Nat.le_refl _, h.mono fun r q => q⟩
  rintro i m H' ⟨rfl, hi, B', S', acc, accd, R', e', hA, L, dA, lA, q⟩
  have eH : Same B1 H' := e'.trans R'.base.bh
  rcases Nat.lt_or_ge i ds.length with hlt | hge
  · refine .inr ⟨W.go i H' hlt eH, _, fun H2 z => ⟨ds.length - (i + 1), by omega, rfl, hlt, z⟩, ?_⟩
    intro x H2 y
    have Rh := R'.hold hA L
    obtain ⟨B2, R2, e2, dx, _⟩ := W.yld i H' H2 x ds[i] (List.getElem?_eq_getElem hlt) y (C.hold D acc) (wipe σ vs) B' S' Rh e'
    rw [List.drop_eq_getElem_cons hlt] at q
    replace q := post_bind.mp q
    refine hg (C.hold D acc) (wipe σ vs) H2 B2 S' x ds[i] _ R2 dx (hold_post h0 (q.mono fun S3 q σ3 R3 l3 k3 => ?_))
    have hw : wipe σ3 vs = wipe σ vs := by
      have hw1 : wipe σ3 vs = wipe (wipe σ vs) vs := wipe_ext l3 fun j hj => k3 j fun z => hj (hts' j z)
      have hw2 : wipe (wipe σ vs) vs = wipe σ vs := wipe_ext (wipe_length _ _) fun j hj => wipe_out hj
      rw [hw1, hw2]
    refine ⟨hw, ?_⟩
    replace q := post_bind.mp q
    -- what a turn leaves is the next turn's start
    have next : ∀ {H4 B4 : Hp} {S4 : SS}, Rep (C.hold D acc) σ3 H4 B4 S4 → Rep C (wipe σ vs) H4 B4 (wipeS S4 vs) ∧ H4 D = some (.lst acc) ∧ Loose C (wipe σ vs) (wipeS S4 vs) B4 D ∧ Rep C σ3 H4 B4 S4 ∧ Loose C σ3 S4 B4 D := fun R4 => by
      obtain ⟨R5, hD5, L5⟩ := R4.unhold h0 hB0 nb
      have R6 := R5.wiped hv'
      rw [hw] at R6
      refine ⟨R6, hD5, ⟨L5.b, h0, fun j u z m e => ?_⟩, R5, L5⟩
      obtain ⟨z1, z2⟩ := wipeS_some z
      refine L5.no j u z2 m ?_
      rw [← hw, wipe_out z1] at e
      exact e
    refine ht (C.hold D acc) σ3 H2 B2 S3 _ R3 (hold_post h0 (q.mono fun p q H3 B3 R4 e3 => ?_))
    obtain ⟨c, S4⟩ := p
    cases c with
    | false =>
      obtain ⟨R6, hD6, L6, _, _⟩ := next R4
      have e13 := e2.trans e3
      exact ⟨B3, wipeS S4 vs, acc, accd, R6, e'.trans e13, hD6, L6, daa_mono e13 dA, by omega, q⟩
    | true =>
      replace q : Post C ((fe S4).bind _) _ := q
      replace q := post_bind.mp q
      refine he (C.hold D acc) σ3 H3 B3 S4 _ R4 (hold_post h0 (q.mono fun r q v H5 B5 R5 e5 d5 => ?_))
      replace q := post_bind.mp q
      obtain ⟨R6, hD6, L6, R7, L7⟩ := next R5
      have e15 := e2.trans (e3.trans e5)
      refine ⟨acc, hD6, Nat.lt_of_lt_of_le (Nat.lt_of_le_of_lt (Nat.le_of_eq (daa_len dA)) (Nat.lt_of_le_of_lt lA hlt)) (line_le hlen), ?_⟩
      have R8 : Rep C (wipe σ vs) (upd H5 D (.lst (acc ++ [v]))) B5 (wipeS r.2 vs) := by
        refine R6.grow ⟨fun a o na z => ?_, R6.base.b0, fun a o z => ?_, R6.base.fr⟩ (Same.refl _) fun a o z1 z2 ⟨j, u, z3, z4, z5⟩ => ⟨?_, z2⟩
        · rw [upd_ne (ne_of_none z h0)]
          exact R6.base.keep a o na z
        · rw [upd_ne (ne_of_none z L6.b)]
          exact R6.base.bh a o z
        · rw [upd_ne]
          · exact z1
          · rintro rfl
            exact L6.no j u z3 z4 z5
      refine ⟨B5, wipeS r.2 vs, acc ++ [v], accd ++ [r.1], R8, e'.trans e15, upd_same, L6, daa_app (daa_mono e15 dA) (.cons d5 .nil), ?_, ?_⟩
      · rw [List.length_append, List.length_singleton]
        omega
      · refine q.mono fun w q a us H'' B'' Ra eb hA' L' d' => q a us H'' B'' Ra eb hA' L' ?_
        rw [List.append_assoc] at d'
        exact d'
  · have ei : i = ds.length := by omega
    subst ei
    rw [List.drop_length] at q
    refine .inl ⟨W.stop H' eH, ?_⟩
    have Rb := R1.back R' e' ok hv'
    refine q D acc H' B' Rb (e1.trans e') hA ⟨L.b, h0, fun j u z m e => ?_⟩ (by rw [List.append_nil]; exact dA)
    rcases backS_some z with ⟨z1, z2⟩ | ⟨z1, z2⟩
    · rw [okS_at ok z1 z2] at m
      cases m
    · exact L.no j u z2 m (by rw [wipe_out z1]; exact e)
end
end Bo

namespace Bo
open PySem L2
section
variable {K : PySem.W.Frag} {n : Nat} {C : Ct K n} {σ : L2.St} {H B : Hp} {S : SS}
/-! ### a slot's own list, read -/
def ownD (S : SS) (i : Nat) : R (List PyData) := match S[i]? with
  | some (some (.own ds)) => .ok ds
  | _ => .bad
theorem own_of {i : Nat} {k : List PyData → Prop} (R : Rep C σ H B S) (h : Post C (ownD S i) k) : ∃ ds a vs, S[i]? = some (some (.own ds)) ∧ σ[i]? = some (some (.ref a)) ∧ H a = some (.lst vs) ∧ DaAll K B vs ds ∧ k ds := by
  unfold ownD at h
  split at h
  · rename_i ds e
    obtain ⟨v, hv, a, vs, rfl, h1, _, h3⟩ := R.slot i _ e
    exact ⟨ds, a, vs, e, hv, h1, h3, h⟩
  · exact h.elim
def vLenO (i : Nat) : VE := fun S => (ownD S i).bind fun ds => .ok (.int ds.length, S)
theorem s_lenO {i : Nat} : SE C (tCB (fun xs H Q => ∃ p ys, xs = [.ref p] ∧ (SqL K H p ys ∨ SqT K H p ys) ∧ Q (.int ys.length) H) (tCons (tVar i) tNil)) (vLenO i) := by
  intro σ H B S Q R h
  obtain ⟨ds, a, vs, e1, e2, e3, e4, h⟩ := own_of R (post_bind.mp h)
  exact ⟨_, e2, a, vs, rfl, .inl (SqL.of e3), by rw [daa_len e4]; exact h _ H B R (Same.refl _) (.int _)⟩
def vIxO (i : Nat) (fk : VE) : VE := fun S => (ownD S i).bind fun _ => (fk S).bind fun p => (ownD p.2 i).bind fun ds => (toI p.1).bind fun k => (ixD ds k).bind fun d => .ok (d, p.2)
theorem s_ixO {i : Nat} {tk : TE} {fk : VE} (hk : SE C tk fk) : SE C (tOp (rIxL K) (tVar i) tk) (vIxO i fk) := by
  intro σ H B S Q R h
  obtain ⟨ds0, a0, vs0, q1, q2, q3, q4, h⟩ := own_of R (post_bind.mp h)
  refine ⟨_, q2, ?_⟩
  replace h := post_bind.mp h
  refine hk σ H B S _ R (h.mono fun p h1 v H1 B1 R1 e1 d1 => ?_)
  obtain ⟨ds, a, vs, e1', e2, e3, e4, h1⟩ := own_of R1 (post_bind.mp h1)
  rw [q2] at e2
  cases e2
  obtain ⟨k, rfl, _, h1⟩ := int_of d1 (post_bind.mp h1)
  unfold ixD at h1
  split at h1
  · rename_i z qz
    obtain ⟨w, hw, dw⟩ := at_da e4 qz
    exact ⟨_, _, _, w, rfl, rfl, SqL.of e3, hw, h1 w H1 B1 R1 e1 dw⟩
  · exact h1.elim
def vInO (neg : Bool) (fa : VE) (i : Nat) : VE := fun S => (fa S).bind fun p => (ownD p.2 i).bind fun ds => R.when (flatD p.1 = true ∧ ds.all flatD = true) (.ok (.bool (if neg then !inD p.1 ds else inD p.1 ds), p.2))
theorem s_inO {neg : Bool} {i : Nat} {ta : TE} {fa : VE} (ha : SE C ta fa) : SE C (tOp (rIn K neg) ta (tVar i)) (vInO neg fa i) := by
  intro σ H B S Q R h
  replace h := post_bind.mp h
  refine ha σ H B S _ R (h.mono fun p h1 v H1 B1 R1 e1 d1 => ?_)
  obtain ⟨ds, a, vs, q1, q2, q3, q4, h1⟩ := own_of R1 (post_bind.mp h1)
  obtain ⟨⟨k1, k2⟩, h1⟩ := post_when.mp h1
  refine ⟨_, q2, a, vs, rfl, .inl (SqL.of q3), flat_v d1 k1, flats_v q4 k2, ?_⟩
  rw [in_v d1 k1 q4 k2]
  exact h1 _ H1 B1 R1 e1 (.bl _)
def vTupleO (i : Nat) : VE := fun S => (ownD S i).bind fun ds => .ok (.tuple ds, S)
theorem s_tupleO {i : Nat} : SE C (tCB (fun xs H Q => ∃ p ys, xs = [.ref p] ∧ ((SqL K H p ys ∧ ∀ l, H l = none → Q (.ref l) (upd H l (.tup ys))) ∨ (SqT K H p ys ∧ Q (.ref p) H))) (tCons (tVar i) tNil)) (vTupleO i) := by
  intro σ H B S Q R h
  obtain ⟨ds, a, vs, e1, e2, e3, e4, h⟩ := own_of R (post_bind.mp h)
  refine ⟨_, e2, a, vs, rfl, .inl ⟨SqL.of e3, fun l hl => ?_⟩⟩
  obtain ⟨B', R1, e1, d1⟩ := R.tup hl e4
  exact h _ _ B' R1 e1 d1
def vListO (i : Nat) : VF := fun S => (ownD S i).bind fun ds => .ok (ds, S)
theorem f_listO {i : Nat} : SEF C (tCB (fun xs H Q => ∃ p ys, xs = [.ref p] ∧ (SqL K H p ys ∨ SqT K H p ys) ∧ ∀ l, H l = none → Q (.ref l) (upd H l (.lst ys))) (tCons (tVar i) tNil)) (vListO i) := by
  intro σ H B S Q R h
  obtain ⟨ds, a, vs, e1, e2, e3, e4, h⟩ := own_of R (post_bind.mp h)
  refine ⟨_, e2, a, vs, rfl, .inl (SqL.of e3), fun l hl => ?_⟩
  obtain ⟨R2, L⟩ := R.newLoose (o := .lst vs) hl
  exact h l vs _ B R2 (Same.refl _) upd_same L e4
def vTruO (i : Nat) : VT := fun S => (ownD S i).bind fun ds => .ok (!ds.isEmpty, S)
theorem s_truO {i : Nat} : ST C (fun σ H Q => tVar i σ H fun x H' => ∃ k, TruV K x H' k ∧ Q k H') (vTruO i) := by
  intro σ H B S Q R h
  obtain ⟨ds, a, vs, e1, e2, e3, e4, h⟩ := own_of R (post_bind.mp h)
  exact ⟨_, e2, _, .inl ⟨vs, SqL.of e3, rfl⟩, by rw [← empty_da e4]; exact h H B R (Same.refl _)⟩
/-! ### a slot's own list, changed -/
/-- xs.append(e) -/
def vApp (i : Nat) (fe : VE) : VE := fun S => (ownD S i).bind fun _ => (fe S).bind fun p => (ownD p.2 i).bind fun ds => R.when (ds.length < 100000) (.ok (.none, p.2.set i (some (.own (ds ++ [p.1])))))
theorem s_app {i : Nat} {te : TE} {fe : VE} (he : SE C te fe) : SE C (tBM K "list" rAppend (tVar i) (tCons te tNil)) (vApp i fe) := by
  intro σ H B S Q R h
  obtain ⟨ds0, a0, vs0, q1, q2, q3, q4, h⟩ := own_of R (post_bind.mp h)
  refine ⟨_, q2, .inl ⟨rfl, _, SqL.of q3⟩, ?_⟩
  replace h := post_bind.mp h
  refine he σ H B S _ R (h.mono fun p h1 v H1 B1 R1 e1 d1 => ?_)
  obtain ⟨ds, a, vs, p1, p2, p3, p4, h1⟩ := own_of R1 (post_bind.mp h1)
  rw [q2] at p2
  cases p2
  obtain ⟨k, h1⟩ := post_when.mp h1
  refine ⟨_, vs, v, rfl, rfl, p3, Nat.lt_of_lt_of_le (by rw [daa_len p4]; exact k) (by decide), ?_⟩
  obtain ⟨_, _, w1, w2, w3⟩ := R1.own_at p1 rfl
  rw [q2] at w1
  cases w1
  exact h1 _ _ B1 (R1.write p1 rfl rfl q2 ⟨_, vs ++ [v], rfl, upd_same, w3, daa_app p4 (.cons d1 .nil)⟩) e1 .non
/-- xs.pop() -/
def vPop (i : Nat) : VE := fun S => (ownD S i).bind fun ds => match ds[ds.length - 1]? with
  | some d => .ok (d, S.set i (some (.own ds.dropLast)))
  | none => .bad
theorem daa_dropLast : ∀ {vs : List V} {ds : List PyData}, DaAll K B vs ds → DaAll K B vs.dropLast ds.dropLast := fun {vs ds} h => by
  rw [List.dropLast_eq_take, List.dropLast_eq_take, daa_len h]
  exact daa_take _ h
theorem s_pop {i : Nat} : SE C (tBM0 K "list" rPop (tVar i)) (vPop i) := by
  intro σ H B S Q R h
  obtain ⟨ds, a, vs, q1, q2, q3, q4, h⟩ := own_of R (post_bind.mp h)
  split at h
  · rename_i d e
    obtain ⟨v, hv, dv⟩ := daa_get q4 e
    obtain ⟨_, _, w1, w2, w3⟩ := R.own_at q1 rfl
    rw [q2] at w1
    cases w1
    refine ⟨_, q2, .inl ⟨rfl, _, SqL.of q3⟩, _, vs, v, rfl, rfl, q3, by rw [daa_len q4]; exact hv, ?_⟩
    exact h v _ B (R.write q1 rfl rfl q2 ⟨_, vs.dropLast, rfl, upd_same, w3, daa_dropLast q4⟩) (Same.refl _) dv
  · exact h.elim
/-- xs[k] = e -/
def vSetI (i : Nat) (fk fe : VE) : VS := fun S => (fe S).bind fun p => (ownD p.2 i).bind fun _ => (fk p.2).bind fun q => (ownD q.2 i).bind fun ds => (toI q.1).bind fun k => match ixN ds.length k with
  | some j => .ok (.nx (q.2.set i (some (.own (ds.set j p.1)))))
  | none => .bad
theorem st_setI {i : Nat} {tk te : TE} {fk fe : VE} (hk : SE C tk fk) (he : SE C te fe) : SSt C (tAsg te (gSub (tVar i) tk rSetL)) (vSetI i fk fe) := by
  intro σ H B S D R h
  replace h := post_bind.mp h
  refine he σ H B S _ R (h.mono fun p h1 v H1 B1 R1 e1 d1 => ?_)
  obtain ⟨ds0, a0, vs0, q1, q2, q3, q4, h1⟩ := own_of R1 (post_bind.mp h1)
  refine ⟨_, q2, ?_⟩
  replace h1 := post_bind.mp h1
  refine hk σ H1 B1 p.2 _ R1 (h1.mono fun q h2 w H2 B2 R2 e2 d2 => ?_)
  obtain ⟨ds, a, vs, p1, p2, p3, p4, h2⟩ := own_of R2 (post_bind.mp h2)
  rw [q2] at p2
  cases p2
  obtain ⟨k, rfl, _, h2⟩ := int_of d2 (post_bind.mp h2)
  split at h2
  · rename_i j ej
    obtain ⟨_, _, w1, w2, w3⟩ := R2.own_at p1 rfl
    rw [q2] at w1
    cases w1
    refine ⟨_, vs, k, j, rfl, rfl, p3, by rw [daa_len p4]; exact ej, ?_⟩
    exact h2 _ _ B2 (R2.write p1 rfl rfl q2 ⟨_, vs.set j v, rfl, upd_same, w3, daa_set j p4 (da_mono e2 d1)⟩) (e1.trans e2)
  · exact h2.elim
/-! ### dicts of a slot -/
def vNewD (i : Nat) : VS := fun S => .ok (.nx (S.set i (some (.dic []))))
theorem st_newD {i : Nat} (hi : n ≤ i) : SSt C (tAsg tDNewK (gName i)) (vNewD i) := by
  intro σ H B S D R h p hp
  obtain ⟨R2, L⟩ := R.newLoose (o := .dK []) hp
  exact h _ _ B (R2.take hi rfl ⟨p, [], rfl, upd_same, L.b, .nil⟩ L.h0 L.no) (Same.refl _)
def keyD : PyData → R Key
  | .int i => .ok (.inl i)
  | .str x => .ok (.inr x)
  | _ => .bad
theorem key_of {v : V} {d : PyData} {k : Key → Prop} (h : Da K B v d) (q : Post C (keyD d) k) : ∃ y, v = kV y ∧ keyD d = .ok y ∧ k y := by
  cases h <;> first | exact q.elim | exact ⟨_, rfl, rfl, q⟩
def putD (kvs : List (Key × PyData)) (k : Key) (d : PyData) : List (Key × PyData) :=
  if (kvs.any fun kv => decide (kv.1 = k)) = true then kvs.map (fun kv => if kv.1 = k then (kv.1, d) else kv) else kvs ++ [(k, d)]
theorem dpks_any {ws : List (Key × V)} {kvs : List (Key × PyData)} {k : Key} : DpKs K B ws kvs → (ws.any fun kv => decide (kv.1 = k)) = kvs.any fun kv => decide (kv.1 = k)
  | .nil => rfl
  | .cons h t => by
    have ih := dpks_any (k := k) t
    rw [List.any_cons, List.any_cons, h.1, ih]
theorem dpks_map {ws : List (Key × V)} {kvs : List (Key × PyData)} {k : Key} {v : V} {d : PyData} (dv : Da K B v d) : DpKs K B ws kvs → DpKs K B (ws.map fun kv => if kv.1 = k then (kv.1, v) else kv) (kvs.map fun kv => if kv.1 = k then (kv.1, d) else kv)
  | .nil => .nil
  | .cons (b := b) h t => by
    refine .cons ?_ (dpks_map dv t)
    dsimp only
    rw [h.1]
    by_cases e : b.1 = k
    · rw [if_pos e, if_pos e]
      exact ⟨rfl, dv⟩
    · rw [if_neg e, if_neg e]
      exact h
theorem dpks_app {ws xs : List (Key × V)} {kvs es : List (Key × PyData)} (s : DpKs K B xs es) : DpKs K B ws kvs → DpKs K B (ws ++ xs) (kvs ++ es)
  | .nil => s
  | .cons h t => .cons h (dpks_app s t)
theorem dpks_len {ws : List (Key × V)} {kvs : List (Key × PyData)} : DpKs K B ws kvs → ws.length = kvs.length
  | .nil => rfl
  | .cons _ t => congrArg (· + 1) (dpks_len t)
theorem dpks_put {ws : List (Key × V)} {kvs : List (Key × PyData)} {k : Key} {v : V} {d : PyData} (h : DpKs K B ws kvs) (dv : Da K B v d) : DpKs K B (putK ws k v) (putD kvs k d) := by
  unfold putK putD
  rw [dpks_any h]
  split
  · exact dpks_map dv h
  · exact dpks_app (.cons ⟨rfl, dv⟩ .nil) h
def dicD (S : SS) (i : Nat) : R (List (Key × PyData)) := match S[i]? with
  | some (some (.dic ds)) => .ok ds
  | _ => .bad
theorem dic_of {i : Nat} {k : List (Key × PyData) → Prop} (R : Rep C σ H B S) (h : Post C (dicD S i) k) : ∃ ds a vs, S[i]? = some (some (.dic ds)) ∧ σ[i]? = some (some (.ref a)) ∧ H a = some (.dK vs) ∧ DpKs K B vs ds ∧ k ds := by
  unfold dicD at h
  split at h
  · rename_i ds e
    obtain ⟨v, hv, a, vs, rfl, h1, _, h3⟩ := R.slot i _ e
    exact ⟨ds, a, vs, e, hv, h1, h3, h⟩
  · exact h.elim
/-- d[k] = e: the value first -/
def vPutD (i : Nat) (fk fe : VE) : VS := fun S => (fe S).bind fun p => (dicD p.2 i).bind fun _ => (fk p.2).bind fun q => (keyD q.1).bind fun y => (dicD q.2 i).bind fun kvs => R.when (kvs.length < 100000) (.ok (.nx (q.2.set i (some (.dic (putD kvs y p.1))))))
theorem st_putD {i : Nat} {tk te : TE} {fk fe : VE} (hk : SE C tk fk) (he : SE C te fe) : SSt C (sDPut (tVar i) tk te) (vPutD i fk fe) := by
  intro σ H B S D R h
  replace h := post_bind.mp h
  refine he σ H B S _ R (h.mono fun p h1 v H1 B1 R1 e1 d1 => ?_)
  obtain ⟨ds0, a0, vs0, q1, q2, q3, q4, h1⟩ := dic_of R1 (post_bind.mp h1)
  refine ⟨_, q2, ?_⟩
  replace h1 := post_bind.mp h1
  refine hk σ H1 B1 p.2 _ R1 (h1.mono fun q h2 w H2 B2 R2 e2 d2 => ?_)
  obtain ⟨y, rfl, _, h2⟩ := key_of d2 (post_bind.mp h2)
  obtain ⟨kvs, a, ws, p1, p2, p3, p4, h2⟩ := dic_of R2 (post_bind.mp h2)
  rw [q2] at p2
  cases p2
  obtain ⟨k, h2⟩ := post_when.mp h2
  obtain ⟨_, _, w1, w2, w3⟩ := R2.own_at p1 rfl
  rw [q2] at w1
  cases w1
  refine ⟨_, _, rfl, .inl ⟨ws, y, p3, rfl, Nat.lt_of_lt_of_le (by rw [dpks_len p4]; exact k) (by decide), rfl⟩, ?_⟩
  exact h2 _ _ B2 (R2.write p1 rfl rfl q2 ⟨_, putK ws y v, rfl, upd_same, w3, dpks_put p4 (da_mono e2 d1)⟩) (e1.trans e2)
/-! ### calls -/
def Frz (H B B' : Hp) : Prop := ∀ a o, B' a = some o → B a = some o ∨ H a = none
def R.okTo {α : Type} (x : R α) (k : α → Prop) : Prop := match x with
  | .ok a => k a
  | _ => False
def R.noErr {α : Type} (x : R α) : R α := match x with
  | .ok a => .ok a
  | _ => .bad
/-- a def that changes nothing and raises nothing -/
def spP (K : PySem.W.Frag) (m : Nat) (den : List PyData → R PyData) : Sp := fun vs H Q _ => ∃ (ds : List PyData) (B : Hp), DaAll K B vs ds ∧ Same B H ∧ ds.length = m ∧
  (den ds).okTo fun z => ∀ v H' B', Same H H' → Same B B' → Same B' H' → Frz H B B' → Da K B' v z → Q v H'
/-- a def whose first argument is a list that it may change -/
def spB (K : PySem.W.Frag) (m : Nat) (den : List PyData → List PyData → R (PyData × List PyData)) : Sp := fun vs H Q _ => ∃ (a : Addr) (us ws : List V) (bs ds : List PyData) (B : Hp), vs = .ref a :: us ∧ H a = some (.lst ws) ∧ B a = none ∧ DaAll K B ws bs ∧ DaAll K B us ds ∧ Same B H ∧ ds.length = m ∧
  (den bs ds).okTo fun z => ∀ v H' B' ws', (∀ b o, b ≠ a → H b = some o → H' b = some o) → Same B B' → Same B' H' → Frz H B B' → B' a = none → H' a = some (.lst ws') → DaAll K B' ws' z.2 → Da K B' v z.1 → Q v H'
/-- .. a dict -/
def spD (K : PySem.W.Frag) (m : Nat) (den : List (Key × PyData) → List PyData → R (PyData × List (Key × PyData))) : Sp := fun vs H Q _ => ∃ (a : Addr) (us : List V) (ws : List (Key × V)) (bs : List (Key × PyData)) (ds : List PyData) (B : Hp), vs = .ref a :: us ∧ H a = some (.dK ws) ∧ B a = none ∧ DpKs K B ws bs ∧ DaAll K B us ds ∧ Same B H ∧ ds.length = m ∧
  (den bs ds).okTo fun z => ∀ v H' B' ws', (∀ b o, b ≠ a → H b = some o → H' b = some o) → Same B B' → Same B' H' → Frz H B B' → B' a = none → H' a = some (.dK ws') → DpKs K B' ws' z.2 → Da K B' v z.1 → Q v H'
/-- a def of the script -/
def spS (K : PySem.W.Frag) (den : List Int → R PyData) : Sp := fun vs H Q _ => ∃ (a : Addr) (ns : List Int) (B : Hp), vs = [.ref a] ∧ SqL K B a (ns.map V.int) ∧ Same B H ∧
  (den ns).okTo fun z => ∀ v H' B', Same H H' → Same B B' → Same B' H' → Frz H B B' → Da K B' v z → Q v H'
theorem okTo_of {α : Type} {x : R α} {k : α → Prop} (h : Post C x.noErr k) : x.okTo k := by
  cases x with
  | ok a => exact h
  | err e => exact h.elim
  | bad => exact h.elim
theorem R.okTo.mono {α : Type} {x : R α} {k k' : α → Prop} (h : x.okTo k) (m : ∀ a, k a → k' a) : x.okTo k' := by
  cases x with
  | ok a => exact m a h
  | err e => exact h
  | bad => exact h
/-- behind a call that changed nothing of ours -/
theorem Rep.after {H' B' : Hp} (R : Rep C σ H B S) (sH : Same H H') (sB : Same B B') (bh : Same B' H') (fz : Frz H B B') : Rep C σ H' B' S := by
  refine R.grow ⟨fun a o na q => sH a o (R.base.keep a o na q), R.base.b0.trans sB, bh, fun a o q => ?_⟩ sB fun a o h1 h2 _ => ⟨sH a o h1, ?_⟩
  · rcases fz a o q with z | z
    · exact R.base.fr a o z
    · exact .inr (R.new z).1
  · cases q : B' a with
    | none => rfl
    | some u =>
      rcases fz a u q with z | z
      · exact nomatch (h2.symm.trans z)
      · exact nomatch (h1.symm.trans z)
def vCallP (m : Nat) (den : List PyData → R PyData) (fa : VA) : VE := fun S => (fa S).bind fun p => R.when (p.1.length = m) (((den p.1).noErr).bind fun z => .ok (z, p.2))
theorem s_callP {m : Nat} {den : List PyData → R PyData} {E : XK} {ta : TA} {fa : VA} (ha : SA C ta fa) : SE C (tCall (spP K m den) [] E ta) (vCallP m den fa) := by
  intro σ H B S Q R h
  replace h := post_bind.mp h
  refine ha σ H B S _ R (h.mono fun p h1 vs H1 B1 R1 e1 d1 => ?_)
  obtain ⟨k, h1⟩ := post_when.mp h1
  replace h1 := post_bind.mp h1
  rw [List.append_nil]
  exact ⟨p.1, B1, d1, R1.base.bh, k, (okTo_of h1).mono fun z h2 v H' B' sH sB bh fz dv => h2 v H' B' (R1.after sH sB bh fz) (e1.trans sB) dv⟩
/-- behind a call that changed our slot's list -/
theorem Rep.afterB {H' B' : Hp} {i : Nat} {a : Addr} {s s' : SV} {o' : HO} (R : Rep C σ H B S) (h : S[i]? = some (some s)) (m : s.mine = true) (m' : s'.mine = true) (hv : σ[i]? = some (some (.ref a))) (sH : ∀ b o, b ≠ a → H b = some o → H' b = some o) (sB : Same B B') (bh : Same B' H') (fz : Frz H B B')
    (hb : B' a = none) (hH : H' a = some o') (r : SR C H' B' (.ref a) s') : Rep C σ H' B' (S.set i (some s')) := by
  obtain ⟨a', o, e1, e2, e3⟩ := R.own_at h m
  rw [hv] at e1
  cases e1
  -- first the change at a alone, then the growth of the rest
  have hl : i < S.length := (List.getElem?_eq_some_iff.mp h).1
  have at_ : ∀ j u, (S.set i (some s'))[j]? = some (some u) → (j = i ∧ u = s') ∨ (j ≠ i ∧ S[j]? = some (some u)) := fun j u h => by
    by_cases e : j = i
    · subst e
      rw [List.getElem?_set_self hl] at h
      cases h
      exact .inl ⟨rfl, rfl⟩
    · rw [List.getElem?_set_ne (Ne.symm e)] at h
      exact .inr ⟨e, h⟩
  have old : ∀ (j : Nat) (u : SV), (S.set i (some s'))[j]? = some (some u) → u.mine = true → ∃ u' : SV, S[j]? = some (some u') ∧ u'.mine = true := fun j u h2 m2 => by
    rcases at_ j u h2 with ⟨x1, x2⟩ | ⟨x1, x2⟩
    · subst x1
      exact ⟨s, h, m⟩
    · exact ⟨u, x2, m2⟩
  refine ⟨⟨fun b u nb q => ?_, R.base.b0.trans sB, bh, fun b u q => ?_⟩, by simp [R.len], fun j u h2 => ?_, fun j k u w b h1 h2 m1 m2 q1 q2 => ?_, fun j u b h1 m e => ?_, fun j b h1 => ?_⟩
  · refine sH b u ?_ (R.base.keep b u nb q)
    rintro rfl
    rcases R.ownf i s b h m hv with z | z
    · rw [z] at q
      cases q
    · exact nb (List.mem_of_getElem? z)
  · rcases fz b u q with z | z
    · exact R.base.fr b u z
    · exact .inr (R.new z).1
  · rcases at_ j u h2 with ⟨x1, x2⟩ | ⟨x1, x2⟩
    · subst x1 x2
      exact ⟨_, hv, r⟩
    · obtain ⟨v, q1, q2⟩ := R.slot j u x2
      refine ⟨v, q1, SR.mono sB (fun mu b e ob h1 h2 => ⟨sH b ob ?_ h1, ?_⟩) q2⟩
      · rintro rfl
        exact x1 (R.dis j i u s b x2 h mu m (by rw [q1, e]) hv)
      · cases q : B' b with
        | none => rfl
        | some w =>
          rcases fz b w q with z | z
          · exact nomatch (h2.symm.trans z)
          · exact nomatch (h1.symm.trans z)
  · obtain ⟨u', z1, z2⟩ := old j u h1 m1
    obtain ⟨w', z3, z4⟩ := old k w h2 m2
    exact R.dis j k u' w' b z1 z3 z2 z4 q1 q2
  · obtain ⟨u', z1, z2⟩ := old j u h1 m
    exact R.ownf j u' b z1 z2 e
  · obtain ⟨q1, u, q2, q3⟩ := R.box j b h1
    refine ⟨q1, ?_⟩
    by_cases e : j = i
    · subst e
      exact ⟨s', List.getElem?_set_self hl, m'⟩
    · rw [List.getElem?_set_ne (Ne.symm e)]
      exact ⟨u, q2, q3⟩
def vCallB (m : Nat) (den : List PyData → List PyData → R (PyData × List PyData)) (i : Nat) (fa : VA) : VE := fun S => (ownD S i).bind fun _ => (fa S).bind fun p => (ownD p.2 i).bind fun bs => R.when (p.1.length = m) (((den bs p.1).noErr).bind fun z => .ok (z.1, p.2.set i (some (.own z.2))))
theorem s_callB {m i : Nat} {den : List PyData → List PyData → R (PyData × List PyData)} {E : XK} {ta : TA} {fa : VA} (ha : SA C ta fa) : SE C (tCall (spB K m den) [] E (tCons (tVar i) ta)) (vCallB m den i fa) := by
  intro σ H B S Q R h
  obtain ⟨ds0, a0, vs0, q1, q2, q3, q4, h⟩ := own_of R (post_bind.mp h)
  refine ⟨_, q2, ?_⟩
  replace h := post_bind.mp h
  refine ha σ H B S _ R (h.mono fun p h1 vs H1 B1 R1 e1 d1 => ?_)
  obtain ⟨bs, a, ws, p1, p2, p3, p4, h1⟩ := own_of R1 (post_bind.mp h1)
  rw [q2] at p2
  cases p2
  obtain ⟨k, h1⟩ := post_when.mp h1
  replace h1 := post_bind.mp h1
  obtain ⟨_, _, w1, w2, w3⟩ := R1.own_at p1 rfl
  rw [q2] at w1
  cases w1
  rw [List.append_nil]
  exact ⟨_, vs, ws, bs, p.1, B1, rfl, p3, w3, p4, d1, R1.base.bh, k, (okTo_of h1).mono fun z h2 v H' B' ws' sH sB bh fz hb hH dw dv =>
    h2 v H' B' (R1.afterB p1 rfl rfl q2 sH sB bh fz hb hH ⟨_, ws', rfl, hH, hb, dw⟩) (e1.trans sB) dv⟩
def vCallD (m : Nat) (den : List (Key × PyData) → List PyData → R (PyData × List (Key × PyData))) (i : Nat) (fa : VA) : VE := fun S => (dicD S i).bind fun _ => (fa S).bind fun p => (dicD p.2 i).bind fun bs => R.when (p.1.length = m) (((den bs p.1).noErr).bind fun z => .ok (z.1, p.2.set i (some (.dic z.2))))
theorem s_callD {m i : Nat} {den : List (Key × PyData) → List PyData → R (PyData × List (Key × PyData))} {E : XK} {ta : TA} {fa : VA} (ha : SA C ta fa) : SE C (tCall (spD K m den) [] E (tCons (tVar i) ta)) (vCallD m den i fa) := by
  intro σ H B S Q R h
  obtain ⟨ds0, a0, vs0, q1, q2, q3, q4, h⟩ := dic_of R (post_bind.mp h)
  refine ⟨_, q2, ?_⟩
  replace h := post_bind.mp h
  refine ha σ H B S _ R (h.mono fun p h1 vs H1 B1 R1 e1 d1 => ?_)
  obtain ⟨bs, a, ws, p1, p2, p3, p4, h1⟩ := dic_of R1 (post_bind.mp h1)
  rw [q2] at p2
  cases p2
  obtain ⟨k, h1⟩ := post_when.mp h1
  replace h1 := post_bind.mp h1
  obtain ⟨_, _, w1, w2, w3⟩ := R1.own_at p1 rfl
  rw [q2] at w1
  cases w1
  rw [List.append_nil]
  exact ⟨_, vs, ws, bs, p.1, B1, rfl, p3, w3, p4, d1, R1.base.bh, k, (okTo_of h1).mono fun z h2 v H' B' ws' sH sB bh fz hb hH dw dv =>
    h2 v H' B' (R1.afterB p1 rfl rfl q2 sH sB bh fz hb hH ⟨_, ws', rfl, hH, hb, dw⟩) (e1.trans sB) dv⟩
/-- the script -/
def vCallS (den : List Int → R PyData) (i : Nat) : VE := fun S => match S[i]? with
  | some (some (.scr ns)) => ((den ns).noErr).bind fun z => .ok (z, S)
  | _ => .bad
theorem s_callS {i : Nat} {den : List Int → R PyData} {E : XK} : SE C (tCall (spS K den) [] E (tCons (tVar i) tNil)) (vCallS den i) := by
  intro σ H B S Q R h
  unfold vCallS at h
  split at h
  · rename_i ns e
    obtain ⟨v, hv, a, rfl, sq⟩ := R.slot i _ e
    refine ⟨_, hv, ?_⟩
    replace h := post_bind.mp h
    exact ⟨a, ns, B, rfl, sq, R.base.bh, (okTo_of h).mono fun z h2 v H' B' sH sB bh fz dv => h2 v H' B' (R.after sH sB bh fz) sB dv⟩
  · exact h.elim
/-- for x in script -/
theorem walks_scr {a : Addr} {ns : List Int} (s : SqL K B a (ns.map V.int)) : Walks C B (Itl K a) (ns.map PyData.int) where
  go := fun i H hi e => by
    rw [List.length_map] at hi
    exact ⟨_, .int ns[i], sm_l e s, by rw [List.getElem?_map, List.getElem?_eq_getElem hi]; rfl⟩
  stop := fun H e => ⟨_, sm_l e s, by rw [List.length_map, List.length_map]; exact Nat.le_refl _⟩
  yld := fun i H H' x d hd y C σ B1 S R e => by
    obtain ⟨rfl, y⟩ := y
    have hx := y _ (sm_l (e.trans R.base.bh) s)
    rw [List.getElem?_map] at hx hd
    cases q : ns[i]? with
    | none => rw [q] at hd; cases hd
    | some z =>
      rw [q] at hx hd
      cases hx
      cases hd
      exact ⟨B1, R, Same.refl _, .int _, fun _ _ z => z⟩
def vScr (i : Nat) : VF := fun S => match S[i]? with
  | some (some (.scr ns)) => .ok (ns.map PyData.int, S)
  | _ => .bad
theorem i_scr {i : Nat} : SI C (iList K (tVar i)) (vScr i) := by
  intro σ H B S Rr R h
  unfold vScr at h
  split at h
  · rename_i ns e
    obtain ⟨v, hv, a, rfl, sq⟩ := R.slot i _ e
    exact ⟨_, hv, a, rfl, ⟨_, sm_l R.base.bh sq⟩, h _ H B R (Same.refl _) (walks_scr sq)⟩
  · exact h.elim
/-! ### a def by its body -/
def endP (x : R FL) : R PyData := x.bind fun fl => match fl with
  | .nx _ => .ok .none
  | .rt d _ => .ok d
  | _ => .bad
def startS (N : Nat) (ds : List PyData) : SS := ds.map (fun d => some (.dat d)) ++ List.replicate (N - ds.length) none
/-- what a def is worth: N names, its body -/
def denP (N : Nat) (f : VS) : List PyData → R PyData := fun ds => endP (f (startS N ds))
theorem startS_some {N : Nat} {ds : List PyData} {i : Nat} {s : SV} (h : (startS N ds)[i]? = some (some s)) : ∃ d, ds[i]? = some d ∧ s = .dat d := by
  unfold startS at h
  by_cases hi : i < ds.length
  · rw [List.getElem?_append_left (by rw [List.length_map]; exact hi), List.getElem?_map, List.getElem?_eq_getElem hi] at h
    cases h
    exact ⟨_, List.getElem?_eq_getElem hi, rfl⟩
  · rw [List.getElem?_append_right (by rw [List.length_map]; omega), List.getElem?_replicate] at h
    split at h <;> cases h
theorem start_get {N : List Str} {vs : List V} {i : Nat} {v : V} (h : vs[i]? = some v) : (L2.start N vs)[i]? = some (some v) := by
  have hi := (List.getElem?_eq_some_iff.mp h).1
  unfold L2.start
  rw [List.getElem?_append_left (by rw [List.length_map]; exact hi), List.getElem?_map, h]
  rfl
def ct0 (H B : Hp) (er : Exc → V → Hp → Prop) : Ct K 0 := ⟨H, B, [], rfl, er⟩
theorem rep_start {N : List Str} {vs : List V} {ds : List PyData} {er : Exc → V → Hp → Prop} (d : DaAll K B vs ds) (bh : Same B H) : Rep (ct0 (K := K) H B er) (L2.start N vs) H B (startS N.length ds) := by
  have nomine : ∀ (i : Nat) s, (startS N.length ds)[i]? = some (some s) → s.mine = true → False := fun i s h m => by
    obtain ⟨d, _, rfl⟩ := startS_some h
    cases m
  refine ⟨⟨fun a o _ q => q, Same.refl _, bh, fun a o q => .inl q⟩, ?_, fun i s h => ?_, fun i j s u a h1 h2 m1 m2 e1 e2 => (nomine i s h1 m1).elim, fun i s a h m e => (nomine i s h m).elim, fun i a h => nomatch (show (none : Option Addr) = some a from h)⟩
  · unfold startS L2.start
    rw [List.length_append, List.length_append, List.length_map, List.length_map, List.length_replicate, List.length_replicate, daa_len d]
  · obtain ⟨d', h1, rfl⟩ := startS_some h
    obtain ⟨v, h2, h3⟩ := daa_get d h1
    exact ⟨v, start_get h2, h3⟩
theorem len_P {m : Nat} {den : List PyData → R PyData} {vs : List V} {Q : VK} {E : XK} (h : spP K m den vs H Q E) : vs.length = m := by
  obtain ⟨ds, B, d, _, e, _⟩ := h
  rw [daa_len d, e]
theorem post_okTo {α : Type} {x : R α} {k : α → Prop} {n : Nat} {C : Ct K n} (h : x.okTo k) : Post C x k := by
  cases x with
  | ok a => exact h
  | err e => exact h.elim
  | bad => exact h.elim
theorem run_P {m : Nat} {N : List Str} {f : VS} {t : TS} {vs : List V} {Q : VK} {E : XK} (s : ∀ C : Ct K 0, SSt C t f) (h : spP K m (denP N.length f) vs H Q E) : t { nx := fun _ H' => Q .non H', rt := Q } (L2.start N vs) H := by
  obtain ⟨ds, B, d, bh, _, h⟩ := h
  have R := rep_start (N := N) (er := fun _ _ _ => True) d bh
  refine s _ _ H B _ _ R ?_
  unfold denP endP at h
  have h2 := post_okTo (C := ct0 (K := K) H B fun _ _ _ => True) h
  refine (post_bind.mp h2).mono fun fl q => ?_
  cases fl with
  | nx S => exact fun σ' H' B' R' e => q .non H' B' (fun a o z => R'.base.keep a o (by simp [ct0]) z) e R'.base.bh (fun a o z => R'.base.fr a o z) .non
  | rt d S => exact fun v σ' H' B' R' e dv => q v H' B' (fun a o z => R'.base.keep a o (by simp [ct0]) z) e R'.base.bh (fun a o z => R'.base.fr a o z) dv
  | bk S => exact q.elim
  | ct S => exact q.elim
/-- .. with a list that it may change -/
def endB (x : R FL) : R (PyData × List PyData) := x.bind fun fl => match fl with
  | .nx S => (ownD S 0).bind fun bs => .ok (.none, bs)
  | .rt d S => (ownD S 0).bind fun bs => .ok (d, bs)
  | _ => .bad
def denB (N : Nat) (f : VS) : List PyData → List PyData → R (PyData × List PyData) := fun bs ds => endB (f (some (.own bs) :: startS (N - 1) ds))
def endD (x : R FL) : R (PyData × List (Key × PyData)) := x.bind fun fl => match fl with
  | .nx S => (dicD S 0).bind fun bs => .ok (.none, bs)
  | .rt d S => (dicD S 0).bind fun bs => .ok (d, bs)
  | _ => .bad
def denD (N : Nat) (f : VS) : List (Key × PyData) → List PyData → R (PyData × List (Key × PyData)) := fun bs ds => endD (f (some (.dic bs) :: startS (N - 1) ds))
def ct1 (H B : Hp) (a : Addr) (er : Exc → V → Hp → Prop) : Ct K 1 := ⟨H, B, [a], rfl, er⟩
theorem rep_startB {x : Str} {N : List Str} {a : Addr} {us : List V} {ds : List PyData} {s : SV} {er : Exc → V → Hp → Prop} (m : s.mine = true) (r : SR (ct1 (K := K) H B a er) H B (.ref a) s) (d : DaAll K B us ds) (bh : Same B H) :
    Rep (ct1 (K := K) H B a er) (L2.start (x :: N) (.ref a :: us)) H B (some s :: startS N.length ds) := by
  have e0 : L2.start (x :: N) (.ref a :: us) = some (.ref a) :: L2.start N us := by
    unfold L2.start
    rw [List.map_cons, List.length_cons, List.length_cons, Nat.add_sub_add_right]
    rfl
  rw [e0]
  have mine : ∀ (i : Nat) u, (some s :: startS N.length ds)[i]? = some (some u) → u.mine = true → i = 0 := fun i u h mu => by
    cases i with
    | zero => rfl
    | succ i =>
      obtain ⟨d, _, rfl⟩ := startS_some (show (startS N.length ds)[i]? = some (some u) from h)
      cases mu
  refine ⟨⟨fun a o _ q => q, Same.refl _, bh, fun a o q => .inl q⟩, ?_, fun i u h => ?_, fun i j s u a h1 h2 m1 m2 e1 e2 => by rw [mine i s h1 m1, mine j u h2 m2], fun i u b h mu e => ?_, fun i b h => ?_⟩
  · unfold startS L2.start
    rw [List.length_cons, List.length_cons, List.length_append, List.length_append, List.length_map, List.length_map, List.length_replicate, List.length_replicate, daa_len d]
  · cases i with
    | zero =>
      cases (Option.some.inj (Option.some.inj (show some (some s) = some (some u) from h)))
      exact ⟨_, rfl, r⟩
    | succ i =>
      obtain ⟨d', h1, rfl⟩ := startS_some (show (startS N.length ds)[i]? = some (some u) from h)
      obtain ⟨v, h2, h3⟩ := daa_get d h1
      exact ⟨v, start_get h2, h3⟩
  · have z := mine i u h mu
    subst z
    have e' : some (some (V.ref a)) = some (some (V.ref b)) := e
    cases e'
    exact .inr rfl
  · cases i with
    | zero =>
      have h' : some a = some b := h
      cases h'
      exact ⟨rfl, s, rfl, m⟩
    | succ i => exact nomatch (show (none : Option Addr) = some b from h)
theorem len_B {m : Nat} {den : List PyData → List PyData → R (PyData × List PyData)} {vs : List V} {Q : VK} {E : XK} (h : spB K m den vs H Q E) : vs.length = m + 1 := by
  obtain ⟨a, us, ws, bs, ds, B, rfl, _, _, _, d, _, e, _⟩ := h
  rw [List.length_cons, daa_len d, e]
theorem run_B {m : Nat} {x : Str} {N : List Str} {f : VS} {t : TS} {vs : List V} {Q : VK} {E : XK} (s : ∀ C : Ct K 1, SSt C t f) (h : spB K m (denB (x :: N).length f) vs H Q E) : t { nx := fun _ H' => Q .non H', rt := Q } (L2.start (x :: N) vs) H := by
  obtain ⟨a, us, ws, bs, ds, B, rfl, hH, hB, dw, d, bh, _, h⟩ := h
  have R := rep_startB (x := x) (N := N) (er := fun _ _ _ => True) (s := .own bs) rfl ⟨a, ws, rfl, hH, hB, dw⟩ d bh
  refine s _ _ H B _ _ R ?_
  unfold denB endB at h
  have h2 := post_okTo (C := ct1 (K := K) H B a fun _ _ _ => True) h
  refine (post_bind.mp h2).mono fun fl q => ?_
  have fin : ∀ {S : SS} {z : PyData} {σ' : L2.St} {H' B' : Hp} {v : V}, Post (ct1 (K := K) H B a fun _ _ _ => True) (ownD S 0) (fun bs => ∀ v H' B' ws', (∀ b o, b ≠ a → H b = some o → H' b = some o) → Same B B' → Same B' H' → Frz H B B' → B' a = none → H' a = some (.lst ws') → DaAll K B' ws' bs → Da K B' v z → Q v H') →
      Rep (ct1 (K := K) H B a fun _ _ _ => True) σ' H' B' S → Same B B' → Da K B' v z → Q v H' := fun {S z σ' H' B' v} q R' e dv => by
    obtain ⟨bs', a', ws', q1, q2, q3, q4, q⟩ := own_of R' q
    obtain ⟨e0, _⟩ := R'.box 0 a rfl
    rw [q2] at e0
    cases e0
    obtain ⟨_, _, w1, w2, w3⟩ := R'.own_at q1 rfl
    rw [q2] at w1
    cases w1
    exact q v H' B' ws' (fun b o nb z => R'.base.keep b o (by simpa [ct1] using nb) z) e R'.base.bh (fun b o z => R'.base.fr b o z) w3 q3 q4 dv
  cases fl with
  | nx S => exact fun σ' H' B' R' e => fin (post_bind.mp q) R' e .non
  | rt d S => exact fun v σ' H' B' R' e dv => fin (post_bind.mp q) R' e dv
  | bk S => exact q.elim
  | ct S => exact q.elim
theorem len_D {m : Nat} {den : List (Key × PyData) → List PyData → R (PyData × List (Key × PyData))} {vs : List V} {Q : VK} {E : XK} (h : spD K m den vs H Q E) : vs.length = m + 1 := by
  obtain ⟨a, us, ws, bs, ds, B, rfl, _, _, _, d, _, e, _⟩ := h
  rw [List.length_cons, daa_len d, e]
theorem run_D {m : Nat} {x : Str} {N : List Str} {f : VS} {t : TS} {vs : List V} {Q : VK} {E : XK} (s : ∀ C : Ct K 1, SSt C t f) (h : spD K m (denD (x :: N).length f) vs H Q E) : t { nx := fun _ H' => Q .non H', rt := Q } (L2.start (x :: N) vs) H := by
  obtain ⟨a, us, ws, bs, ds, B, rfl, hH, hB, dw, d, bh, _, h⟩ := h
  have R := rep_startB (x := x) (N := N) (er := fun _ _ _ => True) (s := .dic bs) rfl ⟨a, ws, rfl, hH, hB, dw⟩ d bh
  refine s _ _ H B _ _ R ?_
  unfold denD endD at h
  have h2 := post_okTo (C := ct1 (K := K) H B a fun _ _ _ => True) h
  refine (post_bind.mp h2).mono fun fl q => ?_
  have fin : ∀ {S : SS} {z : PyData} {σ' : L2.St} {H' B' : Hp} {v : V}, Post (ct1 (K := K) H B a fun _ _ _ => True) (dicD S 0) (fun bs => ∀ v H' B' ws', (∀ b o, b ≠ a → H b = some o → H' b = some o) → Same B B' → Same B' H' → Frz H B B' → B' a = none → H' a = some (.dK ws') → DpKs K B' ws' bs → Da K B' v z → Q v H') →
      Rep (ct1 (K := K) H B a fun _ _ _ => True) σ' H' B' S → Same B B' → Da K B' v z → Q v H' := fun {S z σ' H' B' v} q R' e dv => by
    obtain ⟨bs', a', ws', q1, q2, q3, q4, q⟩ := dic_of R' q
    obtain ⟨e0, _⟩ := R'.box 0 a rfl
    rw [q2] at e0
    cases e0
    obtain ⟨_, _, w1, w2, w3⟩ := R'.own_at q1 rfl
    rw [q2] at w1
    cases w1
    exact q v H' B' ws' (fun b o nb z => R'.base.keep b o (by simpa [ct1] using nb) z) e R'.base.bh (fun b o z => R'.base.fr b o z) w3 q3 q4 dv
  cases fl with
  | nx S => exact fun σ' H' B' R' e => fin (post_bind.mp q) R' e .non
  | rt d S => exact fun v σ' H' B' R' e dv => fin (post_bind.mp q) R' e dv
  | bk S => exact q.elim
  | ct S => exact q.elim
/-- .. of the script -/
def denS (N : Nat) (f : VS) : List Int → R PyData := fun ns => endP (f (some (.scr ns) :: List.replicate (N - 1) none))
theorem len_S {den : List Int → R PyData} {vs : List V} {Q : VK} {E : XK} (h : spS K den vs H Q E) : vs.length = 1 := by
  obtain ⟨a, ns, B, rfl, _⟩ := h
  rfl
theorem run_S {x : Str} {N : List Str} {f : VS} {t : TS} {vs : List V} {Q : VK} {E : XK} (s : ∀ C : Ct K 0, SSt C t f) (h : spS K (denS (x :: N).length f) vs H Q E) : t { nx := fun _ H' => Q .non H', rt := Q } (L2.start (x :: N) vs) H := by
  obtain ⟨a, ns, B, rfl, sq, bh, h⟩ := h
  have at_ : ∀ (i : Nat) u, (some (SV.scr ns) :: List.replicate ((x :: N).length - 1) none)[i]? = some (some u) → i = 0 ∧ u = .scr ns := fun i u q => by
    cases i with
    | zero => exact ⟨rfl, (Option.some.inj (Option.some.inj (show some (some (SV.scr ns)) = some (some u) from q))).symm⟩
    | succ i =>
      have q' : (List.replicate ((x :: N).length - 1) (none : Option SV))[i]? = some (some u) := q
      rw [List.getElem?_replicate] at q'
      split at q' <;> cases q'
  have R : Rep (ct0 (K := K) H B fun _ _ _ => True) (L2.start (x :: N) [V.ref a]) H B (some (.scr ns) :: List.replicate ((x :: N).length - 1) none) := by
    refine ⟨⟨fun a o _ q => q, Same.refl _, bh, fun a o q => .inl q⟩, ?_, fun i s h => ?_, fun i j s u a h1 h2 m1 m2 e1 e2 => ?_, fun i s a h m e => ?_, fun i a h => nomatch (show (none : Option Addr) = some a from h)⟩
    · unfold L2.start
      simp
    · obtain ⟨rfl, rfl⟩ := at_ i s h
      exact ⟨_, start_get rfl, a, rfl, sq⟩
    · obtain ⟨rfl, rfl⟩ := at_ i s h1
      cases m1
    · obtain ⟨rfl, rfl⟩ := at_ i s h
      cases m
  refine s _ _ H B _ _ R ?_
  unfold denS endP at h
  have h2 := post_okTo (C := ct0 (K := K) H B fun _ _ _ => True) h
  refine (post_bind.mp h2).mono fun fl q => ?_
  cases fl with
  | nx S => exact fun σ' H' B' R' e => q .non H' B' (fun a o z => R'.base.keep a o (by simp [ct0]) z) e R'.base.bh (fun a o z => R'.base.fr a o z) .non
  | rt d S => exact fun v σ' H' B' R' e dv => q v H' B' (fun a o z => R'.base.keep a o (by simp [ct0]) z) e R'.base.bh (fun a o z => R'.base.fr a o z) dv
  | bk S => exact q.elim
  | ct S => exact q.elim
end
end Bo

namespace Bo
open PySem L2
section
variable {K : PySem.W.Frag} {n : Nat} {C : Ct K n} {σ : L2.St} {H B : Hp} {S : SS}
def cMulS (i j : Int) : Bool := decide ((-(2 ^ 64) < i ∧ i < 2 ^ 64) ∨ (-(2 ^ 64) < j ∧ j < 2 ^ 64))
theorem o_mulS : SR2 C (rI CMul fun i j => .int (i * j)) (gIC cMulS fun i j => i * j) := o_ic fun i j h => by
  unfold cMulS at h
  have h' := of_decide_eq_true h
  exact h'
def cPow (i j : Int) : Bool := decide (0 ≤ j ∧ j ≤ 1000000 ∧ i.natAbs < 2 ^ 64)
theorem o_pow : SR2 C (rI CPow fun i j => .int (i ^ j.toNat)) (gIC cPow fun i j => i ^ j.toNat) := o_ic fun i j h => by
  unfold cPow at h
  have h' := of_decide_eq_true h
  exact h'
/-! new lists by + and * -/
def vCatF (fa fb : VE) : VF := fun S => (fa S).bind fun p => (fb p.2).bind fun q => match p.1, q.1 with
  | .list ds, .list es => R.when (ds.length + es.length ≤ 100000) (.ok (ds ++ es, q.2))
  | _, _ => .bad
theorem f_cat {ta tb : TE} {fa fb : VE} (ha : SE C ta fa) (hb : SE C tb fb) : SEF C (tOp rCat ta tb) (vCatF fa fb) := by
  intro σ H B S Q R h
  replace h := post_bind.mp h
  refine ha σ H B S _ R (h.mono fun p h1 v H1 B1 R1 e1 d1 => ?_)
  replace h1 := post_bind.mp h1
  refine hb σ H1 B1 p.2 _ R1 (h1.mono fun q h2 w H2 B2 R2 e2 d2 => ?_)
  obtain ⟨d, S1⟩ := p
  obtain ⟨e, S2⟩ := q
  dsimp only at d1 d2 h2 R2
  cases d1 with
  | lst s a =>
    cases d2 with
    | lst s2 a2 =>
      obtain ⟨k, h2⟩ := post_when.mp h2
      refine ⟨_, _, _, _, rfl, rfl, R2.base.bh _ _ (e2 _ _ s), R2.base.bh _ _ s2, line_le (by rw [daa_len a, daa_len a2]; exact k), fun p hp => ?_⟩
      obtain ⟨R3, L⟩ := R2.newLoose (o := .lst _) hp
      exact h2 p _ _ B2 R3 (e1.trans e2) upd_same L (daa_app (daa_mono e2 a) a2)
    | _ => exact h2.elim
  | _ => exact h2.elim
def vRepF (fa fb : VE) : VF := fun S => (fa S).bind fun p => (fb p.2).bind fun q => match p.1, q.1 with
  | .list ds, .int k => R.when (ds.length * k.toNat ≤ 100000 ∧ k ≤ 100000 ∧ -100000 ≤ k) (.ok ((List.replicate k.toNat ds).flatten, q.2))
  | _, _ => .bad
theorem f_rep {ta tb : TE} {fa fb : VE} (ha : SE C ta fa) (hb : SE C tb fb) : SEF C (tOp rRep ta tb) (vRepF fa fb) := by
  intro σ H B S Q R h
  replace h := post_bind.mp h
  refine ha σ H B S _ R (h.mono fun p h1 v H1 B1 R1 e1 d1 => ?_)
  replace h1 := post_bind.mp h1
  refine hb σ H1 B1 p.2 _ R1 (h1.mono fun q h2 w H2 B2 R2 e2 d2 => ?_)
  obtain ⟨d, S1⟩ := p
  obtain ⟨e, S2⟩ := q
  dsimp only at d1 d2 h2 R2
  cases d1 with
  | lst s a =>
    cases d2 with
    | int i =>
      obtain ⟨⟨k, k2, k3⟩, h2⟩ := post_when.mp h2
      refine ⟨_, _, _, rfl, rfl, R2.base.bh _ _ (e2 _ _ s), by omega, by omega, line_le (by rw [daa_len a]; exact k), fun p hp => ?_⟩
      obtain ⟨R3, L⟩ := R2.newLoose (o := .lst _) hp
      exact h2 p _ _ B2 R3 (e1.trans e2) upd_same L (daa_mono e2 (daa_rep a i.toNat))
    | _ => exact h2.elim
  | _ => exact h2.elim
/-! texts -/
def gLenS : List PyData → R PyData
  | [.str x] => R.when (x.length ≤ 100000) (.ok (.int x.length))
  | _ => .bad
theorem c_lenS : SCR C (fun xs H Q => ∃ z, xs = [.str z] ∧ z.length ≤ sizeLine ∧ Q (.int z.length) H) gLenS := by
  intro σ H B S xs ds Q R d h
  cases d with
  | nil => exact h.elim
  | cons h1 t =>
    cases t with
    | cons h2 t => cases h1 <;> exact h.elim
    | nil =>
      cases h1 with
      | str x =>
        obtain ⟨k, h⟩ := post_when.mp h
        exact ⟨_, rfl, line_le k, h _ H B R (Same.refl _) (.int _)⟩
      | _ => exact h.elim
def gStrI : List PyData → R PyData
  | [.int i] => R.when (i.natAbs < 2 ^ 1900) (.ok (.str (toString i)))
  | _ => .bad
theorem c_strI : SCR C (fun xs H Q => ∃ i, xs = [.int i] ∧ i.natAbs.log2 < 1920 ∧ Q (.str (toString i)) H) gStrI := by
  intro σ H B S xs ds Q R d h
  cases d with
  | nil => exact h.elim
  | cons h1 t =>
    cases t with
    | cons h2 t => cases h1 <;> exact h.elim
    | nil =>
      cases h1 with
      | int i =>
        obtain ⟨k, h⟩ := post_when.mp h
        exact ⟨_, rfl, Nat.lt_trans (lg_lt k (by decide)) (by decide), h _ H B R (Same.refl _) (.str _)⟩
      | _ => exact h.elim
/-! equal data -/
open Classical in
noncomputable def denEq (m : Nat) : List PyData → R PyData
  | [a, b] => if a = b ∧ Dn m a then .ok (.bool true) else .bad
  | _ => .bad
theorem denEq_ok {m : Nat} {a b : PyData} (e : a = b) (h : Dn m a) : denEq m [a, b] = .ok (.bool true) := if_pos ⟨e, h⟩
end
end Bo

/-! ### enumerate and zip over lists and tuples in any mix: out of what next tells of any two sources -/
namespace Bo
open PySem L2
/-- a list, or a tuple -/
inductive Kd where
  | L | T
namespace Kd
def Sq (k : Kd) (K : PySem.W.Frag) (H : Hp) (a : Addr) (xs : List V) : Prop := match k with
  | .L => SqL K H a xs
  | .T => SqT K H a xs
def Is (k : Kd) (h : Heap) (a : Addr) (items : Array Value) : Prop := match k with
  | .L => h.IsList a items
  | .T => h.IsTuple a items
def At (k : Kd) (h : Heap) (it a : Addr) (i : Nat) : Prop := match k with
  | .L => h.IsListIter it a i
  | .T => h.IsTupleIter it a i
def ob (k : Kd) (a : Addr) : Obj := match k with
  | .L => { cls := .type "list_iterator", data := .fields #[.ref a, .int 0 0] }
  | .T => { cls := .type "tuple_iterator", data := .fields #[.ref a, .int 0 0] }
variable {k : Kd} {K : PySem.W.Frag} {a it : Addr} {h h' : Heap} {items : Array Value}
theorem begins : Begins (.ref a) (k.ob a) (fun h => k.Is h a items) := match k with
  | .L => begins_list a items
  | .T => begins_tuple a items
theorem start_ (e : h.get? it = some (k.ob a)) : k.At h it a 0 := match k with
  | .L => ⟨_, e, rfl, rfl⟩
  | .T => ⟨_, e, rfl, rfl⟩
theorem live {i : Nat} (st : k.At h it a i) : ∃ o, h.get? it = some o ∧ ∀ v, o.data ≠ .cell v := match k, st with
  | .L, ⟨o, e, _, d⟩ => ⟨o, e, fun v z => nomatch (d.symm.trans z)⟩
  | .T, ⟨o, e, _, d⟩ => ⟨o, e, fun v z => nomatch (d.symm.trans z)⟩
theorem stay {i : Nat} (st : k.At h it a i) (e : ∀ o, h.get? it = some o → h'.get? it = some o) : k.At h' it a i := match k, st with
  | .L, st => Heap.IsListIter.at st e
  | .T, st => Heap.IsTupleIter.at st e
theorem draws {P : Program} {w : World} {A : Around} (hh : A.handled = none) (ne : a ≠ it) : Draws P w A it [it, a] items.size (fun i v => items[i]? = some v) (fun i h => k.At h it a i ∧ k.Is h a items) := match k with
  | .L => Draws.list hh it a ne items
  | .T => Draws.tuple hh it a ne items
theorem told {X : Cx} {pins : List (Addr × Obj)} {σ : L2.St} {H : Hp} {s : Shared} {xs : List V} (I : Inv X pins σ H s) (q : k.Sq X.K H a xs) : ∃ its : List Value, Vals xs its ∧ k.Is s.heap a its.toArray := match k, q with
  | .L, q => let ⟨its, r, p, _⟩ := I.list q; ⟨its, r, p.isList⟩
  | .T, q => let ⟨its, r, p, _⟩ := I.tuple q; ⟨its, r, p⟩
theorem one {X : Cx} {pins : List (Addr × Obj)} {σ : L2.St} {H : Hp} {s : Shared} {xs ys : List V} (I : Inv X pins σ H s) (q : k.Sq X.K H a xs) (q2 : k.Sq X.K H a ys) : xs = ys := match k, q, q2 with
  | .L, q, q2 => I.list_inj q q2
  | .T, q, q2 => I.tuple_inj q q2
theorem below (p : k.Is h a items) : a < h.objs.size := match k, p with
  | .L, ⟨_, e, _⟩ => Heap.lt_size e
  | .T, ⟨_, e, _⟩ => Heap.lt_size e
end Kd
/-- a new pair at each turn: at turn i that of i and the i-th item of a, or of the i-th items of a and b -/
def ItP (go : Nat → Hp → Prop) (pr : Nat → Hp → V → V → Prop) (stop : Nat → Hp → Prop) : It :=
  ⟨go, fun i H v H' => ∃ q x y, v = .ref q ∧ H q = none ∧ H' = upd H q (.tup [x, y]) ∧ pr i H x y, stop⟩
/-- the step of such a walk, by what next tells -/
theorem pair_step {X : Cx} {pins : List (Addr × Obj)} {σ : L2.St} {H : Hp} {s : Shared} {wr : List Addr} {x y : V} {u v : Value} {q : Addr} {h' : Heap} {tk : Nat} (I : Inv X pins σ H s) (hw : ∀ b ∈ wr, FpOk X pins H b)
    (keep : ∀ b o, b ∉ wr → s.heap.get? b = some o → h'.get? b = some o) (hq : s.heap.objs.size ≤ q) (ht : h'.IsTuple q #[u, v]) (rx : RelV x u) (ry : RelV y v) : Inv X pins σ (upd H q (.tup [x, y])) { s with heap := h', toks := tk } :=
  I.turnedNew (ch := wr) keep hw hq ⟨(by show 2 ≤ sizeLine; decide), [u, v], .cons rx (.cons ry .nil), ht⟩
section
variable {P : Program} {w : World} {K : PySem.W.Frag} {elts : List Expr} {kk : Nat} {tpos : Pos}
def ItZ (K : PySem.W.Frag) (k l : Kd) (a b : Addr) : It :=
  ItP (fun i H => ∃ xs ys x y, k.Sq K H a xs ∧ l.Sq K H b ys ∧ xs[i]? = some x ∧ ys[i]? = some y) (fun i H x y => (∀ xs, k.Sq K H a xs → xs[i]? = some x) ∧ ∀ ys, l.Sq K H b ys → ys[i]? = some y)
    (fun i H => ∃ xs ys, k.Sq K H a xs ∧ l.Sq K H b ys ∧ i = min xs.length ys.length)
structure ZFp (z p q i j a b : Addr) : Prop where
  s : ZipSep2 z p q i j [i, a] [j, b]
  na : a ≠ i
  nb : b ≠ j
theorem turn_zipK {k l : Kd} {z p q i1 i2 a b : Addr} (F : ZFp z p q i1 i2 a b) :
    Turn P w K (.Tuple elts kk tpos) (ItZ K k l a b) [z, p, q, i1, i2] z (fun i h => IsZip h z p q .none ∧ IsTupOf2 h p (.ref i1) (.ref i2) ∧ (∃ a1 a2, IsTupOf2 h q a1 a2) ∧ k.At h i1 a i ∧ l.At h i2 b i) where
  mem := List.mem_cons_self
  obj := fun i h st c hc => by
    obtain ⟨hz, hp, ⟨_, _, hq⟩, h1, h2⟩ := st
    simp only [List.mem_cons, List.not_mem_nil, or_false] at hc
    rcases hc with rfl | rfl | rfl | rfl | rfl
    · exact ⟨_, hz, fun v z => nomatch z⟩
    · exact ⟨_, hp, fun v z => nomatch z⟩
    · exact ⟨_, hq, fun v z => nomatch z⟩
    · exact Kd.live h1
    · exact Kd.live h2
  keep := fun i h h' st e => by
    obtain ⟨hz, hp, ⟨a1, a2, hq⟩, h1, h2⟩ := st
    exact ⟨e z (by simp) _ hz, e p (by simp) _ hp, ⟨a1, a2, e q (by simp) _ hq⟩, Kd.stay h1 fun o => e i1 (by simp) o, Kd.stay h2 fun o => e i2 (by simp) o⟩
  item := by
    intro X hP hw hK hc i pins s σ H E I hf st hg
    subst hP hw hK
    obtain ⟨hz, hp, hq, h1, h2⟩ := st
    obtain ⟨xs, ys, x, y, sx, sy, ex, ey⟩ := hg
    obtain ⟨us, ru, pu⟩ := Kd.told I sx
    obtain ⟨vs, rv, pv⟩ := Kd.told I sy
    have lu := ru.length
    have lv := rv.length
    have l1 := (List.getElem?_eq_some_iff.mp ex).1
    have l2 := (List.getElem?_eq_some_iff.mp ey).1
    have hh : X.A.in1.handled = none := I.ok.hd hc
    have W := GoesN.zip2 (prog := X.prog) (w := X.w) (A := X.A) (elts := elts) (x1 := kk) (pos := tpos) F.s (k.draws (items := us.toArray) hh F.na) (l.draws (items := vs.toArray) hh F.nb)
    refine W.goes i s _ E (by rw [List.size_toArray, List.size_toArray]; omega) ⟨hz, hp, hq, ⟨h1, pu⟩, h2, pv⟩ fun v h' tk hY st' hk _ => ?_
    obtain ⟨t, u1, u2, rfl, ht, e1, e2, hT⟩ := hY
    obtain ⟨u, hu, r1⟩ := ru.get ex
    obtain ⟨v, hv, r2⟩ := rv.get ey
    have q1 : u1 = u := Option.some.inj (e1.symm.trans (by simpa using hu))
    have q2 : u2 = v := Option.some.inj (e2.symm.trans (by simpa using hv))
    subst q1 q2
    refine ⟨.ref t, _, pair_step I (wr := [z, q, i1, i2]) (fun b hb => hf b ?_) hk ht hT r1 r2, rfl, ⟨t, x, y, rfl, I.hok.fresh ht, rfl, fun xs' s' => by rw [Kd.one I s' sx]; exact ex, fun ys' s' => by rw [Kd.one I s' sy]; exact ey⟩,
      ⟨st'.1, st'.2.1, st'.2.2.1, st'.2.2.2.1.1, st'.2.2.2.2.1⟩, fun c hc' => ?_⟩
    · simp only [List.mem_cons, List.not_mem_nil, or_false] at hb ⊢
      rcases hb with e | e | e | e <;> simp [e]
    · have hlt : c < s.heap.objs.size := by
        obtain ⟨o, e⟩ : ∃ o, s.heap.get? c = some o := by
          simp only [List.mem_cons, List.not_mem_nil, or_false] at hc'
          obtain ⟨_, _, hq'⟩ := hq
          rcases hc' with rfl | rfl | rfl | rfl | rfl
          · exact ⟨_, hz⟩
          · exact ⟨_, hp⟩
          · exact ⟨_, hq'⟩
          · exact ⟨_, (Kd.live h1).choose_spec.1⟩
          · exact ⟨_, (Kd.live h2).choose_spec.1⟩
        exact Heap.lt_size e
      rw [upd_ne (Nat.ne_of_lt (Nat.lt_of_lt_of_le hlt ht))]
      exact (hf c hc').1
  done := by
    intro X hP hw hK hc i pins s σ H E I hf st hg
    subst hP hw hK
    obtain ⟨hz, hp, hq, h1, h2⟩ := st
    obtain ⟨xs, ys, sx, sy, e⟩ := hg
    obtain ⟨us, ru, pu⟩ := Kd.told I sx
    obtain ⟨vs, rv, pv⟩ := Kd.told I sy
    have hh : X.A.in1.handled = none := I.ok.hd hc
    have W := GoesN.zip2 (prog := X.prog) (w := X.w) (A := X.A) (elts := elts) (x1 := kk) (pos := tpos) F.s (k.draws (items := us.toArray) hh F.na) (l.draws (items := vs.toArray) hh F.nb)
    have ei : min us.toArray.size vs.toArray.size = i := by rw [List.size_toArray, List.size_toArray, ← ru.length, ← rv.length, e]
    refine W.stops s _ E (by rw [ei]; exact ⟨hz, hp, hq, ⟨h1, pu⟩, h2, pv⟩) fun h' tk hk _ => ?_
    refine I.turnedL (t' := tk) (ch := [z, q, i1, i2]) hk fun b hb => hf b ?_
    simp only [List.mem_cons, List.not_mem_nil, or_false] at hb ⊢
    rcases hb with e | e | e | e <;> simp [e]
  self := fun A i s Q E st h => wpAny_pyIter_zip st.1 h
def ItN (K : PySem.W.Frag) (k : Kd) (a : Addr) : It :=
  ItP (fun i H => ∃ xs x, k.Sq K H a xs ∧ xs[i]? = some x) (fun i H x y => x = .int (i : Nat) ∧ ∀ xs, k.Sq K H a xs → xs[i]? = some y) (fun i H => ∃ xs, k.Sq K H a xs ∧ i = xs.length)
theorem turn_enumK {k : Kd} {e it a : Addr} (ne : e ≠ it) (na : a ≠ it) (nea : a ≠ e) : Turn P w K (.Tuple elts kk tpos) (ItN K k a) [e, it] e (fun i h => (∃ old, IsEnum h e it (0 + (i : Int)) old) ∧ k.At h it a i) where
  mem := List.mem_cons_self
  obj := fun i h st c hc => by
    obtain ⟨⟨_, he⟩, h1⟩ := st
    simp only [List.mem_cons, List.not_mem_nil, or_false] at hc
    rcases hc with rfl | rfl
    · exact ⟨_, he, fun v z => nomatch z⟩
    · exact Kd.live h1
  keep := fun i h h' st k' => by
    obtain ⟨⟨old, he⟩, h1⟩ := st
    exact ⟨⟨old, k' e (by simp) _ he⟩, Kd.stay h1 fun o => k' it (by simp) o⟩
  item := by
    intro X hP hw hK hc i pins s σ H E I hf st hg
    subst hP hw hK
    obtain ⟨he, h1⟩ := st
    obtain ⟨xs, x, sx, ex⟩ := hg
    obtain ⟨us, ru, pu⟩ := Kd.told I sx
    have lu := ru.length
    have l1 := (List.getElem?_eq_some_iff.mp ex).1
    have W := GoesN.enumFrom (prog := X.prog) (w := X.w) (A := X.A) (elts := elts) (x1 := kk) (pos := tpos) 0 (k.draws (items := us.toArray) (show X.A.in1.handled = none from I.ok.hd hc) na) e ne (by simp [ne, Ne.symm nea]) (by simp)
    refine W.goes i s _ E (by rw [List.size_toArray]; omega) ⟨he, h1, pu⟩ fun v h' tk hY st' hk _ => ?_
    obtain ⟨t, tt, u1, rfl, ht, e1, hT⟩ := hY
    obtain ⟨u, hu, r1⟩ := ru.get ex
    have q1 : u1 = u := Option.some.inj (e1.symm.trans (by simpa using hu))
    subst q1
    have z0 : (0 : Int) + (i : Int) = (i : Nat) := Int.zero_add _
    rw [z0] at hT
    refine ⟨.ref t, _, pair_step I (wr := [e, it]) hf hk ht hT (x := .int (i : Nat)) ⟨tt, rfl⟩ r1, rfl, ⟨t, _, x, rfl, I.hok.fresh ht, rfl, rfl, fun xs' s' => by rw [Kd.one I s' sx]; exact ex⟩, ⟨st'.1, st'.2.1⟩, fun c hc' => ?_⟩
    have hlt : c < s.heap.objs.size := by
      obtain ⟨o, e⟩ : ∃ o, s.heap.get? c = some o := by
        simp only [List.mem_cons, List.not_mem_nil, or_false] at hc'
        obtain ⟨_, he'⟩ := he
        rcases hc' with rfl | rfl
        · exact ⟨_, he'⟩
        · exact ⟨_, (Kd.live h1).choose_spec.1⟩
      exact Heap.lt_size e
    rw [upd_ne (Nat.ne_of_lt (Nat.lt_of_lt_of_le hlt ht))]
    exact (hf c hc').1
  done := by
    intro X hP hw hK hc i pins s σ H E I hf st hg
    subst hP hw hK
    obtain ⟨he, h1⟩ := st
    obtain ⟨xs, sx, ei⟩ := hg
    obtain ⟨us, ru, pu⟩ := Kd.told I sx
    have W := GoesN.enumFrom (prog := X.prog) (w := X.w) (A := X.A) (elts := elts) (x1 := kk) (pos := tpos) 0 (k.draws (items := us.toArray) (show X.A.in1.handled = none from I.ok.hd hc) na) e ne (by simp [ne, Ne.symm nea]) (by simp)
    have ei' : us.toArray.size = i := by rw [List.size_toArray, ← ru.length, ei]
    exact W.stops s _ E (by rw [ei']; exact ⟨he, h1, pu⟩) fun h' tk hk _ => I.turnedL (t' := tk) (ch := [e, it]) hk hf
  self := fun A i s Q E st h => by
    obtain ⟨⟨_, he⟩, _⟩ := st
    exact wpAny_pyIter_enum he h
end
/-! the calls -/
section
variable {X : Cx} {e e2 : Expr} {ta : TA} {p pos tpos : Pos} {elts : List Expr} {kk : Nat}
def iZipK (k l : Kd) (K : PySem.W.Frag) (ta : TA) : TI := fun σ H R => ta σ H fun vs H1 => ∃ a b xs ys, vs = [.ref a, .ref b] ∧ k.Sq K H1 a xs ∧ l.Sq K H1 b ys ∧ R (ItZ K k l a b) H1
open PySem.Spec PyProof.Rows in
theorem pi_zipK (k l : Kd) (hg : Gl X "zip") (hm : X.mg "zip" = none) (ha : PA X [e, e2] ta) (hs : starEach [e, e2] X.env = (false, eval e X.env) :: starEach [e2] X.env := by rfl) (hpl : (backTo pos (starEach [e2] X.env)).any (·.1) = false := by rfl) :
    PI X (.Tuple elts kk tpos) (.Call (.Name "zip" p) [e, e2] [] pos) (iZipK k l X.K ta) := by
  constructor
  intro pins s σ H R I h
  refine Call_ (ld_blt I hg hm boot_zip (callWith_type1 ?_ hs hpl))
  refine thn (ha.run pos pins s σ H _ I h) ?_
  rintro us s1 ⟨vs, H1, I1, rv, a, b, xs, ys, rfl, qa, qb, q⟩
  cases rv with
  | cons ra rest =>
    cases rest with
    | cons rb rest =>
      cases rest
      cases ra
      cases rb
      obtain ⟨ua, _, pa⟩ := Kd.told I1 qa
      obtain ⟨ub, _, pb⟩ := Kd.told I1 qb
      refine zip_begins2 (k.begins (items := ua.toArray)) (l.begins (items := ub.toArray)) pa pb fun h' hz hp hq h1 h2 hsz hk => wpAny_pyIter_zip hz ?_
      have la := Kd.below pa
      have lb := Kd.below pb
      have ge : ∀ c ∈ [s1.heap.objs.size + 4, s1.heap.objs.size + 2, s1.heap.objs.size + 3, s1.heap.objs.size, s1.heap.objs.size + 1], s1.heap.objs.size ≤ c := fun c hc => by
        simp only [List.mem_cons, List.not_mem_nil, or_false] at hc
        omega
      exact ⟨s1.heap.objs.size + 4, _, _, _, H1, rfl, I1.kept (t' := s1.toks) hk, turn_zipK ⟨zip_sep2 (N := s1.heap.objs.size) (fp1 := [a]) (fp2 := [b]) (by simpa using la) (by simpa using lb), Nat.ne_of_lt la, Nat.ne_of_lt (Nat.lt_succ_of_lt lb)⟩, ⟨hz, hp, ⟨_, _, hq⟩, Kd.start_ h1, Kd.start_ h2⟩,
        fun c hc => I1.fpOk (ge c hc) (I1.hok.fresh (ge c hc)), q⟩
/-- the enumeration is made -/
theorem enum_meets {v : Value} {o : Obj} {Z : Heap → Prop} (B : Begins v o Z) :
    Meets (Builtin.«enumerate.__new__» ⟨[.type "enumerate", v], []⟩) (fun _ R s => Z s.heap ∧ R (.ok (.ret (.ref (s.heap.push o).objs.size))) { s with heap := (s.heap.push o).push { cls := .type "enumerate", data := .fields #[.none, .bool false, .ref s.heap.objs.size, rawInt 0, .none, .none] } }) := by
  refine Meets.of_wp fun P w A R s hs => ?_
  obtain ⟨hz, hR⟩ := hs
  have known := sub_enumerate
  have first_ : ∀ {A' : Around} {E : Value → Shared → Prop} {Q : Value → Shared → Prop}, Q (.ref s.heap.objs.size) { s with heap := s.heap.push o } → wpAny (model P w) A' (pyIter v) Q E s := fun z => B.iter P w _ _ s _ hz z
  cases s with
  | mk hp g d tk os =>
    wp_walk using first_
    refine wpAny_stack_any fun st => wpAny_pure ?_
    split <;> first
      | (rename_i c _ _ _ _ _
         cases hc : (c == Value.type "enumerate") <;> (wp_walk using first_; exact ⟨_, rfl, hR⟩))
      | (wp_walk using first_; exact ⟨_, rfl, hR⟩)
def iEnumK (k : Kd) (K : PySem.W.Frag) (ta : TA) : TI := fun σ H R => ta σ H fun vs H1 => ∃ a xs, vs = [.ref a] ∧ k.Sq K H1 a xs ∧ R (ItN K k a) H1
open PySem.Spec PyProof.Rows in
theorem pi_enumK (k : Kd) (hg : Gl X "enumerate") (hm : X.mg "enumerate" = none) (ha : PA X [e] ta) (hs : starEach [e] X.env = [(false, eval e X.env)] := by rfl) : PI X (.Tuple elts kk tpos) (.Call (.Name "enumerate" p) [e] [] pos) (iEnumK k X.K ta) := by
  constructor
  intro pins s σ H R I h
  refine Call_ (ld_blt I hg hm boot_enumerate (callWith_type1 ?_ hs rfl))
  refine thn (ha.run pos pins s σ H _ I h) ?_
  rintro us s1 ⟨vs, H1, I1, rv, a, xs, rfl, qa, q⟩
  cases rv with
  | cons ra rest =>
    cases rest
    cases ra
    obtain ⟨ua, _, pa⟩ := Kd.told I1 qa
    have B := k.begins (a := a) (items := ua.toArray)
    have la := Kd.below pa
    refine callType_new F.called_enumerate (by decide) (F.typeCall_enumerate_1 _) (F.newCall_enumerate_1 _) (fun obj => F.args_object_init_2 obj _) F.entry_enumerate_new (enum_meets B) ⟨pa, ?_⟩
    have sz : (s1.heap.push (k.ob a)).objs.size = s1.heap.objs.size + 1 := Heap.size_push ..
    have e0 := Heap.get?_push_size (s1.heap.push (k.ob a)) (o := { cls := .type "enumerate", data := .fields #[.none, .bool false, .ref s1.heap.objs.size, rawInt 0, .none, .none] }) rfl
    rw [sz] at e0
    have old : ∀ c o, s1.heap.get? c = some o → ((s1.heap.push (k.ob a)).push { cls := .type "enumerate", data := .fields #[.none, .bool false, .ref s1.heap.objs.size, rawInt 0, .none, .none] }).get? c = some o := fun c o z => Heap.get?_push_of_some _ (Heap.get?_push_of_some _ z)
    have e1 := Heap.get?_push_of_some { cls := .type "enumerate", data := .fields #[.none, .bool false, .ref s1.heap.objs.size, rawInt 0, .none, .none] } (Heap.get?_push_size s1.heap (o := k.ob a) B.free)
    have en : IsEnum ((s1.heap.push (k.ob a)).push { cls := .type "enumerate", data := .fields #[.none, .bool false, .ref s1.heap.objs.size, rawInt 0, .none, .none] }) (s1.heap.objs.size + 1) s1.heap.objs.size (0 + ((0 : Nat) : Int)) .none := e0
    have ge : ∀ c ∈ [s1.heap.objs.size + 1, s1.heap.objs.size], s1.heap.objs.size ≤ c := fun c hc => by
      simp only [List.mem_cons, List.not_mem_nil, or_false] at hc
      omega
    rw [sz]
    exact ⟨⟨_, en, rfl⟩, wpAny_pyIter_enum en ⟨s1.heap.objs.size + 1, _, _, _, H1, rfl, I1.kept (t' := s1.toks) old, turn_enumK (Nat.succ_ne_self _) (Nat.ne_of_lt la) (Nat.ne_of_lt (Nat.lt_succ_of_lt la)), ⟨⟨_, en⟩, Kd.start_ e1⟩,
      fun c hc => I1.fpOk (ge c hc) (I1.hok.fresh (ge c hc)), q⟩⟩
end
end Bo

/-! ### sorted(d.items()): the pairs are made, then the list of them is sorted -/
namespace Bo
open PySem L2 L2.DX
section
variable {X : Cx}
/-- one level of code further in -/
abbrev inner (X : Cx) : Cx := { X with A := X.A.in1 }
theorem inner_inv {pins : List (Addr × Obj)} {σ : L2.St} {H : Hp} {s : Shared} (I : Inv X pins σ H s) : Inv (inner X) pins σ H s := by
  obtain ⟨o, a, b, c, d, e, f, g, h, i, j⟩ := I
  exact ⟨⟨o.mod, o.kind, o.glob, o.blt, o.above, o.inj, o.has, o.cab, o.hd, o.frames, o.stk, o.exf, o.bs, o.bsz, o.noex, o.exfs, o.funs, o.frf⟩, a, b, c, d, e, f, g, h, i, j⟩
theorem outer_inv {pins : List (Addr × Obj)} {σ : L2.St} {H : Hp} {s : Shared} (I : Inv (inner X) pins σ H s) : Inv X pins σ H s := by
  obtain ⟨o, a, b, c, d, e, f, g, h, i, j⟩ := I
  exact ⟨⟨o.mod, o.kind, o.glob, o.blt, o.above, o.inj, o.has, o.cab, o.hd, o.frames, o.stk, o.exf, o.bs, o.bsz, o.noex, o.exfs, o.funs, o.frf⟩, a, b, c, d, e, f, g, h, i, j⟩
/-- d.items() -/
def rItemsK : V → List V → Hp → VK → Prop := fun x xs H Q => ∃ (d : Addr) (kvs : List (Key × V)), (x = .ref d ∧ xs = []) ∧ H d = some (.dK kvs) ∧ ∀ p, H p = none → Q (.ref p) (upd H p (itemsO p d))
theorem mt_itemsK : MtR X "dict.items" rItemsK := by
  rintro pins s σ H x xs v us Q I rx rxs ⟨d, kvs, ⟨rfl, rfl⟩, hd, q⟩
  cases rxs
  cases rx
  obtain ⟨_, nm, _, _, o, es, ep, e1, e2, e3, _⟩ := dk_of I.hok hd
  exact DT.callItems nm (ep := ep) (es := es) ⟨o, e1, e2, e3⟩ ⟨.ref s.heap.objs.size, _, I.laid (t' := s.toks) (fun _ _ z => Heap.get?_push_of_some _ z) (Nat.le_refl _) (itemsO_ok (Heap.get?_push_size _ rfl)), rfl, q _ (I.hok.fresh (Nat.le_refl _))⟩
abbrev prV (e : Int × Int) : HO := .tup [.int e.1, .int e.2]
def pairAt (H : Hp) (v : V) : Int × Int := match v with
  | .ref a => match H a with
    | some (.tup [.int i, .int j]) => (i, j)
    | _ => (0, 0)
  | _ => (0, 0)
theorem pairAt_eq {H : Hp} {a : Addr} {e : Int × Int} (h : H a = some (prV e)) : pairAt H (.ref a) = e := by
  unfold pairAt
  simp only [h]
/-- sorted(d.items()), d a dict of ints by ints: new pairs, in order -/
def rSortK : List V → Hp → VK → Prop := fun vs H Q => ∃ (p d : Addr) (ks : List (Int × Int)), vs = [.ref p] ∧ H p = some (itemsO p d) ∧ H d = some (.dK (ks.map fun e => (.inl e.1, .int e.2))) ∧ ks.length ≤ 1000 ∧
  ∀ (H' : Hp) (l : Addr) (zs : List V), Same H H' → H l = none → H' l = some (.lst zs) → (∀ z ∈ zs, ∃ a, z = .ref a ∧ H a = none ∧ a ≠ l ∧ H' a = some (prV (pairAt H' z))) → (zs.map (pairAt H')).Perm ks → (zs.map (pairAt H')).Pairwise (fun x y => SrtO.lexB y x = false) → Q (.ref l) H'
theorem paired_at {α β : Type} {F : α → β → Prop} : ∀ {l : List α} {m : List β} {i : Nat} {b : β}, Paired F l m → m[i]? = some b → ∃ a, l[i]? = some a ∧ F a b
  | _, _, _, _, .nil, e => nomatch (show (none : Option _) = some _ from e)
  | _, _, 0, _, .cons h _, e => ⟨_, rfl, Option.some.inj e ▸ h⟩
  | _, _, i + 1, b, .cons _ t, e => paired_at (i := i) (b := b) t e
theorem entries_at {P : Program} {w : World} : ∀ {es : List DictEntry} {vs : List (Key × Value)} {i : Nat} {e : DictEntry}, Pairs (mixKind P w) es vs → es[i]? = some e → ∃ kv, vs[i]? = some kv ∧ keyIs kv.1 e.key = true ∧ e.val = kv.2
  | _, _, _, _, .nil, z => nomatch (show (none : Option DictEntry) = some _ from z)
  | _, _, 0, _, .cons a b _, z => ⟨_, rfl, by cases z; exact ⟨a, b⟩⟩
  | _, _, i + 1, e, .cons _ _ t, z => entries_at (i := i) (e := e) t z
theorem cr_sortK (hc : X.calm = true) : CallR X (.builtin "sorted") rSortK := by
  rintro pins s σ H xs us Q I r ⟨p, d, ks, rfl, hp, hd, hk, q⟩
  rw [Vals.ref1 r]
  obtain ⟨hit, _⟩ := (show ObjOk X.prog X.w H s.heap p (itemsO p d) from I.hok p _ hp)
  obtain ⟨_, nm, vs, rel, o, es, ep, g1, g2, g3, _, hps, _⟩ := dk_of I.hok hd
  have n1 := Paired.length rel
  have n2 := hps.length
  rw [List.length_map] at n1
  rw [Array.length_toList] at n2
  have line : sizeLine = 16777216 := sizeLine_eq
  refine DT.sortedI (I.ok.hd hc) hit ⟨o, g1, g2, g3⟩ (by omega) fun h' tk as keep lt la made => ?_
  have nd : as.Nodup := made.rise.imp fun z => Nat.ne_of_lt z
  -- what is made: the pairs of ks, one after another
  have mk : ∀ (j : Nat) a, as[j]? = some a → ∃ e, ks[j]? = some e ∧ ∀ H2 : Hp, ObjOk X.prog X.w H2 (h'.push { cls := .type "list", data := .seq (as.map Value.ref).toArray }) a (prV e) := fun j a hj => by
    obtain ⟨en, ej, ga⟩ := made.pairs j a hj
    obtain ⟨kv, v1, v2, v3⟩ := entries_at hps (by rw [Array.getElem?_toList]; exact ej)
    obtain ⟨w0, w1, w2, w3⟩ := paired_at rel v1
    rw [List.getElem?_map] at w1
    obtain ⟨e, x1, rfl⟩ := Option.map_eq_some_iff.mp w1
    rw [← (show (Sum.inl e.1 : Key) = kv.1 from w2)] at v2
    obtain ⟨t, y1⟩ := Value.isInt_shape (k := e.1) (v := en.key) v2
    obtain ⟨u, y2⟩ := (show ∃ u, kv.2 = Value.int e.2 u from w3)
    refine ⟨e, x1, fun H2 => ⟨(by show 2 ≤ sizeLine; decide), [.int e.1 t, .int e.2 u], .cons ⟨t, rfl⟩ (.cons ⟨u, rfl⟩ .nil), _, Heap.get?_push_of_some _ ga, rfl, 0, ?_⟩⟩
    rw [y1, v3, y2]
  have vr : ∀ l : List Addr, Vals (l.map V.ref) (l.map Value.ref) := fun l => by
    induction l with
    | nil => exact .nil
    | cons a l ih => exact .cons rfl ih
  have hL : H h'.objs.size = none := I.hok.fresh (Nat.le_of_lt lt)
  have I1 : Inv X pins σ (upd H h'.objs.size (.lst (as.map V.ref))) { s with heap := h'.push { cls := .type "list", data := .seq (as.map Value.ref).toArray }, toks := tk } :=
    I.laid (fun b u z => Heap.get?_push_of_some _ (keep b u z)) (Nat.le_of_lt lt) ⟨by rw [List.length_map]; omega, as.map Value.ref, 0, vr as, Heap.get?_push_size _ rfl⟩
  have up : ∀ a ∈ as, s.heap.objs.size ≤ a ∧ a ≠ h'.objs.size := fun a ha => by
    obtain ⟨j, hj⟩ := List.getElem?_of_mem ha
    obtain ⟨en, _, ga⟩ := made.pairs j a hj
    exact ⟨Nat.le_of_lt (made.above a ha), Nat.ne_of_lt (Heap.lt_size ga)⟩
  obtain ⟨H2, I2, gr, got⟩ := takeT (P := fun a ws => ∃ (j : Nat) (e : Int × Int), as[j]? = some a ∧ ks[j]? = some e ∧ ws = [.int e.1, .int e.2]) I as _ I1 nd fun a ha => by
    obtain ⟨j, hj⟩ := List.getElem?_of_mem ha
    obtain ⟨e, he, ok⟩ := mk j a hj
    refine ⟨(up a ha).1, ?_, _, ⟨j, e, hj, he, rfl⟩, ok⟩
    rw [upd_ne (up a ha).2]
    exact I.hok.fresh (up a ha).1
  have H2L : H2 h'.objs.size = some (.lst (as.map V.ref)) := gr _ _ upd_same
  have key : ∀ (j : Nat) a, as[j]? = some a → ks[j]? = some (pairAt H2 (.ref a)) ∧ H2 a = some (prV (pairAt H2 (.ref a))) := fun j a hj => by
    obtain ⟨ws, ⟨i, e, e1, e2, rfl⟩, h2⟩ := got a (List.mem_of_getElem? hj)
    obtain ⟨p1, p2⟩ := List.getElem?_eq_some_iff.mp hj
    obtain ⟨q1, q2⟩ := List.getElem?_eq_some_iff.mp e1
    have ij : i = j := (List.getElem_inj nd).mp (q2.trans p2.symm)
    subst ij
    rw [pairAt_eq (e := e) h2]
    exact ⟨e2, h2⟩
  have all : (as.map V.ref).map (pairAt H2) = ks := by
    refine List.ext_getElem? fun j => ?_
    rw [List.map_map, List.getElem?_map]
    rcases Nat.lt_or_ge j as.length with hj | hj
    · rw [List.getElem?_eq_getElem hj]
      exact (key j _ (List.getElem?_eq_getElem hj)).1.symm
    · rw [List.getElem?_eq_none hj, List.getElem?_eq_none (by omega)]
      rfl
  have nL : ∀ a ∈ as, a ≠ h'.objs.size := fun a ha => (up a ha).2
  refine thn (mt_sortPO (X := inner X) pins _ σ H2 (.ref h'.objs.size) [] _ [] (fun _ H3 => Q (.ref h'.objs.size) H3) (inner_inv I2) rfl .nil ⟨_, _, pairAt H2, rfl, rfl, H2L, fun y hy => ?_, fun zs so st => ?_⟩) fun v s3 ⟨x, H3, I3, _, q3⟩ => ⟨.ref h'.objs.size, H3, outer_inv I3, rfl, q3⟩
  · obtain ⟨a, ha, rfl⟩ := List.mem_map.mp hy
    obtain ⟨j, hj⟩ := List.getElem?_of_mem ha
    exact ⟨a, rfl, (key j a hj).2⟩
  · have sub : ∀ z ∈ zs, ∃ a ∈ as, z = .ref a := fun z hz => by
      obtain ⟨a, ha, rfl⟩ := List.mem_map.mp (st.perm.mem_iff.mp hz)
      exact ⟨a, ha, rfl⟩
    have eq3 : ∀ z ∈ zs, pairAt (upd H2 h'.objs.size (.lst zs)) z = pairAt H2 z ∧ ∃ a, z = .ref a ∧ H a = none ∧ a ≠ h'.objs.size ∧ (upd H2 h'.objs.size (.lst zs)) a = some (prV (pairAt H2 z)) := fun z hz => by
      obtain ⟨a, ha, rfl⟩ := sub z hz
      obtain ⟨j, hj⟩ := List.getElem?_of_mem ha
      have h2 := (key j a hj).2
      have h3 : (upd H2 h'.objs.size (.lst zs)) a = some (prV (pairAt H2 (.ref a))) := by
        rw [upd_ne (nL a ha)]
        exact h2
      exact ⟨pairAt_eq h3, a, rfl, I.hok.fresh (up a ha).1, nL a ha, h3⟩
    have em : zs.map (pairAt (upd H2 h'.objs.size (.lst zs))) = zs.map (pairAt H2) := List.map_congr_left fun z hz => (eq3 z hz).1
    refine q _ h'.objs.size zs (fun b u z => ?_) hL upd_same (fun z hz => ?_) ?_ ?_
    · have nb : b ≠ h'.objs.size := ne_of_none z hL
      rw [upd_ne nb]
      exact gr b u (by rw [upd_ne nb]; exact z)
    · obtain ⟨e1, a, e2, e3, e4, e5⟩ := eq3 z hz
      exact ⟨a, e2, e3, e4, by rw [e1]; exact e5⟩
    · rw [em, ← all]
      exact st.perm.map _
    · rw [em]
      exact List.pairwise_map.mpr so
end
section
variable {K : PySem.W.Frag} {n : Nat} {C : Ct K n} {σ : L2.St} {H B : Hp} {S : SS}
/-- all that is new but the list at l stays -/
theorem Rep.fresh {H' : Hp} {l : Addr} {zs : List V} (R : Rep C σ H B S) (sH : Same H H') (hl : H l = none) (hl' : H' l = some (.lst zs)) : ∃ B', Rep C σ H' B' S ∧ Same B B' ∧ Loose C σ S B' l ∧ ∀ a, H a = none → a ≠ l → B' a = H' a := by
  classical
  obtain ⟨h0, hb, _⟩ := R.new hl
  let B' : Hp := fun a => if H a = none ∧ a ≠ l then H' a else B a
  have bB : ∀ a o, H a = some o → B' a = B a := fun a o z => if_neg fun q => by
    rw [q.1] at z
    cases z
  have bN : ∀ a, H a = none → a ≠ l → B' a = H' a := fun a z n => if_pos ⟨z, n⟩
  have bL : B' l = none := (if_neg fun q => q.2 rfl).trans hb
  have sB : Same B B' := fun a o z => (bB a o (R.base.bh a o z)).trans z
  have bh : Same B' H' := fun a o z => by
    cases q : H a with
    | some u =>
      rw [bB a u q] at z
      exact sH a o (R.base.bh a o z)
    | none =>
      by_cases e : a = l
      · subst e
        exact nomatch (z.symm.trans bL)
      · rw [← bN a q e]
        exact z
  refine ⟨B', R.after sH sB bh (fun a o z => ?_), sB, ⟨bL, h0, fun j u q m e => ?_⟩, bN⟩
  · cases q : H a with
    | some u =>
      rw [bB a u q] at z
      exact .inl z
    | none => exact .inr rfl
  · obtain ⟨a, o, e1, e2, _⟩ := R.own_at q m
    rw [e] at e1
    cases e1
    exact nomatch (e2.symm.trans hl)
def intKs : List (Key × PyData) → Option (List (Int × Int))
  | [] => some []
  | (.inl i, .int j) :: ks => (intKs ks).map ((i, j) :: ·)
  | _ :: _ => none
theorem intKs_v : ∀ {ws : List (Key × V)} {ks : List (Key × PyData)} {ps : List (Int × Int)}, DpKs K B ws ks → intKs ks = some ps → ws = ps.map fun e => (.inl e.1, .int e.2)
  | _, _, _, .nil, h => by cases h; rfl
  | _, (k, d) :: ks, _, .cons (a := a) h t, q => by
    obtain ⟨a1, a2⟩ := a
    obtain ⟨h1, h2⟩ := h
    dsimp only at h1 h2
    subst h1
    cases a1 with
    | inr x => cases h2 <;> cases q
    | inl i =>
      cases h2 <;> first | (cases q; done) | skip
      unfold intKs at q
      obtain ⟨qs, q1, rfl⟩ := Option.map_eq_some_iff.mp q
      rw [intKs_v t q1]
      rfl
abbrev prD (e : Int × Int) : PyData := .tuple [.int e.1, .int e.2]
def leP (x y : Int × Int) : Bool := decide (x.1 ≤ y.1)
def sortP (ps : List (Int × Int)) : List (Int × Int) := ps.mergeSort leP
theorem sort_uniq : ∀ {l m : List (Int × Int)}, l.Perm m → l.Pairwise (fun x y => x.1 < y.1) → m.Pairwise (fun x y => x.1 < y.1) → l = m
  | [], m, h, _, _ => (List.nil_perm.mp h).symm
  | x :: l, [], h, _, _ => nomatch (List.perm_nil.mp h)
  | x :: l, y :: m, h, h1, h2 => by
    obtain ⟨a1, a2⟩ := List.pairwise_cons.mp h1
    obtain ⟨b1, b2⟩ := List.pairwise_cons.mp h2
    have e : x = y := by
      rcases List.mem_cons.mp (h.mem_iff.mp List.mem_cons_self) with q | q
      · exact q
      · rcases List.mem_cons.mp (h.mem_iff.mpr (List.mem_cons_self (a := y))) with q2 | q2
        · exact q2.symm
        · have := b1 x q
          have := a1 y q2
          omega
    subst e
    rw [sort_uniq h.cons_inv a2 b2]
theorem sortP_perm (ps : List (Int × Int)) : (sortP ps).Perm ps := List.mergeSort_perm ps leP
theorem rise_of {l : List (Int × Int)} (nd : (l.map (·.1)).Nodup) (h : l.Pairwise fun x y => x.1 ≤ y.1) : l.Pairwise fun x y => x.1 < y.1 := by
  have nd' : l.Pairwise fun x y => x.1 ≠ y.1 := List.pairwise_map.mp nd
  exact (h.and nd').imp fun z => by omega
theorem sortP_rise {ps : List (Int × Int)} (nd : (ps.map (·.1)).Nodup) : (sortP ps).Pairwise fun x y => x.1 < y.1 := by
  refine rise_of (((sortP_perm ps).map _).nodup_iff.mpr nd) ?_
  have := List.pairwise_mergeSort (le := leP) (fun a b c h1 h2 => by
    have := of_decide_eq_true h1
    have := of_decide_eq_true h2
    exact decide_eq_true (by omega)) (fun a b => by
    unfold leP
    rcases Int.le_total a.1 b.1 with h | h
    · rw [decide_eq_true h]
      rfl
    · rw [decide_eq_true h, Bool.or_true]) ps
  exact this.imp fun h => of_decide_eq_true h
def vSortK (i : Nat) : VF := fun S => (dicD S i).bind fun kvs => match intKs kvs with
  | some ps => R.when (ps.length ≤ 1000 ∧ (ps.map (·.1)).Nodup) (.ok ((sortP ps).map prD, S))
  | none => .bad
theorem f_sortK {i : Nat} : SEF C (tCB rSortK (tCons (tBM0 K "dict" rItemsK (tVar i)) tNil)) (vSortK i) := by
  intro σ H B S Q R h
  obtain ⟨kvs, a, ws, q1, q2, q3, q4, h⟩ := dic_of R (post_bind.mp h)
  split at h
  · rename_i ps e
    obtain ⟨⟨hl, hn⟩, h⟩ := post_when.mp h
    have ew := intKs_v q4 e
    refine ⟨_, q2, .inr (.inr (.inl ⟨rfl, .inl ⟨_, q3⟩⟩)), a, ws, ⟨rfl, rfl⟩, q3, fun p hp => ?_⟩
    have na : a ≠ p := ne_of_none q3 hp
    refine ⟨p, a, ps, rfl, upd_same, by rw [upd_ne na, q3, ew], hl, fun H' l zs sH hl hl' hz perm so => ?_⟩
    have R1 : Rep C σ (upd H p (itemsO p a)) B S := R.loose hp
    obtain ⟨B', R2, sB, L, nb⟩ := R1.fresh sH hl hl'
    have ez : zs.map (pairAt H') = sortP ps := by
      refine sort_uniq (perm.trans (sortP_perm ps).symm) (rise_of ((perm.map _).nodup_iff.mpr hn) (so.imp fun z => ?_)) (sortP_rise hn)
      have := SrtO.lexB_no.mp z
      omega
    refine h l zs H' B' R2 sB hl' L ?_
    rw [← ez]
    have da : ∀ us : List V, (∀ z ∈ us, z ∈ zs) → DaAll K B' us ((us.map (pairAt H')).map prD) := fun us => by
      induction us with
      | nil => exact fun _ => .nil
      | cons u us ih =>
        intro hu
        refine .cons ?_ (ih fun z hz => hu z (List.mem_cons_of_mem _ hz))
        obtain ⟨b, rfl, e1, e2, e3⟩ := hz u (hu u List.mem_cons_self)
        refine .tup (xs := [.int (pairAt H' (.ref b)).1, .int (pairAt H' (.ref b)).2]) (SqT.of ?_) (.cons (.int _) (.cons (.int _) .nil))
        rw [nb b e1 e2]
        exact e3
    exact da zs fun _ z => z
  · exact h.elim
/-! enumerate, zip -/
theorem seq_kd {y : V} {e : PyData} {ds : List PyData} (h : Da K B y e) (q : itemsD e = some ds) : ∃ (k : Kd) (p : Addr) (xs : List V), y = .ref p ∧ k.Sq K B p xs ∧ DaAll K B xs ds := by
  obtain ⟨p, xs, rfl, s | s, a⟩ := seq_of h q
  · exact ⟨.L, p, xs, rfl, s, a⟩
  · exact ⟨.T, p, xs, rfl, s, a⟩
theorem Kd.up {k : Kd} {p : Addr} {xs : List V} (e : Same B H) (h : k.Sq K B p xs) : k.Sq K H p xs := match k, h with
  | .L, h => sm_l e h
  | .T, h => sm_t e h
def listD : PyData → Option (List PyData)
  | .list ds => some ds
  | _ => none
def tupleD : PyData → Option (List PyData)
  | .tuple ds => some ds
  | _ => none
def kdD (k : Kd) : PyData → Option (List PyData) := match k with
  | .L => listD
  | .T => tupleD
theorem kd_of {k : Kd} {y : V} {e : PyData} {ds : List PyData} (h : Da K B y e) (q : kdD k e = some ds) : ∃ (p : Addr) (xs : List V), y = .ref p ∧ k.Sq K B p xs ∧ DaAll K B xs ds := by
  cases k with
  | L =>
    cases h with
    | lst s a => cases (Option.some.inj q); exact ⟨_, _, rfl, SqL.of s, a⟩
    | _ => exact nomatch q
  | T =>
    cases h with
    | tup s a => cases (Option.some.inj q); exact ⟨_, _, rfl, s, a⟩
    | _ => exact nomatch q
theorem walks_enumK {k : Kd} {a : Addr} {xs : List V} {ds : List PyData} (s : k.Sq K B a xs) (h : DaAll K B xs ds) (uniq : ∀ (C : Ct K n) σ H1 B1 S, Rep C σ H1 B1 S → Same B B1 → ∀ v H' i y, (ItN K k a).yld i H1 v H' → (∀ zs, k.Sq K H1 a zs → zs[i]? = some y) → True := by intros; trivial) : Walks C B (ItN K k a) (enumD ds) where
  go := fun i H hi e => by
    rw [enumD_len, ← daa_len h] at hi
    exact ⟨xs, xs[i], Kd.up e s, List.getElem?_eq_getElem hi⟩
  stop := fun H e => ⟨xs, Kd.up e s, by rw [enumD_len, daa_len h]⟩
  yld := fun i H H' x d hd y C σ B1 S R e => by
    obtain ⟨T, x0, x1, rfl, hT, rfl, rfl, y1⟩ := y
    have hx := y1 xs (Kd.up (e.trans R.base.bh) s)
    obtain ⟨d1, q1, q2⟩ := daa_at h hx
    obtain ⟨B', R1, e1, da⟩ := R.tup (xs := [.int (i : Nat), x1]) (ds := [.int (i : Nat), d1]) hT (.cons (.int _) (.cons (da_mono e q2) .nil))
    rw [enumD_get q1] at hd
    cases hd
    exact ⟨B', R1, e1, da, fun D o z => by rw [upd_ne (ne_of_none z hT)]; exact z⟩
def vEnumK (k : Kd) (fa : VA) : VF := fun S => (fa S).bind fun p => match p.1 with
  | [d] => match kdD k d with
    | some ds => .ok (enumD ds, p.2)
    | none => .bad
  | _ => .bad
theorem i_enumK {k : Kd} {ta : TA} {fa : VA} (ha : SA C ta fa) : SI C (iEnumK k K ta) (vEnumK k fa) := by
  intro σ H B S Rr R h
  replace h := post_bind.mp h
  refine ha σ H B S _ R (h.mono fun p h1 v H1 B1 R1 e1 d1 => ?_)
  obtain ⟨d, S1⟩ := p
  dsimp only at d1 h1 R1
  split at h1
  · cases d1 with
    | cons q1 t =>
      cases t
      split at h1
      · rename_i ds q
        obtain ⟨p, xs, rfl, sq, da⟩ := kd_of q1 q
        exact ⟨p, xs, rfl, Kd.up R1.base.bh sq, h1 _ H1 B1 R1 e1 (walks_enumK sq da)⟩
      · exact h1.elim
  · exact h1.elim
theorem walks_zipK {k l : Kd} {a b : Addr} {xs ys : List V} {ds es : List PyData} (s : k.Sq K B a xs) (h : DaAll K B xs ds) (s2 : l.Sq K B b ys) (h2 : DaAll K B ys es) : Walks C B (ItZ K k l a b) (zipD ds es) where
  go := fun i H hi e => by
    unfold zipD at hi
    rw [List.length_map, List.length_zip, ← daa_len h, ← daa_len h2] at hi
    exact ⟨xs, ys, xs[i]'(by omega), ys[i]'(by omega), Kd.up e s, Kd.up e s2, List.getElem?_eq_getElem _, List.getElem?_eq_getElem _⟩
  stop := fun H e => by
    unfold zipD
    rw [List.length_map, List.length_zip, ← daa_len h, ← daa_len h2]
    exact ⟨xs, ys, Kd.up e s, Kd.up e s2, rfl⟩
  yld := fun i H H' x d hd y C σ B1 S R e => by
    obtain ⟨T, x1, x2, rfl, hT, rfl, y1, y2⟩ := y
    have hx := y1 xs (Kd.up (e.trans R.base.bh) s)
    have hy := y2 ys (Kd.up (e.trans R.base.bh) s2)
    obtain ⟨d1, q1, q2⟩ := daa_at h hx
    obtain ⟨d2, q3, q4⟩ := daa_at h2 hy
    obtain ⟨B', R1, e1, da⟩ := R.tup (xs := [x1, x2]) (ds := [d1, d2]) hT (.cons (da_mono e q2) (.cons (da_mono e q4) .nil))
    have ed : d = .tuple [d1, d2] := by
      unfold zipD at hd
      rw [List.getElem?_map, (List.getElem?_zip_eq_some (z := (d1, d2))).mpr ⟨q1, q3⟩] at hd
      exact (Option.some.inj hd).symm
    rw [ed]
    exact ⟨B', R1, e1, da, fun D o z => by rw [upd_ne (ne_of_none z hT)]; exact z⟩
def vZipK (k l : Kd) (fa : VA) : VF := fun S => (fa S).bind fun p => match p.1 with
  | [d, e] => match kdD k d, kdD l e with
    | some ds, some es => .ok (zipD ds es, p.2)
    | _, _ => .bad
  | _ => .bad
theorem i_zipK {k l : Kd} {ta : TA} {fa : VA} (ha : SA C ta fa) : SI C (iZipK k l K ta) (vZipK k l fa) := by
  intro σ H B S Rr R h
  replace h := post_bind.mp h
  refine ha σ H B S _ R (h.mono fun p h1 v H1 B1 R1 e1 d1 => ?_)
  obtain ⟨d, S1⟩ := p
  dsimp only at d1 h1 R1
  split at h1
  · cases d1 with
    | cons q1 t =>
      cases t with
      | cons q2 t =>
        cases t
        split at h1
        · rename_i ds es z1 z2
          obtain ⟨p, xs, rfl, sq, da⟩ := kd_of q1 z1
          obtain ⟨q, ys, rfl, sq2, da2⟩ := kd_of q2 z2
          exact ⟨p, q, xs, ys, rfl, Kd.up R1.base.bh sq, Kd.up R1.base.bh sq2, h1 _ H1 B1 R1 e1 (walks_zipK sq da sq2 da2)⟩
        · exact h1.elim
  · exact h1.elim
/-! list(range(n)), sorted(ints) -/
def vListRg (fa : VE) : VF := fun S => (fa S).bind fun p => (toI p.1).bind fun j => R.when (-1000000 ≤ j ∧ j ≤ 1000000) (.ok (rangeD 0 j.toNat, p.2))
theorem daa_range (lo : Int) (l : List Nat) : DaAll K B (l.map fun i => V.int (lo + (i : Nat))) (l.map fun i => PyData.int (lo + (i : Nat))) := by
  induction l with
  | nil => exact .nil
  | cons i l ih => exact .cons (.int _) ih
theorem f_listRg {ta : TE} {fa : VE} (ha : SE C ta fa) : SEF C (tLstRg (tRg1 ta)) (vListRg fa) := by
  intro σ H B S Q R h
  replace h := post_bind.mp h
  refine ha σ H B S _ R (h.mono fun p h1 v H1 B1 R1 e1 d1 => ?_)
  replace h1 := post_bind.mp h1
  obtain ⟨j, rfl, _, h1⟩ := int_of d1 h1
  obtain ⟨⟨k1, k2⟩, h1⟩ := post_when.mp h1
  refine ⟨j, rfl, ⟨by omega, by omega, by omega, by omega, by omega⟩, fun q hq => ?_⟩
  obtain ⟨R2, L⟩ := R1.newLoose (o := .lst (rgV 0 j)) hq
  refine h1 q _ _ B1 R2 e1 upd_same L ?_
  unfold rgV rangeD
  rw [Int.sub_zero]
  exact daa_range 0 _
def gSortI : List PyData → R PyData
  | [.list ds] => match intsD ds with
    | some ns => .ok (.list ((ns.mergeSort fun a b => decide (a ≤ b)).map PyData.int))
    | none => .bad
  | _ => .bad
theorem ints_uniq : ∀ {l m : List Int}, l.Perm m → l.Pairwise (· ≤ ·) → m.Pairwise (· ≤ ·) → l = m
  | [], m, h, _, _ => (List.nil_perm.mp h).symm
  | x :: l, [], h, _, _ => nomatch (List.perm_nil.mp h)
  | x :: l, y :: m, h, h1, h2 => by
    obtain ⟨a1, a2⟩ := List.pairwise_cons.mp h1
    obtain ⟨b1, b2⟩ := List.pairwise_cons.mp h2
    have e : x = y := by
      rcases List.mem_cons.mp (h.mem_iff.mp List.mem_cons_self) with q | q
      · exact q
      · rcases List.mem_cons.mp (h.mem_iff.mpr (List.mem_cons_self (a := y))) with q2 | q2
        · exact q2.symm
        · have := b1 x q
          have := a1 y q2
          omega
    subst e
    rw [ints_uniq h.cons_inv a2 b2]
theorem ints_sorted (ns : List Int) : (ns.mergeSort fun a b => decide (a ≤ b)).Pairwise (· ≤ ·) := by
  refine (List.pairwise_mergeSort (le := fun a b : Int => decide (a ≤ b)) (fun a b c h1 h2 => ?_) (fun a b => ?_) ns).imp fun h => of_decide_eq_true h
  · have := of_decide_eq_true h1
    have := of_decide_eq_true h2
    exact decide_eq_true (by omega)
  · rcases Int.le_total a b with h | h
    · rw [decide_eq_true h]
      rfl
    · rw [decide_eq_true h, Bool.or_true]
theorem c_sortI : SCR C (rSortedI K) gSortI := by
  intro σ H B S xs ds Q R d h
  cases d with
  | nil => exact h.elim
  | cons h1 t =>
    cases t with
    | cons h2 t => cases h1 <;> exact h.elim
    | nil =>
      cases h1 with
      | lst s a =>
        unfold gSortI at h
        simp only at h
        split at h
        · rename_i ns q
          obtain ⟨rfl, rfl⟩ := ints_v a q
          refine ⟨_, ns, rfl, SqL.of (R.base.bh _ _ s), fun ns' p perm so hp => ?_⟩
          have e := ints_uniq (perm.trans (List.mergeSort_perm ns fun a b => decide (a ≤ b)).symm) so (ints_sorted ns)
          rw [← e] at h
          obtain ⟨B', R1, e1, d1⟩ := R.lst hp (ints_daa ns')
          exact h _ _ B' R1 e1 d1
        · exact h.elim
      | _ => exact h.elim
end
end Bo

/-! ### the rules with K named, and some more statements -/
namespace Bo
open PySem L2
section
variable {X : Cx} (K : PySem.W.Frag) (h : X.K = K := by rfl)
include h
theorem k_in : OpR X (compareOp .In) (rIn K false) := h ▸ op_in_seq
theorem k_notIn : OpR X (compareOp .NotIn) (rIn K true) := h ▸ op_notIn_seq
theorem k_len : CallR X (.builtin "len") (fun xs H Q => ∃ p ys, xs = [.ref p] ∧ (SqL K H p ys ∨ SqT K H p ys) ∧ Q (.int ys.length) H) := h ▸ call_len_seq
theorem k_tuple : CallR X (.type "tuple") (fun xs H Q => ∃ p ys, xs = [.ref p] ∧ ((SqL K H p ys ∧ ∀ l, H l = none → Q (.ref l) (upd H l (.tup ys))) ∨ (SqT K H p ys ∧ Q (.ref p) H))) := h ▸ call_tuple_of
theorem k_list : CallR X (.type "list") (fun xs H Q => ∃ p ys, xs = [.ref p] ∧ (SqL K H p ys ∨ SqT K H p ys) ∧ ∀ l, H l = none → Q (.ref l) (upd H l (.lst ys))) := h ▸ call_list_of
theorem k_catA : OpR X (binaryOp .Add) (rCatA K) := h ▸ op_catA
theorem k_eqD (hu : X.A.units + 64 < cLine) : OpR X (compareOp .Eq) (rEqD K) := h ▸ op_eqD hu
theorem k_neD (hu : X.A.units + 64 < cLine) : OpR X (compareOp .NotEq) (rNeD K) := h ▸ op_neD hu
theorem k_slL : SlR X (rSlL K) := h ▸ sl_list
theorem k_slT : SlR X (rSlA K) := h ▸ sl_tupA
theorem k_sum (hc : X.calm = true) : CallR X (.builtin "sum") (rSum K) := h ▸ cr_sum hc
theorem k_any (hc : X.calm = true) : CallR X (.builtin "any") (rAny K) := h ▸ cr_any hc
theorem k_all (hc : X.calm = true) : CallR X (.builtin "all") (rAll K) := h ▸ cr_all hc
theorem k_sorted : CallR X (.builtin "sorted") (rSortedI K) := h ▸ cr_sortedI
theorem k_revL {e : Expr} {te : TE} {k : Nat} {p1 p2 p3 pos : Pos} (he : PE X e te) : PE X (.Subscript e (.Slice none none (some (.UnaryOp .USub (.Constant (.int 1) k p1) p2)) p3) pos) (tRevL K te) := h ▸ pe_revL he
theorem k_iList {tg l : Expr} {tl : TE} (hl : PE X l tl) : PI X tg l (iList K tl) := h ▸ pi_list hl
theorem k_iTup {tg l : Expr} {tl : TE} (hl : PE X l tl) : PI X tg l (iTup K tl) := h ▸ pi_tup hl
theorem k_gTup {es : List Expr} {k : Nat} {t : TGs} {n : Nat} {pos : Pos} (hc : X.calm = true) (hh : PGs X es t) (hn : (assignEach es X.env).length = n := by rfl) (hst : (assignEach es X.env).findIdx? (·.1) = none := by rfl) : PG X (.Tuple es k pos) (gTup K n t) := h ▸ pg_tup hc hh hn hst
theorem k_truth {a : Expr} {ta : TE} (ha : PE X a ta) (he : ∀ whole, isTrue a X.env whole = (do let v ← whole; standAt a.pos; holding [v] (truthy v))) : PT X a (fun σ H Q => ta σ H fun x H' => ∃ k, TruV K x H' k ∧ Q k H') := h ▸ pt_truth ha he
end
section
variable {K : PySem.W.Frag} {n : Nat} {C : Ct K n} {σ : L2.St} {H B : Hp} {S : SS}
/-- x += e, ints -/
def vAug (i : Nat) (f : Int → Int → Int) (fe : VE) : VS := fun S => match S[i]? with
  | some (some (.dat (.int a))) => (fe S).bind fun p => (toI p.1).bind fun b => .ok (.nx (p.2.set i (some (.dat (.int (f a b))))))
  | _ => .bad
theorem st_aug {i : Nat} {f : Int → Int → Int} {te : TE} {fe : VE} (hi : n ≤ i) (he : SE C te fe) : SSt C (tAug i te (ipI f)) (vAug i f fe) := by
  intro σ H B S D R h
  unfold vAug at h
  split at h
  · rename_i a e
    obtain ⟨v, hv, r⟩ := R.slot i _ e
    cases r
    refine ⟨_, hv, ?_⟩
    replace h := post_bind.mp h
    refine he σ H B S _ R (h.mono fun p h1 w H1 B1 R1 e1 d1 => ?_)
    obtain ⟨b, rfl, _, h1⟩ := int_of d1 (post_bind.mp h1)
    exact ⟨_, _, rfl, rfl, h1 _ H1 B1 (R1.put hi (.int _)) e1⟩
  · exact h.elim
end
end Bo

/-! ### a, b, .. = a list -/
namespace Bo
open PySem L2
section
variable {K : PySem.W.Frag} {n : Nat} {C : Ct K n}
def aUnl (m : Nat) (f : List PyData → SS → R SS) : PyData → SS → R SS := fun d S => match d with
  | .list ds => R.when (ds.length = m) (f ds S)
  | _ => .bad
theorem g_unl {m : Nat} {gs : TGs} {fs : List PyData → SS → R SS} {ts : List Nat} (h1 : SGs C gs fs ts) : SG C (gUnl K m gs) (aUnl m fs) ts := by
  intro σ H B S v d Q R dv h
  cases dv with
  | lst s a =>
    obtain ⟨k, h⟩ := post_when.mp h
    exact ⟨_, _, rfl, SqL.of (R.base.bh _ _ s), (daa_len a).trans k, h1 σ H B S _ _ Q R a h⟩
  | _ => exact h.elim
end
section
variable {X : Cx} (K : PySem.W.Frag) (h : X.K = K := by rfl)
include h
theorem k_gUnl {es : List Expr} {k : Nat} {t : TGs} {n : Nat} {pos : Pos} (hc : X.calm = true) (hh : PGs X es t) (hn : (assignEach es X.env).length = n := by rfl) (hst : (assignEach es X.env).findIdx? (·.1) = none := by rfl) : PG X (.Tuple es k pos) (gUnl K n t) := h ▸ pg_unl hc hh hn hst
end
theorem w_aUnl {m : Nat} {ds : List PyData} {S : SS} {kG : SS → Prop} {fg : List PyData → SS → R SS} (c : ds.length = m) (q : (fg ds S).okTo kG) : (aUnl m fg (.list ds) S).okTo kG := by
  show (R.when (ds.length = m) (fg ds S)).okTo kG
  rw [R.when_pos c]
  exact q
end Bo

/-! ### lists of a slot, lent to a call that tells a plain value, and walked -/
namespace Bo
open PySem L2
section
variable {K : PySem.W.Frag} {n : Nat} {C : Ct K n} {σ : L2.St} {H B : Hp} {S : SS}
open Classical in
/-- what stays, and the slots' lists as they stand -/
noncomputable def lentB (σ : L2.St) (H B : Hp) (S : SS) : Hp := fun a => if ∃ (i : Nat) (ds : List PyData), S[i]? = some (some (.own ds)) ∧ σ[i]? = some (some (.ref a)) then H a else B a
theorem lent_same (R : Rep C σ H B S) : Same B (lentB σ H B S) ∧ Same (lentB σ H B S) H := by
  refine ⟨fun a o h => ?_, fun a o h => ?_⟩
  · unfold lentB
    by_cases c : ∃ (i : Nat) (ds : List PyData), S[i]? = some (some (.own ds)) ∧ σ[i]? = some (some (.ref a))
    · rw [if_pos c]
      exact R.base.bh a o h
    · rw [if_neg c]
      exact h
  · unfold lentB at h
    by_cases c : ∃ (i : Nat) (ds : List PyData), S[i]? = some (some (.own ds)) ∧ σ[i]? = some (some (.ref a))
    · rw [if_pos c] at h
      exact h
    · rw [if_neg c] at h
      exact R.base.bh a o h
theorem lent_own (R : Rep C σ H B S) {i : Nat} {ds : List PyData} (h : S[i]? = some (some (.own ds))) : ∃ a, σ[i]? = some (some (.ref a)) ∧ Da K (lentB σ H B S) (.ref a) (.list ds) := by
  obtain ⟨v, hv, a, vs, rfl, h1, h2, h3⟩ := R.slot i _ h
  refine ⟨a, hv, .lst (xs := vs) ?_ (daa_mono (lent_same R).1 h3)⟩
  unfold lentB
  rw [if_pos ⟨i, ds, h, hv⟩]
  exact h1
/-- arguments, some of them lists of slots -/
def SAL (C : Ct K n) (t : TA) (f : VA) : Prop := ∀ (σ : L2.St) (H B : Hp) (S : SS) (Q : List V → Hp → Prop), Rep C σ H B S →
  Post C (f S) (fun p => ∀ vs H' B', Rep C σ H' B' p.2 → Same B B' → DaAll K (lentB σ H' B' p.2) vs p.1 → Q vs H') → t σ H Q
theorem sl_nil : SAL C tNil vNil := fun _ H B _ _ R h => h _ H B R (Same.refl _) .nil
theorem sl_cons {ta : TE} {tr : TA} {fa : VE} {fr : VA} (ha : SE C ta fa) (hr : SAL C tr fr) : SAL C (tCons ta tr) (vCons fa fr) := by
  intro σ H B S Q R h
  replace h := post_bind.mp h
  refine ha σ H B S _ R (h.mono fun p h1 v H1 B1 R1 e1 d1 => ?_)
  replace h1 := post_bind.mp h1
  exact hr σ H1 B1 p.2 _ R1 (h1.mono fun q h2 w H2 B2 R2 e2 d2 => h2 _ H2 B2 R2 (e1.trans e2) (.cons (da_mono (e2.trans (lent_same R2).1) d1) d2))
def vConsO (i : Nat) (fr : VA) : VA := fun S => (ownD S i).bind fun _ => (fr S).bind fun q => (ownD q.2 i).bind fun ds => .ok (.list ds :: q.1, q.2)
theorem sl_own {i : Nat} {tr : TA} {fr : VA} (hr : SAL C tr fr) : SAL C (tCons (tVar i) tr) (vConsO i fr) := by
  intro σ H B S Q R h
  obtain ⟨ds0, a0, vs0, q1, q2, q3, q4, h⟩ := own_of R (post_bind.mp h)
  refine ⟨_, q2, ?_⟩
  replace h := post_bind.mp h
  refine hr σ H B S _ R (h.mono fun q h2 w H2 B2 R2 e2 d2 => ?_)
  obtain ⟨ds, a, vs, p1, p2, p3, p4, h2⟩ := own_of R2 (post_bind.mp h2)
  obtain ⟨a', p2', da⟩ := lent_own R2 p1
  rw [q2] at p2'
  cases p2'
  exact h2 _ H2 B2 R2 e2 (.cons da d2)
theorem flat_any {B' : Hp} {v : V} {d : PyData} (h : Da K B v d) (f : flatD d = true) : Da K B' v d := by
  cases h <;> first | (cases f; done) | constructor
def vCallL (m : Nat) (den : List PyData → R PyData) (fa : VA) : VE := fun S => (fa S).bind fun p => R.when (p.1.length = m) (((den p.1).noErr).bind fun z => R.when (flatD z = true) (.ok (z, p.2)))
theorem s_callL {m : Nat} {den : List PyData → R PyData} {E : XK} {ta : TA} {fa : VA} (ha : SAL C ta fa) : SE C (tCall (spP K m den) [] E ta) (vCallL m den fa) := by
  intro σ H B S Q R h
  replace h := post_bind.mp h
  refine ha σ H B S _ R (h.mono fun p h1 vs H1 B1 R1 e1 d1 => ?_)
  obtain ⟨k, h1⟩ := post_when.mp h1
  replace h1 := post_bind.mp h1
  rw [List.append_nil]
  refine ⟨p.1, _, d1, (lent_same R1).2, k, (okTo_of h1).mono fun z h2 v H' B' sH sB bh fz dv => ?_⟩
  obtain ⟨f, h2⟩ := post_when.mp h2
  have R2 : Rep C σ H' B1 p.2 := R1.grow ⟨fun a o na q => sH a o (R1.base.keep a o na q), R1.base.b0, R1.base.bh.trans sH, R1.base.fr⟩ (Same.refl _) fun a o z1 z2 _ => ⟨sH a o z1, z2⟩
  exact h2 v H' B1 R2 e1 (flat_any dv f)
/-! walks over a slot's list, as it stands at each turn -/
/-- a turn's item, by place -/
def itO (pair : Bool) (k : Nat) (d : PyData) : PyData := if pair = true then .tuple [.int (k : Nat), d] else d
/-- the walk J over the list of slot i, told by Rep -/
structure WalkO (C : Ct K n) (σ : L2.St) (i : Nat) (J : It) (pair : Bool) : Prop where
  go : ∀ (k : Nat) H B S ds, Rep C σ H B S → S[i]? = some (some (.own ds)) → k < ds.length → J.go k H
  stop : ∀ (k : Nat) H B S ds, Rep C σ H B S → S[i]? = some (some (.own ds)) → k = ds.length → J.stop k H
  yld : ∀ (k : Nat) H H' B S ds d x, Rep C σ H B S → S[i]? = some (some (.own ds)) → ds[k]? = some d → J.yld k H x H' → ∃ B', Rep C σ H' B' S ∧ Same B B' ∧ Da K B' x (itO pair k d) ∧ ∀ D o, H D = some o → H' D = some o
theorem walkO_list {i : Nat} {a : Addr} (hv : σ[i]? = some (some (.ref a))) : WalkO C σ i (Itl K a) false where
  go := fun k H B S ds R h hk => by
    obtain ⟨v, h1, a', vs, rfl, h2, _, h3⟩ := R.slot i _ h
    rw [hv] at h1
    cases h1
    rw [← daa_len h3] at hk
    exact ⟨vs, vs[k], SqL.of h2, List.getElem?_eq_getElem hk⟩
  stop := fun k H B S ds R h hk => by
    obtain ⟨v, h1, a', vs, rfl, h2, _, h3⟩ := R.slot i _ h
    rw [hv] at h1
    cases h1
    exact ⟨vs, SqL.of h2, by rw [daa_len h3]; omega⟩
  yld := fun k H H' B S ds d x R h hk y => by
    obtain ⟨v, h1, a', vs, rfl, h2, _, h3⟩ := R.slot i _ h
    rw [hv] at h1
    cases h1
    obtain ⟨rfl, y⟩ := y
    obtain ⟨d', q1, q2⟩ := daa_at h3 (y vs (SqL.of h2))
    rw [hk] at q1
    cases q1
    exact ⟨B, R, Same.refl _, q2, fun _ _ z => z⟩
theorem walkO_enum {i : Nat} {a : Addr} (hv : σ[i]? = some (some (.ref a))) : WalkO C σ i (ItN K .L a) true where
  go := fun k H B S ds R h hk => by
    obtain ⟨v, h1, a', vs, rfl, h2, _, h3⟩ := R.slot i _ h
    rw [hv] at h1
    cases h1
    rw [← daa_len h3] at hk
    exact ⟨vs, vs[k], SqL.of h2, List.getElem?_eq_getElem hk⟩
  stop := fun k H B S ds R h hk => by
    obtain ⟨v, h1, a', vs, rfl, h2, _, h3⟩ := R.slot i _ h
    rw [hv] at h1
    cases h1
    exact ⟨vs, SqL.of h2, by rw [daa_len h3]; exact hk⟩
  yld := fun k H H' B S ds d x R h hk y => by
    obtain ⟨v, h1, a', vs, rfl, h2, _, h3⟩ := R.slot i _ h
    rw [hv] at h1
    cases h1
    obtain ⟨T, x0, x1, rfl, hT, rfl, rfl, y1⟩ := y
    obtain ⟨d', q1, q2⟩ := daa_at h3 (y1 vs (SqL.of h2))
    rw [hk] at q1
    cases q1
    obtain ⟨B', R1, e1, da⟩ := R.tup (xs := [.int (k : Nat), x1]) (ds := [.int (k : Nat), d]) hT (.cons (.int _) (.cons q2 .nil))
    exact ⟨B', R1, e1, da, fun D o z => by rw [upd_ne (ne_of_none z hT)]; exact z⟩
/-- what is walked: a slot's list -/
def SIO (C : Ct K n) (w : TI) (i : Nat) (pair : Bool) : Prop := ∀ (σ : L2.St) (H B : Hp) (S : SS) (ds : List PyData) (Rr : It → Hp → Prop), Rep C σ H B S → S[i]? = some (some (.own ds)) →
  (∀ J, (∀ C' : Ct K n, ∀ σ', σ'[i]? = σ[i]? → WalkO C' σ' i J pair) → Rr J H) → w σ H Rr
theorem io_list {i : Nat} : SIO C (iList K (tVar i)) i false := by
  intro σ H B S ds Rr R e h
  obtain ⟨v, h1, a, vs, rfl, h2, _, h3⟩ := R.slot i _ e
  exact ⟨_, h1, a, rfl, ⟨vs, SqL.of h2⟩, h _ fun C' σ' e' => walkO_list (e'.trans h1)⟩
theorem io_enum {i : Nat} : SIO C (iEnumK .L K (tCons (tVar i) tNil)) i true := by
  intro σ H B S ds Rr R e h
  obtain ⟨v, h1, a, vs, rfl, h2, _, h3⟩ := R.slot i _ e
  exact ⟨_, h1, a, vs, rfl, SqL.of h2, h _ fun C' σ' e' => walkO_enum (e'.trans h1)⟩
/-- turns from place k on -/
def lcO (pair : Bool) (i : Nat) (fg : PyData → SS → R SS) (ft : VT) (fe : VE) (vs : List Nat) : Nat → Nat → SS → R (List PyData × SS)
  | 0, _, _ => .bad
  | m + 1, k, S => (ownD S i).bind fun ds => match ds[k]? with
    | none => R.when (k = ds.length) (.ok ([], S))
    | some d => (fg (itO pair k d) S).bind fun S1 => (ft S1).bind fun p => if p.1 = true then (fe p.2).bind fun q => (lcO pair i fg ft fe vs m (k + 1) (wipeS q.2 vs)).bind fun r => .ok (q.1 :: r.1, r.2) else lcO pair i fg ft fe vs m (k + 1) (wipeS p.2 vs)
def vLcO (pair : Bool) (i : Nat) (vs : List Nat) (fg : PyData → SS → R SS) (ft : VT) (fe : VE) : VF := fun S => (ownD S i).bind fun _ => R.when (okS vs S = true) ((lcO pair i fg ft fe vs 100000 0 (wipeS S vs)).bind fun r => .ok (r.1, backS S r.2 vs))
theorem f_lcO {wi : TI} {g : TG} {tt : TT} {te : TE} {vs ts : List Nat} {pair : Bool} {i : Nat} {fg : PyData → SS → R SS} {ft : VT} {fe : VE} (hv : vs.all (fun v => decide (n ≤ v)) = true) (hts : ts.all (fun t => decide (t ∈ vs)) = true) (hiv : decide (i ∈ vs) = false) (hi : SIO C wi i pair)
    (hg : ∀ C' : Ct K n, SG C' g fg ts) (ht : ∀ C' : Ct K n, ST C' tt ft) (he : ∀ C' : Ct K n, SE C' te fe) : SEF C (tLc wi g tt te vs) (vLcO pair i vs fg ft fe) := by
  intro σ H B S Q R h
  have hv' : ∀ v ∈ vs, n ≤ v := fun v m => of_decide_eq_true (List.all_eq_true.mp hv v m)
  have hts' : ∀ t ∈ ts, t ∈ vs := fun t m => of_decide_eq_true (List.all_eq_true.mp hts t m)
  have hiv' : i ∉ vs := of_decide_eq_false hiv
  obtain ⟨ds0, a0, vs0, s1, s2, s3, s4, h⟩ := own_of R (post_bind.mp h)
  refine hi σ H B S ds0 _ R s1 fun J W => ?_
  obtain ⟨ok, h⟩ := post_when.mp h
  replace h := post_bind.mp h
  intro D hD
  obtain ⟨h0, hB1, nb⟩ := R.new hD
  have hB0 : C.B0 D = none := by
    cases q : C.B0 D with
    | none => rfl
    | some o =>
      rw [R.base.b0 D o q] at hB1
      cases hB1
  have wi_ : (wipe σ vs)[i]? = σ[i]? := wipe_out hiv'
  refine ⟨fun k m H' => k + m = 100000 ∧ ∃ B' S' acc accd, Rep C (wipe σ vs) H' B' S' ∧ Same B B' ∧ H' D = some (.lst acc) ∧ Loose C (wipe σ vs) S' B' D ∧ DaAll K B' acc accd ∧ accd.length ≤ k ∧
    Post C (lcO pair i fg ft fe vs m k S') (fun r => ∀ a us H'' B'', Rep C σ H'' B'' (backS S r.2 vs) → Same B B'' → H'' a = some (.lst us) → Loose C σ (backS S r.2 vs) B'' a → DaAll K B'' us (accd ++ r.1) → Q (.ref a) H''), ⟨100000, ?_⟩, ?_⟩
  · obtain ⟨R2, L2⟩ := (R.wiped hv').newLoose (o := .lst []) hD
    exact ⟨by omega, B, wipeS S vs, [], [], R2, Same.refl _, upd_same, L2, .nil, Nat.le_refl _, h.mono fun r q => q⟩
  rintro k m H' ⟨hkm, B', S', acc, accd, R', e', hA, L, dA, lA, q⟩
  cases m with
  | zero => exact q.elim
  | succ m =>
    obtain ⟨ds, a, us, t1, t2, t3, t4, q⟩ := own_of R' (post_bind.mp q)
    split at q
    · rename_i hk
      obtain ⟨ek, q⟩ := post_when.mp q
      refine .inl ⟨(W C (wipe σ vs) wi_).stop k H' B' S' ds R' t1 ek, ?_⟩
      have Rb := R.back R' e' ok hv'
      refine q D acc H' B' Rb e' hA ⟨L.b, h0, fun j u z m e => ?_⟩ (by rw [List.append_nil]; exact dA)
      rcases backS_some z with ⟨z1, z2⟩ | ⟨z1, z2⟩
      · rw [okS_at ok z1 z2] at m
        cases m
      · exact L.no j u z2 m (by rw [wipe_out z1]; exact e)
    · rename_i d hk
      have hlt := (List.getElem?_eq_some_iff.mp hk).1
      refine .inr ⟨(W C (wipe σ vs) wi_).go k H' B' S' ds R' t1 hlt, _, fun H2 z => ⟨m, Nat.lt_succ_self m, by omega, z⟩, ?_⟩
      intro x H2 y
      have Rh := R'.hold hA L
      obtain ⟨B2, R2, e2, dx, _⟩ := (W (C.hold D acc) (wipe σ vs) wi_).yld k H' H2 B' S' ds d x Rh t1 hk y
      replace q := post_bind.mp q
      refine hg (C.hold D acc) (wipe σ vs) H2 B2 S' x _ _ R2 dx (hold_post h0 (q.mono fun S3 q σ3 R3 l3 k3 => ?_))
      have hw : wipe σ3 vs = wipe σ vs := by
        have hw1 : wipe σ3 vs = wipe (wipe σ vs) vs := wipe_ext l3 fun j hj => k3 j fun z => hj (hts' j z)
        have hw2 : wipe (wipe σ vs) vs = wipe σ vs := wipe_ext (wipe_length _ _) fun j hj => wipe_out hj
        rw [hw1, hw2]
      refine ⟨hw, ?_⟩
      replace q := post_bind.mp q
      have next : ∀ {H4 B4 : Hp} {S4 : SS}, Rep (C.hold D acc) σ3 H4 B4 S4 → Rep C (wipe σ vs) H4 B4 (wipeS S4 vs) ∧ H4 D = some (.lst acc) ∧ Loose C (wipe σ vs) (wipeS S4 vs) B4 D := fun R4 => by
        obtain ⟨R5, hD5, L5⟩ := R4.unhold h0 hB0 nb
        have R6 := R5.wiped hv'
        rw [hw] at R6
        refine ⟨R6, hD5, L5.b, h0, fun j u z m e => ?_⟩
        obtain ⟨z1, z2⟩ := wipeS_some z
        refine L5.no j u z2 m ?_
        rw [← hw, wipe_out z1] at e
        exact e
      refine ht (C.hold D acc) σ3 H2 B2 S3 _ R3 (hold_post h0 (q.mono fun p q H3 B3 R4 e3 => ?_))
      obtain ⟨c, S4⟩ := p
      cases c with
      | false =>
        obtain ⟨R6, hD6, L6⟩ := next R4
        have e13 := e2.trans e3
        exact ⟨B3, wipeS S4 vs, acc, accd, R6, e'.trans e13, hD6, L6, daa_mono e13 dA, by omega, q⟩
      | true =>
        replace q : Post C ((fe S4).bind _) _ := q
        replace q := post_bind.mp q
        refine he (C.hold D acc) σ3 H3 B3 S4 _ R4 (hold_post h0 (q.mono fun r q v H5 B5 R5 e5 d5 => ?_))
        replace q := post_bind.mp q
        obtain ⟨R6, hD6, L6⟩ := next R5
        have e15 := e2.trans (e3.trans e5)
        refine ⟨acc, hD6, Nat.lt_of_le_of_lt (Nat.le_of_eq (daa_len dA)) (Nat.lt_of_lt_of_le (show accd.length < 100001 by omega) (by decide)), ?_⟩
        have R8 : Rep C (wipe σ vs) (upd H5 D (.lst (acc ++ [v]))) B5 (wipeS r.2 vs) := by
          refine R6.grow ⟨fun a o na z => ?_, R6.base.b0, fun a o z => ?_, R6.base.fr⟩ (Same.refl _) fun a o z1 z2 ⟨j, u, z3, z4, z5⟩ => ⟨?_, z2⟩
          · rw [upd_ne (ne_of_none z h0)]
            exact R6.base.keep a o na z
          · rw [upd_ne (ne_of_none z L6.b)]
            exact R6.base.bh a o z
          · rw [upd_ne]
            · exact z1
            · rintro rfl
              exact L6.no j u z3 z4 z5
        refine ⟨B5, wipeS r.2 vs, acc ++ [v], accd ++ [r.1], R8, e'.trans e15, upd_same, L6, daa_app (daa_mono e15 dA) (.cons d5 .nil), ?_, ?_⟩
        · rw [List.length_append, List.length_singleton]
          omega
        · refine q.mono fun w q a us H'' B'' Ra eb hA' L' d' => q a us H'' B'' Ra eb hA' L' ?_
          rw [List.append_assoc] at d'
          exact d'
/-- for x in a slot's list -/
def loopO (pair : Bool) (i : Nat) (fg : PyData → SS → R SS) (fb : VS) : Nat → Nat → SS → R FL
  | 0, _, _ => .bad
  | m + 1, k, S => (ownD S i).bind fun ds => match ds[k]? with
    | none => R.when (k = ds.length) (.ok (.nx S))
    | some d => (fg (itO pair k d) S).bind fun S1 => (fb S1).bind fun fl => match fl with
      | .nx S2 => loopO pair i fg fb m (k + 1) S2
      | .ct S2 => loopO pair i fg fb m (k + 1) S2
      | .bk S2 => .ok (.nx S2)
      | .rt d S2 => .ok (.rt d S2)
def vForO (pair : Bool) (i : Nat) (fg : PyData → SS → R SS) (fb : VS) : VS := fun S => loopO pair i fg fb 100000 0 S
end
end Bo

/-! ### the laws' own draws: what their defs are worth -/
namespace Bo
open PySem L2
def body_l_tape : VS :=
    (vSeq (vOwn 1 (vLstF vNil))
    (vSeq (vFor (vScr 0) (aName 2) (vSeq (vAsg (vOp (gIC cMulS fun i j => i * j) (vC (.int 2)) (vCall gInt (vCons (vVar 2) vNil))) (aName 3))
    (vSeq (vIfS (vTst (vOp (gIB fun i j => decide (i < j)) (vVar 3) (vC (.int 0)))) (vAsg (vOp (gI fun i j => i - j) (vUn gNeg (vC (.int 1))) (vVar 3)) (aName 3)) vNext)
    (vIfS (vTst (vOp (gIB fun i j => decide (j ≤ i)) (vVar 3) (vOp (gIC cPow fun i j => i ^ j.toNat) (vC (.int 10)) (vC (.int 18))))) (vFor (vRange1 (vCons (vC (.int 40)) vNil)) (aName 4) (vIfS (vTst (vOp (gIB fun i j => decide (j < i)) (vVar 3) (vC (.int 0)))) (vSeq (vDrop (vApp 1 (vOp (gIC cMod Int.fmod) (vCall gInt (vCons (vVar 3) vNil)) (vC (.int 1000)))))
    (vAsg (vOp (gIC cFdiv Int.fdiv) (vVar 3) (vC (.int 1000))) (aName 3))) vNext)) (vFor (vRange1 (vCons (vC (.int 3)) vNil)) (aName 4) (vSeq (vAsg (vOp (gIC cMod Int.fmod) (vCall gInt (vCons (vOp (gI fun i j => i + j) (vOp (gI fun i j => i + j) (vOp (gIC cMulS fun i j => i * j) (vVar 3) (vC (.int 48271))) (vOp (gIC cMulS fun i j => i * j) (vVar 4) (vC (.int 40503)))) (vC (.int 11))) vNil)) (vC (.int 2147483629))) (aName 5))
    (vDrop (vApp 1 (vOp (gIC cMod Int.fmod) (vCall gInt (vCons (vOp (gI fun i j => i + j) (vOp (gIC cMulS fun i j => i * j) (vVar 5) (vC (.int 69621))) (vOp (gIC cFdiv Int.fdiv) (vVar 5) (vC (.int 65536)))) vNil)) (vC (.int 2147483629)))))))))))
    (vFrz 1 (vRet (vVar 1)))))
def den_l_tape := denS 6 body_l_tape
def body_l_draw : VS :=
    (vSeq (vIfS (vTst (vOp (gIB fun i j => decide (i < j)) (vVar 1) (vCall gLen (vCons (vVar 0) vNil)))) (vRet (vOp (gIC cMod Int.fmod) (vCall gInt (vCons (vOp gIxL (vVar 0) (vVar 1)) vNil)) (vVar 2))) vNext)
    (vSeq (vAsg (vC (.int 1)) (aName 3))
    (vSeq (vIfS (vTst (vOp (gIB fun i j => decide (j < i)) (vCall gLen (vCons (vVar 0) vNil)) (vC (.int 0)))) (vAsg (vOp gIxL (vVar 0) (vOp (gIC cMod Int.fmod) (vCall gInt (vCons (vVar 1) vNil)) (vCall gLen (vCons (vVar 0) vNil)))) (aName 3)) vNext)
    (vRet (vOp (gIC cMod Int.fmod) (vOp (gIC cMod Int.fmod) (vCall gInt (vCons (vOp (gI fun i j => i + j) (vOp (gIC cMulS fun i j => i * j) (vOp (gIC cMul fun i j => i * j) (vOp (gI fun i j => i + j) (vVar 3) (vVar 1)) (vOp (gI fun i j => i + j) (vVar 1) (vC (.int 3)))) (vC (.int 7919))) (vOp (gIC cMulS fun i j => i * j) (vVar 1) (vC (.int 104729)))) vNil)) (vC (.int 65521))) (vVar 2))))))
def den_l_draw := denP 4 body_l_draw
def body_l_take : VS :=
    (vSeq (vSetI 0 (vC (.int 1)) (vOp (gI fun i j => i + j) (vIxO 0 (vC (.int 1))) (vC (.int 1))))
    (vRet (vCallP 3 den_l_draw (vCons (vIxO 0 (vC (.int 0))) (vCons (vIxO 0 (vC (.int 1))) (vCons (vVar 1) vNil))))))
def den_l_take := denB 2 body_l_take
def body_l_ends : VS :=
    (vSeq (vOwn 2 (vLstF vNil))
    (vSeq (vAsg (vCallB 1 den_l_take 0 (vCons (vVar 1) vNil)) (aName 3))
    (vSeq (vFor (vRange1 (vCons (vVar 1) vNil)) (aName 4) (vIfS (tOrF (vTst (vOp gEq (vVar 4) (vVar 3))) (vTst (vOp gEq (vCallB 1 den_l_take 0 (vCons (vC (.int 3)) vNil)) (vC (.int 0))))) (vDrop (vApp 2 (vTup (vCons (vVar 4) (vCons (vOp gIxL (vLst (vCons (vC (.int 1)) (vCons (vC (.int 1)) (vCons (vC (.int 2)) (vCons (vC (.int 3)) (vCons (vC (.int 10)) (vCons (vC (.int 1000)) vNil))))))) (vCallB 1 den_l_take 0 (vCons (vC (.int 6)) vNil))) vNil))))) vNext))
    (vRet (vTupleO 2)))))
def den_l_ends := denB 5 body_l_ends
def body_l_choices : VS :=
    (vSeq (vOwn 3 (vLstF vNil))
    (vSeq (vFor (vRange1 (vCons (vOp (gI fun i j => i + j) (vC (.int 1)) (vCallB 1 den_l_take 0 (vCons (vVar 2) vNil))) vNil)) (aName 4) (vDrop (vApp 3 (vTup (vCons (vOp gIxL (vLst (vCons (vC (.int 0)) (vCons (vC (.int 1)) (vCons (vC (.int 2)) (vCons (vC (.int 5)) (vCons (vC (.int 1000)) vNil)))))) (vCallB 1 den_l_take 0 (vCons (vC (.int 5)) vNil))) (vCons (vCallB 1 den_l_ends 0 (vCons (vVar 1) vNil)) vNil))))))
    (vRet (vTupleO 3))))
def den_l_choices := denB 5 body_l_choices
def body_l_system : VS :=
    (vSeq (vAsg (vOp (gI fun i j => i + j) (vC (.int 1)) (vCallB 1 den_l_take 0 (vCons (vVar 1) vNil))) (aName 2))
    (vRet (vCall gTuple (vCons (vFr (vLc [3] (vRange1 (vCons (vVar 2) vNil)) (aName 3) vYes (vCallB 2 den_l_choices 0 (vCons (vVar 2) (vCons (vC (.int 3)) vNil))))) vNil))))
def den_l_system := denB 4 body_l_system
def body_l_some : VS :=
    (vSeq (vAsg (vFr (vLc [4] (vRange1 (vCons (vVar 1) vNil)) (aName 4) (vTst (vOp gEq (vCallB 1 den_l_take 0 (vCons (vVar 2) vNil)) (vC (.int 0)))) (vVar 4))) (aName 3))
    (vSeq (vIfS (vTst (vOp gEq (vCallB 1 den_l_take 0 (vCons (vC (.int 2)) vNil)) (vC (.int 0)))) (vAsg (vUn gRevL (vVar 3)) (aName 3)) vNext)
    (vRet (vVar 3))))
def den_l_some := denB 5 body_l_some
def body_l_large : VS :=
    (vSeq (vOwn 2 (vLstF vNil))
    (vSeq (vFor (vRange1 (vCons (vVar 1) vNil)) (aName 3) (vSeq (vOwn 4 (vLstF vNil))
    (vSeq (vFor (vRange1 (vCons (vOp gIxL (vLst (vCons (vC (.int 1)) (vCons (vC (.int 2)) (vCons (vC (.int 6)) vNil)))) (vCallB 1 den_l_take 0 (vCons (vC (.int 3)) vNil))) vNil)) (aName 5) (vSeq (vNewD 6)
    (vSeq (vFor (vRange1 (vCons (vOp (gI fun i j => i + j) (vC (.int 1)) (vCallB 1 den_l_take 0 (vCons (vC (.int 6)) vNil))) vNil)) (aName 7) (vPutD 6 (vCallB 1 den_l_take 0 (vCons (vVar 1) vNil)) (vOp gIxL (vLst (vCons (vC (.int 1)) (vCons (vC (.int 1)) (vCons (vC (.int 2)) (vCons (vC (.int 5)) (vCons (vC (.int 1000)) vNil)))))) (vCallB 1 den_l_take 0 (vCons (vC (.int 5)) vNil)))))
    (vDrop (vApp 4 (vTup (vCons (vCallB 1 den_l_take 0 (vCons (vC (.int 1001)) vNil)) (vCons (vCall gTuple (vCons (vFr (vSortK 6)) vNil)) vNil))))))))
    (vDrop (vApp 2 (vTupleO 4))))))
    (vRet (vTupleO 2))))
def den_l_large := denB 8 body_l_large
def body_l_drawn_policy : VS :=
    (vRet (vCall gTuple (vCons (vFr (vLc [2] (vIterT (vVar 1)) (aName 2) vYes (vCallB 1 den_l_take 0 (vCons (vCall gLen (vCons (vVar 2) vNil)) vNil)))) vNil)))
def den_l_drawn_policy := denB 3 body_l_drawn_policy
end Bo

/-! ### reasoning about what code is worth -/
namespace Bo
open PySem L2
section
variable {α β : Type} {x : R α} {f : α → R β} {k : β → Prop}
theorem okTo_bind : (x.bind f).okTo k ↔ x.okTo fun a => (f a).okTo k := by cases x <;> exact Iff.rfl
theorem okTo_ok {a : β} : (R.ok a).okTo k ↔ k a := Iff.rfl
theorem okTo_noErr {x : R β} : x.noErr.okTo k ↔ x.okTo k := by cases x <;> exact Iff.rfl
theorem okTo_when {c : Prop} [Decidable c] {x : R β} : (R.when c x).okTo k ↔ c ∧ x.okTo k := by
  by_cases h : c
  · rw [R.when_pos h]
    exact ⟨fun q => ⟨h, q⟩, fun q => q.2⟩
  · rw [R.when_neg h]
    exact ⟨fun q => q.elim, fun q => (h q.1).elim⟩
theorem okTo_iff {x : R α} {k : α → Prop} : x.okTo k ↔ ∃ a, x = .ok a ∧ k a := by
  cases x with
  | ok a => exact ⟨fun h => ⟨a, rfl, h⟩, fun ⟨b, e, h⟩ => by cases e; exact h⟩
  | err e => exact ⟨fun h => h.elim, fun ⟨b, e, h⟩ => nomatch e⟩
  | bad => exact ⟨fun h => h.elim, fun ⟨b, e, h⟩ => nomatch e⟩
theorem okTo_eq {x : R α} {a : α} {k : α → Prop} (e : x = .ok a) (h : k a) : x.okTo k := by rw [e]; exact h
theorem noErr_ok {a : α} : (R.ok a).noErr = .ok a := rfl
end
/-- a loop by what holds between its turns -/
theorem loop_ok {fg : PyData → SS → R SS} {fb : VS} {ds : List PyData} {k : FL → Prop} (I : Nat → SS → Prop)
    (step : ∀ i d S, ds[i]? = some d → I i S → (fg d S).okTo fun S1 => (fb S1).okTo fun fl => match fl with
      | .nx S2 => I (i + 1) S2
      | .ct S2 => I (i + 1) S2
      | .bk S2 => k (.nx S2)
      | .rt d S2 => k (.rt d S2)) (done : ∀ S, I ds.length S → k (.nx S)) {S : SS} (h0 : I 0 S) : (loopF fg fb ds S).okTo k := by
  have go : ∀ (es : List PyData) (i : Nat) (S : SS), ds.drop i = es → i + es.length = ds.length → I i S → (loopF fg fb es S).okTo k := by
    intro es
    induction es with
    | nil =>
      intro i S _ hl h
      have e : i = ds.length := by simpa using hl
      rw [e] at h
      exact done S h
    | cons d es ih =>
      intro i S hd hl h
      have hi : ds[i]? = some d := by
        have := congrArg (fun l => l[0]?) hd
        simpa using this
      have hd2 : ds.drop (i + 1) = es := by
        have := congrArg List.tail hd
        simpa using this
      have hl2 : i + 1 + es.length = ds.length := by
        rw [List.length_cons] at hl
        omega
      unfold loopF
      rw [okTo_bind]
      refine (step i d S hi h).mono fun S1 h1 => ?_
      rw [okTo_bind]
      refine h1.mono fun fl h2 => ?_
      cases fl with
      | nx S2 => exact ih (i + 1) S2 hd2 hl2 h2
      | ct S2 => exact ih (i + 1) S2 hd2 hl2 h2
      | bk S2 => exact h2
      | rt d S2 => exact h2
  exact go ds 0 S rfl (by omega) h0
/-- a comprehension by what holds between its turns -/
theorem lc_ok {fg : PyData → SS → R SS} {ft : VT} {fe : VE} {vs : List Nat} {ds : List PyData} {k : List PyData × SS → Prop} (I : Nat → List PyData → SS → Prop)
    (step : ∀ i d acc S, ds[i]? = some d → I i acc S → (fg d S).okTo fun S1 => (ft S1).okTo fun p => if p.1 = true then (fe p.2).okTo fun q => I (i + 1) (acc ++ [q.1]) (wipeS q.2 vs) else I (i + 1) acc (wipeS p.2 vs))
    (done : ∀ acc S, I ds.length acc S → k (acc, S)) {S : SS} (h0 : I 0 [] S) : (lcF fg ft fe vs ds S).okTo k := by
  have go : ∀ (es : List PyData) (i : Nat) (acc : List PyData) (S : SS), ds.drop i = es → i + es.length = ds.length → I i acc S → (lcF fg ft fe vs es S).okTo fun r => k (acc ++ r.1, r.2) := by
    intro es
    induction es with
    | nil =>
      intro i acc S _ hl h
      have e : i = ds.length := by simpa using hl
      rw [e] at h
      show k (acc ++ [], S)
      rw [List.append_nil]
      exact done acc S h
    | cons d es ih =>
      intro i acc S hd hl h
      have hi : ds[i]? = some d := by
        have := congrArg (fun l => l[0]?) hd
        simpa using this
      have hd2 : ds.drop (i + 1) = es := by
        have := congrArg List.tail hd
        simpa using this
      have hl2 : i + 1 + es.length = ds.length := by
        rw [List.length_cons] at hl
        omega
      unfold lcF
      rw [okTo_bind]
      refine (step i d acc S hi h).mono fun S1 h1 => ?_
      rw [okTo_bind]
      refine h1.mono fun p h2 => ?_
      by_cases c : p.1 = true
      · rw [if_pos c] at h2 ⊢
        rw [okTo_bind]
        refine h2.mono fun q h3 => ?_
        rw [okTo_bind]
        refine (ih (i + 1) (acc ++ [q.1]) _ hd2 hl2 h3).mono fun r h4 => ?_
        rw [List.append_assoc] at h4
        exact h4
      · rw [if_neg c] at h2 ⊢
        exact ih (i + 1) acc _ hd2 hl2 h2
  exact (go ds 0 [] S rfl (by omega) h0).mono fun r h => h
/-- one without effects -/
theorem lc_pure {fg : PyData → SS → R SS} {ft : VT} {fe : VE} {vs : List Nat} {S : SS} (b : PyData → Bool) (g : PyData → PyData) : ∀ {ds : List PyData}, (∀ d ∈ ds, ∃ S1, fg d S = .ok S1 ∧ ft S1 = .ok (b d, S1) ∧ (b d = true → fe S1 = .ok (g d, S1)) ∧ wipeS S1 vs = S) →
    lcF fg ft fe vs ds S = .ok ((ds.filter b).map g, S)
  | [], _ => rfl
  | d :: ds, h => by
    obtain ⟨S1, h1, h2, h3, h4⟩ := h d List.mem_cons_self
    have ih := lc_pure b g (ds := ds) fun e he => h e (List.mem_cons_of_mem _ he)
    unfold lcF
    rw [h1, R.bind_ok, h2, R.bind_ok]
    by_cases c : b d = true
    · rw [List.filter_cons_of_pos c, List.map_cons]
      simp only [c, if_true]
      rw [h3 c, R.bind_ok]
      simp only [h4]
      rw [ih, R.bind_ok]
    · rw [List.filter_cons_of_neg c]
      simp only [c, if_false]
      rw [h4, ih]
      simp
/-! ### the draws -/
def dI (n : Int) : PyData := .int n
def dL (ns : List Int) : PyData := .list (ns.map PyData.int)
def TapeOk (ts : List Int) : Prop := (∀ x ∈ ts, 0 ≤ x ∧ x < 2147483629) ∧ ts.length ≤ 3000
theorem tape_app {ts : List Int} {z : Int} (h : ∀ x ∈ ts, 0 ≤ x ∧ x < 2147483629) (h0 : 0 ≤ z) (h1 : z < 2147483629) : ∀ x ∈ ts ++ [z], 0 ≤ x ∧ x < 2147483629 := by
  intro x hx
  rcases List.mem_append.mp hx with q | q
  · exact h x q
  · rw [List.mem_singleton.mp q]
    exact ⟨h0, h1⟩
theorem rangeD_get {lo : Int} {m i : Nat} {d : PyData} (h : (rangeD lo m)[i]? = some d) : i < m ∧ d = .int (lo + (i : Nat)) := by
  unfold rangeD at h
  rw [List.getElem?_map] at h
  obtain ⟨j, h1, rfl⟩ := Option.map_eq_some_iff.mp h
  obtain ⟨h2, h3⟩ := List.getElem?_eq_some_iff.mp h1
  rw [List.length_range] at h2
  rw [List.getElem_range] at h3
  exact ⟨h2, by rw [← h3]⟩
theorem rangeD_len {lo : Int} {m : Nat} : (rangeD lo m).length = m := by simp [rangeD]
local macro_rules | `(tactic| walk_at "ev") => `(tactic| simp only [okTo_bind, okTo_ok, okTo_noErr, okTo_when, R.bind_ok, vSeq, seqF, vAsg, vVar, vC, vOp, vUn, vCall, vCons, vNil, vTup, vLst, vFr, vLstF, vTst, toB, toI, gI, gIC, gIB, gNeg, gInt, gLen, gEq, gNe, eqF, vAnd, vOr, vNot, tNotF, tAndF, tOrF, vIfS, vIf, vNext, vRet, vRetN, vDrop, vOwn, vFrz, frzS, aName, vFor, vScr, vRange1, vApp, ownD, vIxO, vSetI, gIxL, gIxT, vInO, vCallP, vCallB, vTupleO, vListO, vLenO, List.getElem?_cons_zero, List.getElem?_cons_succ, List.set_cons_zero, List.set_cons_succ, List.length_cons, List.length_nil, startS, List.map_cons, List.map_nil, List.replicate_succ, List.replicate_zero, List.cons_append, List.nil_append, denP, denB, denS, endP, endB, Nat.sub_self, Nat.reduceSub])
local macro_rules | `(tactic| walk_at "ev0") => `(tactic| simp only [okTo_bind, okTo_ok, okTo_noErr, okTo_when, R.bind_ok, seqF, vAsg, vVar, vC, vOp, vUn, vCall, vCons, vNil, vTup, vLst, vFr, vLstF, vTst, toB, toI, gI, gIC, gIB, gNeg, gInt, gLen, gEq, gNe, eqF, vAnd, vOr, vNot, tNotF, tAndF, tOrF, vIfS, vIf, vNext, vRet, vRetN, vDrop, vOwn, vFrz, frzS, aName, vFor, vScr, vRange1, vApp, ownD, vIxO, vSetI, gIxL, gIxT, vInO, vCallP, vCallB, vTupleO, vListO, vLenO, List.getElem?_cons_zero, List.getElem?_cons_succ, List.set_cons_zero, List.set_cons_succ, List.length_cons, List.length_nil, startS, List.map_cons, List.map_nil, List.replicate_succ, List.replicate_zero, List.cons_append, List.nil_append, denP, denB, denS, endP, endB, Nat.sub_self, Nat.reduceSub])
theorem cMulS_l {i j : Int} (h : -(2 ^ 64) < i ∧ i < 2 ^ 64) : cMulS i j = true := decide_eq_true (.inl h)
theorem cMulS_r {i j : Int} (h : -(2 ^ 64) < j ∧ j < 2 ^ 64) : cMulS i j = true := decide_eq_true (.inr h)
theorem cMod_ok {i j : Int} (h : j ≠ 0) : cMod i j = true := decide_eq_true h
theorem pow_small {n k : Nat} (h : n < 2 ^ 64) (hk : 64 ≤ k) : n < 2 ^ k := Nat.lt_of_lt_of_le h (Nat.pow_le_pow_right (by decide) hk)
theorem cFdiv_ok {i j : Int} (h : j ≠ 0) (h2 : j.natAbs < 2 ^ 64) : cFdiv i j = true := decide_eq_true ⟨h, pow_small h2 (by decide)⟩
theorem cMul_ok {i j : Int} (h : i.natAbs < 2 ^ 64) (h2 : j.natAbs < 2 ^ 64) : cMul i j = true := decide_eq_true ⟨pow_small h (by decide), pow_small h2 (by decide)⟩
theorem modN {i m : Int} (h : 0 < m) : 0 ≤ i.fmod m ∧ i.fmod m < m := ⟨Int.fmod_nonneg_of_pos i h, Int.fmod_lt_of_pos i h⟩
/-- one statement, then the rest -/
theorem seq_ok {fa fb : VS} {S : SS} {k : FL → Prop} (h : (fa S).okTo fun fl => match fl with
    | .nx S1 => (fb S1).okTo k
    | f => k f) : (vSeq fa fb S).okTo k := by
  unfold vSeq
  rw [okTo_bind]
  refine h.mono fun fl q => ?_
  cases fl <;> exact q
theorem ite_ok {c : Prop} [Decidable c] {α : Type} {x y : R α} {k : α → Prop} (h1 : c → x.okTo k) (h2 : ¬ c → y.okTo k) : (if c then x else y).okTo k := by
  by_cases h : c
  · rw [if_pos h]
    exact h1 h
  · rw [if_neg h]
    exact h2 h
theorem tape_ok {ns : List Int} {k : PyData → Prop} (hn : ns.length ≤ 63) (h : ∀ ts, TapeOk ts → k (dL ts)) : (den_l_tape ns).okTo k := by
  unfold den_l_tape body_l_tape
  walk_at "ev"
  refine ⟨by decide, loop_ok (fun i S => ∃ (ts : List Int) (a b c d : Option SV), S = [some (.scr ns), some (.own (ts.map PyData.int)), a, b, c, d] ∧ (∀ x ∈ ts, 0 ≤ x ∧ x < 2147483629) ∧ ts.length ≤ 40 * i) ?_ ?_ ⟨[], _, _, _, _, rfl, by simp, by simp⟩⟩
  · rintro i d S hi ⟨ts, a, b, c, e, rfl, hb, hl⟩
    rw [List.getElem?_map] at hi
    obtain ⟨z, hz, rfl⟩ := Option.map_eq_some_iff.mp hi
    have hi63 := (List.getElem?_eq_some_iff.mp hz).1
    walk_at "ev0"
    refine seq_ok ?_
    walk_at "ev0"
    refine ⟨cMulS_l (by decide), seq_ok ?_⟩
    refine R.okTo.mono (k := fun fl => ∃ m : Int, 0 ≤ m ∧ fl = .nx [some (.scr ns), some (.own (ts.map PyData.int)), some (.dat (.int z)), some (.dat (.int m)), c, e]) ?_ ?_
    · walk_at "ev0"
      refine ite_ok (fun q => ?_) (fun q => ?_)
      · have := of_decide_eq_true q
        exact ⟨_, by omega, rfl⟩
      · have : ¬ (2 * z < 0) := fun w => q (decide_eq_true w)
        exact ⟨_, by omega, rfl⟩
    · rintro fl ⟨m, hm, rfl⟩
      walk_at "ev"
      refine ⟨by decide, ite_ok (fun _ => ?_) (fun _ => ?_)⟩
      · walk_at "ev0"
        refine ⟨by decide, ?_⟩
        refine loop_ok (fun j S => ∃ (us : List Int) (m : Int) (c : Option SV), S = [some (.scr ns), some (.own (us.map PyData.int)), some (.dat (.int z)), some (.dat (.int m)), c, e] ∧ 0 ≤ m ∧ (∀ x ∈ us, 0 ≤ x ∧ x < 2147483629) ∧ us.length ≤ 40 * i + j) ?_ ?_ ⟨ts, m, _, rfl, hm, hb, hl⟩
        · rintro j d S hj ⟨us, m, c, rfl, hm, hu, hul⟩
          obtain ⟨hj1, rfl⟩ := rangeD_get hj
          have hj2 : j < 40 := hj1
          walk_at "ev"
          refine ite_ok (fun _ => ?_) (fun _ => ?_)
          · walk_at "ev"
            refine ⟨cMod_ok (by decide), by rw [List.length_map]; omega, cFdiv_ok (by decide) (by decide), us ++ [m.fmod 1000], m.fdiv 1000, _, by rw [List.map_append]; rfl, Int.fdiv_nonneg hm (by decide), tape_app hu (modN (by decide)).1 (by have := (modN (i := m) (m := 1000) (by decide)).2; omega), ?_⟩
            rw [List.length_append, List.length_singleton]
            omega
          · exact ⟨us, m, _, rfl, hm, hu, by omega⟩
        · rintro S ⟨us, m, c, rfl, hm, hu, hul⟩
          have : (rangeD 0 (Int.toNat 40)).length = 40 := rangeD_len
          rw [this] at hul
          exact ⟨us, _, _, _, _, rfl, hu, by omega⟩
      · walk_at "ev0"
        refine ⟨by decide, ?_⟩
        refine loop_ok (fun j S => ∃ (us : List Int) (c e : Option SV), S = [some (.scr ns), some (.own (us.map PyData.int)), some (.dat (.int z)), some (.dat (.int m)), c, e] ∧ (∀ x ∈ us, 0 ≤ x ∧ x < 2147483629) ∧ us.length ≤ 40 * i + j) ?_ ?_ ⟨ts, _, _, rfl, hb, hl⟩
        · rintro j d S hj ⟨us, c, e, rfl, hu, hul⟩
          obtain ⟨hj1, rfl⟩ := rangeD_get hj
          have hj2 : j < 3 := hj1
          walk_at "ev"
          refine ⟨cMulS_r (by decide), cMulS_r (by decide), cMod_ok (by decide), cMulS_r (by decide), cFdiv_ok (by decide) (by decide), cMod_ok (by decide), by rw [List.length_map]; omega, us ++ [_], _, _, by rw [List.map_append]; rfl, tape_app hu (modN (by decide)).1 (modN (by decide)).2, ?_⟩
          rw [List.length_append, List.length_singleton]
          omega
        · rintro S ⟨us, c, e, rfl, hu, hul⟩
          have : (rangeD 0 (Int.toNat 3)).length = 3 := rangeD_len
          rw [this] at hul
          exact ⟨us, _, _, _, _, rfl, hu, by omega⟩
  · rintro S ⟨ts, a, b, c, d, rfl, hb, hl⟩
    walk_at "ev"
    rw [List.length_map] at hl
    exact h ts ⟨hb, by omega⟩
theorem ixD_nat {ds : List PyData} {j : Nat} {d : PyData} (h : ds[j]? = some d) : ixD ds (j : Int) = .ok d := by
  unfold ixD
  rw [atI_nat h]
theorem ixD_int {ts : List Int} {i : Int} (h0 : 0 ≤ i) (h1 : i < (ts.length : Int)) : ∃ z ∈ ts, ixD (ts.map PyData.int) i = .ok (.int z) := by
  obtain ⟨j, rfl⟩ : ∃ j : Nat, i = (j : Int) := ⟨i.toNat, by omega⟩
  have hj : j < ts.length := by omega
  exact ⟨ts[j], List.getElem_mem hj, ixD_nat (by rw [List.getElem?_map, List.getElem?_eq_getElem hj]; rfl)⟩
/-- a draw below m -/
theorem draw_ok {ts : List Int} {at_ m : Int} {k : PyData → Prop} (ok : TapeOk ts) (h0 : 0 ≤ at_) (h1 : at_ ≤ 2 ^ 41) (hm : 0 < m) (h : ∀ r : Int, 0 ≤ r → r < m → k (.int r)) : (den_l_draw [dL ts, .int at_, .int m]).okTo k := by
  obtain ⟨hb, hl⟩ := ok
  unfold den_l_draw body_l_draw dL
  walk_at "ev0"
  refine seq_ok ?_
  walk_at "ev0"
  refine ite_ok (fun c => ?_) (fun c => ?_)
  · have c' := of_decide_eq_true c
    rw [List.length_map] at c'
    obtain ⟨z, _, e⟩ := ixD_int h0 c'
    rw [e]
    walk_at "ev"
    exact ⟨cMod_ok (by omega), h _ (modN hm).1 (modN hm).2⟩
  · walk_at "ev0"
    refine seq_ok ?_
    walk_at "ev0"
    refine seq_ok ?_
    refine R.okTo.mono (k := fun fl => ∃ n : Int, 0 ≤ n ∧ n < 2147483629 ∧ fl = .nx [some (.dat (.list (ts.map PyData.int))), some (.dat (.int at_)), some (.dat (.int m)), some (.dat (.int n))]) ?_ ?_
    · walk_at "ev"
      refine ite_ok (fun q => ?_) (fun q => ⟨1, by decide, by decide, rfl⟩)
      have q' := of_decide_eq_true q
      obtain ⟨z, hz, e⟩ := ixD_int (ts := ts) (i := at_.fmod ((ts.map PyData.int).length : Int)) (modN q').1 (by have := (modN (i := at_) q').2; rw [List.length_map] at this ⊢; exact this)
      walk_at "ev"
      refine ⟨cMod_ok (by omega), ?_⟩
      rw [e]
      exact ⟨z, (hb z hz).1, (hb z hz).2, rfl⟩
    · rintro fl ⟨n, n0, n1, rfl⟩
      walk_at "ev"
      exact ⟨cMul_ok (by omega) (by omega), cMulS_r (by decide), cMulS_r (by decide), cMod_ok (by decide), cMod_ok (by omega), h _ (modN hm).1 (modN hm).2⟩
/-- the law's state: the tape and the place -/
def Box (ts : List Int) (n : Int) (bs : List PyData) : Prop := TapeOk ts ∧ ∃ i : Int, 0 ≤ i ∧ i ≤ n ∧ bs = [dL ts, .int i]
theorem take_ok {ts : List Int} {n m : Int} {bs : List PyData} {k : PyData × List PyData → Prop} (b : Box ts n bs) (hn : n ≤ 2 ^ 40) (hm : 0 < m) (h : ∀ (r : Int) bs', 0 ≤ r → r < m → Box ts (n + 1) bs' → k (.int r, bs')) : (den_l_take bs [.int m]).okTo k := by
  obtain ⟨ok, i, i0, i1, rfl⟩ := b
  unfold den_l_take body_l_take
  walk_at "ev"
  have e1 : ixD [dL ts, .int i] 1 = .ok (.int i) := rfl
  have e2 : ixN ([dL ts, PyData.int i].length) 1 = some 1 := rfl
  rw [e1]
  walk_at "ev"
  have e2 : ixN (0 + 1 + 1) 1 = some 1 := rfl
  rw [e2]
  walk_at "ev"
  have e3 : ixD [dL ts, .int (i + 1)] 0 = .ok (dL ts) := rfl
  have e4 : ixD [dL ts, .int (i + 1)] 1 = .ok (.int (i + 1)) := rfl
  rw [e3]
  walk_at "ev"
  rw [e4]
  walk_at "ev"
  refine ⟨trivial, draw_ok ok (by omega) (by omega) hm fun r r0 r1 => ?_⟩
  exact h r _ r0 r1 ⟨ok, i + 1, by omega, by omega, rfl⟩
end Bo

/-! ### the drawn systems -/
namespace Bo
open PySem L2
abbrev Cho := Int × List (Int × Int)
def dC (c : Cho) : PyData := .tuple [.int c.1, .tuple (c.2.map prD)]
def dS (s : List Cho) : PyData := .tuple (s.map dC)
def dY (y : List (List Cho)) : PyData := .tuple (y.map dS)
structure ChoOk (m b : Nat) (c : Cho) : Prop where
  cost : 0 ≤ c.1 ∧ c.1 ≤ 1000
  ne : c.2 ≠ []
  len : c.2.length ≤ b
  ends : ∀ e ∈ c.2, 0 ≤ e.1 ∧ e.1 < (m : Int) ∧ 1 ≤ e.2 ∧ e.2 ≤ 1000
  rise : c.2.Pairwise fun x y => x.1 < y.1
structure SysOk (q b : Nat) (y : List (List Cho)) : Prop where
  ne : 1 ≤ y.length
  len : y.length ≤ 20
  st : ∀ s ∈ y, 1 ≤ s.length ∧ s.length ≤ q
  cho : ∀ s ∈ y, ∀ c ∈ s, ChoOk y.length b c
/-- an item of a written list by a draw -/
theorem pick_ok {ns : List Int} {r : Int} {k : PyData → Prop} (h0 : 0 ≤ r) (h1 : r < (ns.length : Int)) (h : ∀ z ∈ ns, k (.int z)) : (ixD (ns.map PyData.int) r).okTo k := by
  obtain ⟨z, hz, e⟩ := ixD_int h0 h1
  exact okTo_eq e (h z hz)
local macro_rules | `(tactic| walk_at "ev0") => `(tactic| simp only [okTo_bind, okTo_ok, okTo_noErr, okTo_when, R.bind_ok, seqF, vAsg, vVar, vC, vOp, vUn, vCall, vCons, vNil, vTup, vLst, vFr, vLstF, vTst, toB, toI, gI, gIC, gIB, gNeg, gInt, gLen, gEq, gNe, eqF, vAnd, vOr, vNot, tNotF, vYes, gTuple, gList, gRevL, wipeS, backS, okS, vIfS, vIf, vNext, vRet, vRetN, vDrop, vOwn, vFrz, frzS, aName, vFor, vScr, vRange1, vApp, ownD, vIxO, vSetI, gIxL, gIxT, vInO, vCallP, vCallB, vTupleO, vListO, vLenO, vLc, List.getElem?_cons_zero, List.getElem?_cons_succ, List.set_cons_zero, List.set_cons_succ, List.length_cons, List.length_nil, startS, List.map_cons, List.map_nil, List.replicate_succ, List.replicate_zero, List.cons_append, List.nil_append, denP, denB, denS, endP, endB, Nat.sub_self, Nat.reduceSub, Nat.reduceAdd, List.all_cons, List.all_nil, Bool.and_true, SV.mine, Bool.not_false, Option.join_some, true_and, and_true])
theorem Box.up {ts : List Int} {n m : Int} {bs : List PyData} (b : Box ts n bs) (h : n ≤ m) : Box ts m bs := by
  obtain ⟨ok, i, i0, i1, e⟩ := b
  exact ⟨ok, i, i0, by omega, e⟩
theorem rise_app {l : List (Int × Int)} {x : Int × Int} (h : l.Pairwise fun x y => x.1 < y.1) (hx : ∀ e ∈ l, e.1 < x.1) : (l ++ [x]).Pairwise fun x y => x.1 < y.1 :=
  List.pairwise_append.mpr ⟨h, List.pairwise_singleton _ _, fun a ha b hb => by rw [List.mem_singleton.mp hb]; exact hx a ha⟩
theorem ends_ok {ts : List Int} {n : Int} {m : Nat} {bs : List PyData} {k : PyData × List PyData → Prop} (b : Box ts n bs) (hm : 1 ≤ m ∧ m ≤ 20) (hn : n ≤ 2 ^ 39) (h : ∀ (es : List (Int × Int)) bs', es ≠ [] → es.length ≤ m → (∀ e ∈ es, 0 ≤ e.1 ∧ e.1 < (m : Int) ∧ 1 ≤ e.2 ∧ e.2 ≤ 1000) → (es.Pairwise fun x y => x.1 < y.1) → Box ts (n + 50) bs' → k (.tuple (es.map prD), bs')) : (den_l_ends bs [.int (m : Int)]).okTo k := by
  unfold den_l_ends body_l_ends
  walk_at "ev0"
  refine seq_ok ?_
  walk_at "ev0"
  refine ⟨by decide, seq_ok ?_⟩
  walk_at "ev0"
  refine take_ok b (by omega) (by omega) fun f bs1 f0 f1 b1 => seq_ok ?_
  walk_at "ev0"
  refine ⟨⟨by omega, by omega⟩, loop_ok (fun i S => ∃ (es : List (Int × Int)) (bs : List PyData) (g : Option SV), S = [some (.own bs), some (.dat (.int (m : Int))), some (.own (es.map prD)), some (.dat (.int f)), g] ∧ Box ts (n + 1 + 2 * i) bs ∧ es.length ≤ i ∧
    (∀ e ∈ es, 0 ≤ e.1 ∧ e.1 < (i : Int) ∧ 1 ≤ e.2 ∧ e.2 ≤ 1000) ∧ (es.Pairwise fun x y => x.1 < y.1) ∧ (f < (i : Int) → es ≠ [])) ?_ ?_ ⟨[], bs1, _, rfl, b1.up (by omega), Nat.le_refl _, by simp, .nil, fun z => by omega⟩⟩
  · rintro i d S hi ⟨es, bs2, g, rfl, b2, hl, he, hr, hf⟩
    obtain ⟨hi1, rfl⟩ := rangeD_get hi
    rw [Int.toNat_natCast] at hi1
    have z0 : (0 : Int) + (i : Nat) = (i : Int) := Int.zero_add _
    rw [z0]
    walk_at "ev0"
    unfold tOrF
    walk_at "ev0"
    -- the pair is put in
    have put : ∀ {bs3 : List PyData}, Box ts (n + 2 + 2 * i) bs3 → (vDrop (vApp 2 (vTup (vCons (vVar 4) (vCons (vOp gIxL (vLst (vCons (vC (.int 1)) (vCons (vC (.int 1)) (vCons (vC (.int 2)) (vCons (vC (.int 3)) (vCons (vC (.int 10)) (vCons (vC (.int 1000)) vNil))))))) (vCallB 1 den_l_take 0 (vCons (vC (.int 6)) vNil))) vNil))))
        [some (.own bs3), some (.dat (.int (m : Int))), some (.own (es.map prD)), some (.dat (.int f)), some (.dat (.int (i : Int)))]).okTo fun fl => match fl with
      | .nx S2 => ∃ (es : List (Int × Int)) (bs : List PyData) (g : Option SV), S2 = [some (.own bs), some (.dat (.int (m : Int))), some (.own (es.map prD)), some (.dat (.int f)), g] ∧ Box ts (n + 1 + 2 * (i + 1 : Nat)) bs ∧ es.length ≤ i + 1 ∧
        (∀ e ∈ es, 0 ≤ e.1 ∧ e.1 < ((i + 1 : Nat) : Int) ∧ 1 ≤ e.2 ∧ e.2 ≤ 1000) ∧ (es.Pairwise fun x y => x.1 < y.1) ∧ (f < ((i + 1 : Nat) : Int) → es ≠ [])
      | _ => False := fun {bs3} b3 => by
      walk_at "ev0"
      refine ⟨by decide, take_ok b3 (by omega) (by omega) fun r bs4 r0 r1 b4 => ?_⟩
      walk_at "ev0"
      refine pick_ok (ns := [1, 1, 2, 3, 10, 1000]) r0 (by simpa using r1) fun z hz => ⟨by decide, by rw [List.length_map]; omega, ?_⟩
      have hz2 : 1 ≤ z ∧ z ≤ 1000 := by
        simp only [List.mem_cons, List.not_mem_nil, or_false] at hz
        omega
      refine ⟨es ++ [((i : Int), z)], bs4, _, by rw [List.map_append]; rfl, b4.up (by omega), by rw [List.length_append, List.length_singleton]; omega, fun e q => ?_, rise_app hr fun e q => (he e q).2.1, fun _ q => by simp at q⟩
      rcases List.mem_append.mp q with q | q
      · have := he e q
        omega
      · rw [List.mem_singleton.mp q]
        exact ⟨by show (0 : Int) ≤ i; omega, by show (i : Int) < _; omega, hz2⟩
    refine ite_ok (fun c => ?_) (fun c => ?_)
    · walk_at "ev0"
      refine (put (b2.up (by omega))).mono fun fl q => ?_
      cases fl <;> first | exact q | exact q.elim
    · walk_at "ev0"
      refine take_ok b2 (by omega) (by omega) fun r bs3 r0 r1 b3 => ?_
      walk_at "ev0"
      refine ite_ok (fun _ => ?_) (fun _ => ?_)
      · refine (put (b3.up (by omega))).mono fun fl q => ?_
        cases fl <;> first | exact q | exact q.elim
      · refine ⟨es, bs3, _, rfl, b3.up (by omega), by omega, fun e q => by have := he e q; omega, hr, fun z => hf ?_⟩
        have : ¬ (i : Int) = f := fun q => c (decide_eq_true q)
        omega
  · rintro S ⟨es, bs2, g, rfl, b2, hl, he, hr, hf⟩
    rw [rangeD_len, Int.toNat_natCast] at b2 hl he hf
    walk_at "ev0"
    exact h es bs2 (hf (by omega)) hl he hr (b2.up (by omega))
theorem choices_ok {ts : List Int} {n q : Int} {m : Nat} {bs : List PyData} {k : PyData × List PyData → Prop} (b : Box ts n bs) (hm : 1 ≤ m ∧ m ≤ 20) (hn : n ≤ 2 ^ 38) (hq : 1 ≤ q ∧ q ≤ 6)
    (h : ∀ (s : List Cho) bs', 1 ≤ s.length → (s.length : Int) ≤ q → (∀ c ∈ s, ChoOk m m c) → Box ts (n + 400) bs' → k (dS s, bs')) : (den_l_choices bs [.int (m : Int), .int q]).okTo k := by
  unfold den_l_choices body_l_choices
  walk_at "ev0"
  refine seq_ok ?_
  walk_at "ev0"
  refine ⟨by decide, seq_ok ?_⟩
  walk_at "ev0"
  refine take_ok b (by omega) (by omega) fun r bs1 r0 r1 b1 => ?_
  walk_at "ev0"
  refine ⟨⟨by omega, by omega⟩, loop_ok (fun i S => ∃ (s : List Cho) (bs : List PyData) (g : Option SV), S = [some (.own bs), some (.dat (.int (m : Int))), some (.dat (.int q)), some (.own (s.map dC)), g] ∧ Box ts (n + 1 + 51 * i) bs ∧ s.length = i ∧ ∀ c ∈ s, ChoOk m m c) ?_ ?_ ⟨[], bs1, _, rfl, b1.up (by omega), rfl, by simp⟩⟩
  · rintro i d S hi ⟨s, bs2, g, rfl, b2, hl, hc⟩
    obtain ⟨hi1, rfl⟩ := rangeD_get hi
    have hi6 : i < 6 := by omega
    walk_at "ev0"
    refine ⟨by decide, take_ok b2 (by omega) (by omega) fun x bs3 x0 x1 b3 => ?_⟩
    walk_at "ev0"
    refine pick_ok (ns := [0, 1, 2, 5, 1000]) x0 (by simpa using x1) fun z hz => ?_
    refine ends_ok b3 hm (by omega) fun es bs4 e1 e2 e3 e4 b4 => ?_
    walk_at "ev0"
    refine ⟨by decide, by rw [List.length_map]; omega, s ++ [(z, es)], bs4, _, by rw [List.map_append]; rfl, b4.up (by omega), by rw [List.length_append, List.length_singleton, hl], fun c q => ?_⟩
    rcases List.mem_append.mp q with q | q
    · exact hc c q
    · rw [List.mem_singleton.mp q]
      refine ⟨?_, e1, e2, e3, e4⟩
      simp only [List.mem_cons, List.not_mem_nil, or_false] at hz
      show 0 ≤ z ∧ z ≤ 1000
      omega
  · rintro S ⟨s, bs2, g, rfl, b2, hl, hc⟩
    rw [rangeD_len] at b2 hl
    walk_at "ev0"
    exact h s bs2 (by omega) (by omega) hc (b2.up (by omega))
theorem system_ok {ts : List Int} {n q : Int} {bs : List PyData} {k : PyData × List PyData → Prop} (b : Box ts n bs) (hn : n ≤ 2 ^ 37) (hq : 1 ≤ q ∧ q ≤ 20)
    (h : ∀ (y : List (List Cho)) bs', SysOk 3 y.length y → (y.length : Int) ≤ q → Box ts (n + 10000) bs' → k (dY y, bs')) : (den_l_system bs [.int q]).okTo k := by
  unfold den_l_system body_l_system
  walk_at "ev0"
  refine seq_ok ?_
  walk_at "ev0"
  refine take_ok b (by omega) (by omega) fun r bs1 r0 r1 b1 => ?_
  obtain ⟨m, hm⟩ : ∃ m : Nat, 1 + r = (m : Int) := ⟨(1 + r).toNat, by omega⟩
  walk_at "ev0"
  rw [hm]
  refine ⟨⟨by omega, by omega⟩, by rw [rangeD_len]; omega, ?_⟩
  refine lc_ok (fun i acc S => ∃ (y : List (List Cho)) (bs : List PyData), S = [some (.own bs), some (.dat (.int q)), some (.dat (.int (m : Int))), none] ∧ acc = y.map dS ∧ Box ts (n + 1 + 400 * i) bs ∧ y.length = i ∧ ∀ s ∈ y, (1 ≤ s.length ∧ s.length ≤ 3) ∧ ∀ c ∈ s, ChoOk m m c) ?_ ?_ ⟨[], bs1, rfl, rfl, b1.up (by omega), rfl, by simp⟩
  · rintro i d acc S hi ⟨y, bs2, rfl, rfl, b2, hl, hs⟩
    obtain ⟨hi1, rfl⟩ := rangeD_get hi
    rw [Int.toNat_natCast] at hi1
    walk_at "ev0"
    rw [if_pos trivial]
    refine choices_ok b2 (by omega) (by omega) (by decide) fun s bs3 s1 s2 s3 b3 => ?_
    refine ⟨y ++ [s], bs3, rfl, by rw [List.map_append]; rfl, b3.up (by omega), by rw [List.length_append, List.length_singleton, hl], fun t q => ?_⟩
    rcases List.mem_append.mp q with q | q
    · exact hs t q
    · rw [List.mem_singleton.mp q]
      exact ⟨⟨s1, by omega⟩, s3⟩
  · rintro acc S ⟨y, bs2, rfl, rfl, b2, hl, hs⟩
    rw [rangeD_len, Int.toNat_natCast] at b2 hl
    subst hl
    walk_at "ev0"
    exact h y bs2 ⟨by omega, by omega, fun s m => (hs s m).1, fun s m => (hs s m).2⟩ (by omega) (b2.up (by omega))
/-- a set of states -/
theorem some_ok {ts : List Int} {n q : Int} {m : Nat} {bs : List PyData} {k : PyData × List PyData → Prop} (b : Box ts n bs) (hn : n ≤ 2 ^ 39) (hm : m ≤ 20) (hq : 1 ≤ q)
    (h : ∀ (l : List Int) bs', l.Nodup → (∀ x ∈ l, 0 ≤ x ∧ x < (m : Int)) → l.length ≤ m → Box ts (n + 30) bs' → k (dL l, bs')) : (den_l_some bs [.int (m : Int), .int q]).okTo k := by
  unfold den_l_some body_l_some
  walk_at "ev0"
  refine seq_ok ?_
  walk_at "ev0"
  refine ⟨⟨by omega, by omega⟩, by rw [rangeD_len]; omega, ?_⟩
  refine lc_ok (fun i acc S => ∃ (l : List Int) (bs : List PyData), S = [some (.own bs), some (.dat (.int (m : Int))), some (.dat (.int q)), none, none] ∧ acc = l.map PyData.int ∧ Box ts (n + i) bs ∧ l.length ≤ i ∧ l.Nodup ∧ ∀ x ∈ l, 0 ≤ x ∧ x < (i : Int)) ?_ ?_ ⟨[], bs, rfl, rfl, b.up (by omega), Nat.le_refl _, .nil, by simp⟩
  · rintro i d acc S hi ⟨l, bs2, rfl, rfl, b2, hl, nd, hx⟩
    obtain ⟨hi1, rfl⟩ := rangeD_get hi
    rw [Int.toNat_natCast] at hi1
    have z0 : (0 : Int) + (i : Nat) = (i : Int) := Int.zero_add _
    rw [z0]
    walk_at "ev0"
    refine take_ok b2 (by omega) (by omega) fun r bs3 r0 r1 b3 => ?_
    walk_at "ev0"
    by_cases c : decide (r = 0) = true
    · rw [if_pos c]
      refine ⟨l ++ [(i : Int)], bs3, rfl, by rw [List.map_append]; rfl, b3.up (by omega), by rw [List.length_append, List.length_singleton]; omega, ?_, fun x q => ?_⟩
      · refine List.nodup_append.mpr ⟨nd, by simp, fun a ha b hb => ?_⟩
        rw [List.mem_singleton.mp hb]
        have := hx a ha
        omega
      · rcases List.mem_append.mp q with q | q
        · have := hx x q
          omega
        · rw [List.mem_singleton.mp q]
          omega
    · rw [if_neg c]
      exact ⟨l, bs3, rfl, rfl, b3.up (by omega), by omega, nd, fun x q => by have := hx x q; omega⟩
  · rintro acc S ⟨l, bs2, rfl, rfl, b2, hl, nd, hx⟩
    rw [rangeD_len, Int.toNat_natCast] at b2 hl hx
    walk_at "ev0"
    refine seq_ok ?_
    walk_at "ev0"
    refine take_ok b2 (by omega) (by omega) fun r bs3 r0 r1 b3 => ?_
    walk_at "ev0"
    refine ite_ok (fun c => ?_) (fun c => ?_)
    · walk_at "ev0"
      have e : PyData.list (l.map PyData.int).reverse = dL l.reverse := by
        unfold dL
        rw [List.map_reverse]
      rw [e]
      exact h l.reverse bs3 (((List.reverse_perm l).nodup_iff.mpr nd)) (fun x q => hx x (List.mem_reverse.mp q)) (by rw [List.length_reverse]; exact hl) (b3.up (by omega))
    · walk_at "ev0"
      exact h l bs3 nd hx hl (b3.up (by omega))
theorem intKs_ints : ∀ ps : List (Int × Int), intKs (ps.map fun e => ((.inl e.1 : Key), PyData.int e.2)) = some ps
  | [] => rfl
  | (i, j) :: ps => by
    show (intKs (ps.map fun e => ((.inl e.1 : Key), PyData.int e.2))).map ((i, j) :: ·) = _
    rw [intKs_ints ps]
    rfl
/-- a pair put into a dict of ints by ints -/
def putP (ps : List (Int × Int)) (i j : Int) : List (Int × Int) := if (ps.any fun e => decide (e.1 = i)) = true then ps.map (fun e => if e.1 = i then (e.1, j) else e) else ps ++ [(i, j)]
theorem putD_ints (ps : List (Int × Int)) (i j : Int) : putD (ps.map fun e => ((.inl e.1 : Key), PyData.int e.2)) (.inl i) (.int j) = (putP ps i j).map fun e => ((.inl e.1 : Key), PyData.int e.2) := by
  have e1 : ((ps.map fun e => ((.inl e.1 : Key), PyData.int e.2)).any fun kv => decide (kv.1 = (Sum.inl i : Key))) = ps.any fun e => decide (e.1 = i) := by
    rw [List.any_map]
    congr 1
    funext e
    show decide ((Sum.inl e.1 : Key) = Sum.inl i) = _
    by_cases q : e.1 = i
    · rw [decide_eq_true q, decide_eq_true (by rw [q])]
    · rw [decide_eq_false q, decide_eq_false fun z => q (Sum.inl.inj z)]
  unfold putD putP
  rw [e1]
  split
  · rw [List.map_map, List.map_map]
    refine List.map_congr_left fun e _ => ?_
    show (if (Sum.inl e.1 : Key) = Sum.inl i then _ else _) = _
    by_cases q : e.1 = i
    · rw [if_pos (by rw [q])]
      show _ = ((fun e : Int × Int => ((Sum.inl e.1 : Key), PyData.int e.2)) (if e.1 = i then (e.1, j) else e))
      rw [if_pos q]
    · rw [if_neg fun z => q (Sum.inl.inj z)]
      show _ = ((fun e : Int × Int => ((Sum.inl e.1 : Key), PyData.int e.2)) (if e.1 = i then (e.1, j) else e))
      rw [if_neg q]
  · rw [List.map_append]
    rfl
theorem putP_mem {ps : List (Int × Int)} {i j : Int} {e : Int × Int} (h : e ∈ putP ps i j) : e ∈ ps ∨ e = (i, j) := by
  unfold putP at h
  split at h
  · obtain ⟨f, h1, h2⟩ := List.mem_map.mp h
    by_cases q : f.1 = i
    · rw [if_pos q] at h2
      exact .inr (by rw [← h2, q])
    · rw [if_neg q] at h2
      exact .inl (by rw [← h2]; exact h1)
  · rcases List.mem_append.mp h with h | h
    · exact .inl h
    · exact .inr (List.mem_singleton.mp h)
theorem putP_len {ps : List (Int × Int)} {i j : Int} : (putP ps i j).length ≤ ps.length + 1 ∧ putP ps i j ≠ [] := by
  unfold putP
  split
  · rename_i h
    refine ⟨by rw [List.length_map]; omega, fun e => ?_⟩
    rw [List.map_eq_nil_iff.mp e] at h
    cases h
  · exact ⟨by rw [List.length_append, List.length_singleton]; omega, by simp⟩
theorem putP_nd {ps : List (Int × Int)} {i j : Int} (h : (ps.map (·.1)).Nodup) : ((putP ps i j).map (·.1)).Nodup := by
  unfold putP
  split
  · rw [List.map_map]
    have : ((fun e : Int × Int => e.1) ∘ fun e : Int × Int => if e.1 = i then (e.1, j) else e) = fun e => e.1 := by
      funext e
      show (if e.1 = i then (e.1, j) else e).1 = e.1
      split <;> rfl
    rw [this]
    exact h
  · rename_i q
    rw [List.map_append]
    refine List.nodup_append.mpr ⟨h, by simp, fun a ha b hb e => ?_⟩
    have hb' : b = i := by simpa using hb
    obtain ⟨f, h1, h2⟩ := List.mem_map.mp ha
    refine q (List.any_eq_true.mpr ⟨f, h1, decide_eq_true ?_⟩)
    rw [h2, e, hb']
theorem large_ok {ts : List Int} {n : Int} {m : Nat} {bs : List PyData} {k : PyData × List PyData → Prop} (b : Box ts n bs) (hn : n ≤ 2 ^ 37) (hm : 1 ≤ m ∧ m ≤ 20)
    (h : ∀ (y : List (List Cho)) bs', SysOk 6 6 y → y.length = m → Box ts (n + 10000) bs' → k (dY y, bs')) : (den_l_large bs [.int (m : Int)]).okTo k := by
  unfold den_l_large body_l_large
  walk_at "ev0"
  refine seq_ok ?_
  walk_at "ev0"
  refine ⟨by decide, seq_ok ?_⟩
  walk_at "ev0"
  refine ⟨⟨by omega, by omega⟩, loop_ok (fun i S => ∃ (y : List (List Cho)) (bs : List PyData) (a c d e f : Option SV), S = [some (.own bs), some (.dat (.int (m : Int))), some (.own (y.map dS)), a, c, d, e, f] ∧ Box ts (n + 400 * i) bs ∧ y.length = i ∧ ∀ s ∈ y, (1 ≤ s.length ∧ s.length ≤ 6) ∧ ∀ c ∈ s, ChoOk m 6 c) ?_ ?_
    ⟨[], bs, _, _, _, _, _, rfl, b.up (by omega), rfl, by simp⟩⟩
  · rintro i d S hi ⟨y, bs2, a, c, d1, e, f, rfl, b2, hl, hs⟩
    obtain ⟨hi1, rfl⟩ := rangeD_get hi
    rw [Int.toNat_natCast] at hi1
    walk_at "ev0"
    refine seq_ok ?_
    walk_at "ev0"
    refine ⟨by decide, seq_ok ?_⟩
    walk_at "ev0"
    refine ⟨by decide, take_ok b2 (by omega) (by omega) fun r bs3 r0 r1 b3 => ?_⟩
    walk_at "ev0"
    refine pick_ok (ns := [1, 2, 6]) r0 (by simpa using r1) fun w hw => ?_
    have hw6 : 1 ≤ w ∧ w ≤ 6 := by
      simp only [List.mem_cons, List.not_mem_nil, or_false] at hw
      omega
    walk_at "ev0"
    refine ⟨by omega, loop_ok (fun j S => ∃ (s : List Cho) (bs : List PyData) (d e f : Option SV), S = [some (.own bs), some (.dat (.int (m : Int))), some (.own (y.map dS)), some (.dat (.int (0 + (i : Nat)))), some (.own (s.map dC)), d, e, f] ∧ Box ts (n + 400 * i + 1 + 30 * j) bs ∧ s.length = j ∧ ∀ c ∈ s, ChoOk m 6 c) ?_ ?_
      ⟨[], bs3, _, _, _, rfl, b3.up (by omega), rfl, by simp⟩⟩
    · rintro j d S hj ⟨s, bs4, d2, e2, f2, rfl, b4, hl2, hc⟩
      obtain ⟨hj1, rfl⟩ := rangeD_get hj
      walk_at "ev0"
      refine seq_ok ?_
      unfold vNewD
      walk_at "ev0"
      refine seq_ok ?_
      walk_at "ev0"
      refine take_ok b4 (by omega) (by omega) fun r2 bs5 r20 r21 b5 => ?_
      walk_at "ev0"
      refine ⟨by omega, loop_ok (fun l S => ∃ (ps : List (Int × Int)) (bs : List PyData) (f : Option SV), S = [some (.own bs), some (.dat (.int (m : Int))), some (.own (y.map dS)), some (.dat (.int (0 + (i : Nat)))), some (.own (s.map dC)), some (.dat (.int (0 + (j : Nat)))), some (.dic (ps.map fun e => ((.inl e.1 : Key), PyData.int e.2))), f] ∧
        Box ts (n + 400 * i + 1 + 30 * j + 1 + 2 * l) bs ∧ ps.length ≤ l ∧ (0 < l → ps ≠ []) ∧ (ps.map (·.1)).Nodup ∧ ∀ e ∈ ps, 0 ≤ e.1 ∧ e.1 < (m : Int) ∧ 1 ≤ e.2 ∧ e.2 ≤ 1000) ?_ ?_
        ⟨[], bs5, _, rfl, b5.up (by omega), Nat.le_refl _, fun z => absurd z (by decide), .nil, by simp⟩⟩
      · rintro l d S hl3 ⟨ps, bs6, f3, rfl, b6, hpl, hpn, hnd, hpe⟩
        obtain ⟨hl4, rfl⟩ := rangeD_get hl3
        walk_at "ev0"
        unfold vPutD dicD keyD
        walk_at "ev0"
        refine ⟨by decide, take_ok b6 (by omega) (by omega) fun r3 bs7 r30 r31 b7 => ?_⟩
        walk_at "ev0"
        refine pick_ok (ns := [1, 1, 2, 5, 1000]) r30 (by simpa using r31) fun z hz => ?_
        refine take_ok b7 (by omega) (by omega) fun g bs8 g0 g1 b8 => ?_
        walk_at "ev0"
        refine ⟨by rw [List.length_map]; omega, putP ps g z, bs8, _, by rw [putD_ints], b8.up (by omega), by have := (putP_len (ps := ps) (i := g) (j := z)).1; omega, fun _ => putP_len.2, putP_nd hnd, fun e q => ?_⟩
        rcases putP_mem q with q | q
        · exact hpe e q
        · rw [q]
          simp only [List.mem_cons, List.not_mem_nil, or_false] at hz
          show 0 ≤ g ∧ g < (m : Int) ∧ 1 ≤ z ∧ z ≤ 1000
          omega
      · rintro S ⟨ps, bs6, f3, rfl, b6, hpl, hpn, hnd, hpe⟩
        rw [rangeD_len] at b6 hpl hpn
        walk_at "ev0"
        refine take_ok b6 (by omega) (by omega) fun x bs7 x0 x1 b7 => ?_
        unfold vSortK dicD
        walk_at "ev0"
        rw [intKs_ints]
        walk_at "ev0"
        refine ⟨⟨by omega, hnd⟩, by decide, by rw [List.length_map]; omega, s ++ [(x, sortP ps)], bs7, _, _, _, by rw [List.map_append]; rfl, b7.up (by omega), by rw [List.length_append, List.length_singleton, hl2], fun c q => ?_⟩
        rcases List.mem_append.mp q with q | q
        · exact hc c q
        · rw [List.mem_singleton.mp q]
          have pm := sortP_perm ps
          refine ⟨⟨x0, by show x ≤ 1000; omega⟩, fun e => hpn (by omega) ?_, ?_, fun e q => hpe e (pm.mem_iff.mp q), sortP_rise hnd⟩
          · have e' : sortP ps = [] := e
            rw [e'] at pm
            exact List.nil_perm.mp pm
          · show (sortP ps).length ≤ 6
            rw [pm.length_eq]
            omega
    · rintro S ⟨s, bs4, d2, e2, f2, rfl, b4, hl2, hc⟩
      rw [rangeD_len] at b4 hl2
      walk_at "ev0"
      refine ⟨by rw [List.length_map]; omega, y ++ [s], bs4, _, _, _, _, _, by rw [List.map_append]; rfl, b4.up (by omega), by rw [List.length_append, List.length_singleton, hl], fun t q => ?_⟩
      rcases List.mem_append.mp q with q | q
      · exact hs t q
      · rw [List.mem_singleton.mp q]
        exact ⟨by omega, hc⟩
  · rintro S ⟨y, bs2, a, c, d1, e, f, rfl, b2, hl, hs⟩
    rw [rangeD_len, Int.toNat_natCast] at b2 hl
    subst hl
    walk_at "ev0"
    exact h y bs2 ⟨hm.1, hm.2, fun s q => (hs s q).1, fun s q => (hs s q).2⟩ rfl (b2.up (by omega))
/-- a policy -/
theorem policy_ok {ts : List Int} {n : Int} {q c : Nat} {y : List (List Cho)} {bs : List PyData} {k : PyData × List PyData → Prop} (b : Box ts n bs) (hn : n ≤ 2 ^ 39) (hy : SysOk q c y)
    (h : ∀ (p : List Int) bs', p.length = y.length → (∀ (i : Nat) s r, y[i]? = some s → p[i]? = some r → 0 ≤ r ∧ r < (s.length : Int)) → Box ts (n + 20) bs' → k (.tuple (p.map PyData.int), bs')) : (den_l_drawn_policy bs [dY y]).okTo k := by
  unfold den_l_drawn_policy body_l_drawn_policy dY vIterT
  have hl := hy.len
  walk_at "ev0"
  refine ⟨by rw [List.length_map]; omega, ?_⟩
  refine lc_ok (fun i acc S => ∃ (p : List Int) (bs : List PyData), S = [some (.own bs), some (.dat (.tuple (y.map dS))), none] ∧ acc = p.map PyData.int ∧ Box ts (n + i) bs ∧ p.length = i ∧ ∀ (j : Nat) s r, y[j]? = some s → p[j]? = some r → 0 ≤ r ∧ r < (s.length : Int)) ?_ ?_ ⟨[], bs, rfl, rfl, b.up (by omega), rfl, by simp⟩
  · rintro i d acc S hi ⟨p, bs2, rfl, rfl, b2, hl2, hp⟩
    rw [List.getElem?_map] at hi
    obtain ⟨s, hs, rfl⟩ := Option.map_eq_some_iff.mp hi
    have hi20 := (List.getElem?_eq_some_iff.mp hs).1
    have s1 := (hy.st s (List.mem_of_getElem? hs)).1
    unfold dS
    walk_at "ev0"
    rw [if_pos trivial]
    refine take_ok b2 (by omega) (by rw [List.length_map]; omega) fun r bs3 r0 r1 b3 => ?_
    rw [List.length_map] at r1
    refine ⟨p ++ [r], bs3, rfl, by rw [List.map_append]; rfl, b3.up (by omega), by rw [List.length_append, List.length_singleton, hl2], fun j t x e1 e2 => ?_⟩
    rcases Nat.lt_or_ge j p.length with hj | hj
    · rw [List.getElem?_append_left hj] at e2
      exact hp j t x e1 e2
    · rw [List.getElem?_append_right hj] at e2
      have hj0 : j - p.length = 0 := by
        have := (List.getElem?_eq_some_iff.mp e2).1
        rw [List.length_singleton] at this
        omega
      rw [hj0] at e2
      cases e2
      have : j = i := by omega
      subst this
      rw [hs] at e1
      cases e1
      exact ⟨r0, r1⟩
  · rintro acc S ⟨p, bs2, rfl, rfl, b2, hl2, hp⟩
    rw [List.length_map] at b2 hl2
    walk_at "ev0"
    exact h p bs2 hl2 hp (b2.up (by omega))
end Bo

/-! ### the program's sure states: what its defs are worth -/
namespace Bo
open PySem L2
def body_choices_on_way : VS :=
    (vSeq (vOwn 3 (vLstF vNil))
    (vSeq (vFor (vEnumK .T (vCons (vVar 0) vNil)) (aTup 2 (aCons (aName 4) (aCons (aName 5) aNil))) (vSeq (vAsg (vAnd (vOp (gIn false) (vVar 4) (vVar 1)) (vOp (gIn true) (vVar 4) (vVar 2))) (aName 6))
    (vDrop (vApp 3 (vIf (vTst (vVar 6)) (vFr (vListRg (vCall gLen (vCons (vVar 5) vNil)))) (vLst vNil))))))
    (vFrz 3 (vRet (vVar 3)))))
def den_choices_on_way := denP 7 body_choices_on_way
def body_found_states : VS :=
    (vRet (vFr (vLc [1, 2] (vEnumK .L (vCons (vVar 0) vNil)) (aTup 2 (aCons (aName 1) (aCons (aName 2) aNil))) (vTst (vOp (fun d e => R.when (isNone e = true) (.ok (.bool (!isNone d)))) (vVar 2) (vC .none))) (vVar 1))))
def den_found_states := denP 3 body_found_states
def body_leads_into : VS :=
    (vRet (vCall (gBools fun bs => .bool (bs.any id)) (vCons (vFr (vLc [2, 3] (vIterT (vOp gIxT (vVar 0) (vC (.int 1)))) (aTup 2 (aCons (aName 2) (aCons (aName 3) aNil))) vYes (vOp (fun d e => R.when (isNone e = true) (.ok (.bool (!isNone d)))) (vOp gIxL (vVar 1) (vVar 2)) (vC .none)))) vNil)))
def den_leads_into := denP 4 body_leads_into
def body_joins : VS :=
    (vSeq (vAsg (vFr (vLc [5] (vIter (vVar 1)) (aName 5) vYes (vCallP 2 den_leads_into (vCons (vOp gIxT (vVar 0) (vVar 5)) (vCons (vVar 2) vNil))))) (aName 4))
    (vSeq (vIfS (vTst (vVar 3)) (vRet (vAnd (vOp gNeD (vVar 1) (vLst vNil)) (vCall (gBools fun bs => .bool (bs.all id)) (vCons (vVar 4) vNil)))) vNext)
    (vRet (vCall (gBools fun bs => .bool (bs.any id)) (vCons (vVar 4) vNil)))))
def den_joins := denP 6 body_joins
def body_levels : VS :=
    (vSeq (vOwn 4 (vRepF (vLst (vCons (vC .none) vNil)) (vCall gLen (vCons (vVar 0) vNil))))
    (vSeq (vFor (vIter (vVar 2)) (aName 5) (vSetI 4 (vVar 5) (vC (.int 0))))
    (vSeq (vAsg (vC (.int 0)) (aName 6))
    (vSeq (vWhile (vTst (vInO false (vVar 6) 4)) (vSeq (vAug 6 (fun i j => i + j) (vC (.int 1)))
    (vSeq (vAsg (vFr (vLcO true 4 [5, 8] (aTup 2 (aCons (aName 5) (aCons (aName 8) aNil))) (tAndF (vTst (vOp (fun d e => R.when (isNone e = true) (.ok (.bool (isNone d)))) (vVar 8) (vC .none))) (vTst (vCallL 4 den_joins (vCons (vOp gIxT (vVar 0) (vVar 5)) (vCons (vOp gIxL (vVar 1) (vVar 5)) (vConsO 4 (vCons (vVar 3) vNil))))))) (vVar 5))) (aName 7))
    (vFor (vIter (vVar 7)) (aName 5) (vSetI 4 (vVar 5) (vVar 6))))))
    (vFrz 4 (vRet (vVar 4)))))))
def den_levels := denP 9 body_levels
def body_possible : VS :=
    (vSeq (vAsg (vCallP 3 den_choices_on_way (vCons (vVar 0) (vCons (vVar 1) (vCons (vVar 2) vNil)))) (aName 3))
    (vRet (vCallP 1 den_found_states (vCons (vCallP 4 den_levels (vCons (vVar 0) (vCons (vVar 3) (vCons (vVar 2) (vCons (vC (.bool false)) vNil))))) vNil))))
def den_possible := denP 4 body_possible
def body_avoidable : VS :=
    (vSeq (vAsg (vCallP 3 den_choices_on_way (vCons (vVar 0) (vCons (vVar 1) (vCons (vVar 2) vNil)))) (aName 3))
    (vSeq (vAsg (vCallP 4 den_levels (vCons (vVar 0) (vCons (vVar 3) (vCons (vVar 2) (vCons (vC (.bool true)) vNil))))) (aName 4))
    (vRet (vFr (vLc [5, 6] (vEnumK .L (vCons (vVar 4) vNil)) (aTup 2 (aCons (aName 5) (aCons (aName 6) aNil))) (vTst (vOp (fun d e => R.when (isNone e = true) (.ok (.bool (isNone d)))) (vVar 6) (vC .none))) (vVar 5))))))
def den_avoidable := denP 7 body_avoidable
def body_stays_in : VS :=
    (vRet (vCall (gBools fun bs => .bool (bs.all id)) (vCons (vFr (vLc [2, 3] (vIterT (vOp gIxT (vVar 0) (vC (.int 1)))) (aTup 2 (aCons (aName 2) (aCons (aName 3) aNil))) vYes (vOp (fun d e => R.when (isNone e = true) (.ok (.bool (!isNone d)))) (vOp gIxL (vVar 1) (vVar 2)) (vC .none)))) vNil)))
def den_stays_in := denP 4 body_stays_in
def body_attainable : VS :=
    (vSeq (vAsg (vCallP 3 den_choices_on_way (vCons (vVar 0) (vCons (vVar 1) (vCons (vVar 2) vNil)))) (aName 3))
    (vWhile (vTst (vC (.bool true))) (vSeq (vAsg (vCallP 4 den_levels (vCons (vVar 0) (vCons (vVar 3) (vCons (vVar 2) (vCons (vC (.bool false)) vNil))))) (aName 4))
    (vSeq (vOwn 5 (vLstF vNil))
    (vSeq (vFor (vZipK .T .L (vCons (vVar 0) (vCons (vVar 3) vNil))) (aTup 2 (aCons (aName 6) (aCons (aName 7) aNil))) (vDrop (vApp 5 (vFr (vLc [8] (vIter (vVar 7)) (aName 8) (vTst (vCallP 2 den_stays_in (vCons (vOp gIxT (vVar 6) (vVar 8)) (vCons (vVar 4) vNil)))) (vVar 8))))))
    (vSeq (vFrz 5 (vIfS (vTst (vOp gEqD (vVar 5) (vVar 3))) (vRet (vCallP 1 den_found_states (vCons (vVar 4) vNil))) vNext))
    (vAsg (vVar 5) (aName 3))))))))
def den_attainable := denP 9 body_attainable
def body_certain : VS :=
    (vSeq (vAsg (vCallP 3 den_choices_on_way (vCons (vVar 0) (vCons (vVar 1) (vCons (vVar 2) vNil)))) (aName 3))
    (vSeq (vAsg (vCallP 4 den_levels (vCons (vVar 0) (vCons (vVar 3) (vCons (vCallP 3 den_avoidable (vCons (vVar 0) (vCons (vVar 1) (vCons (vVar 2) vNil)))) (vCons (vC (.bool false)) vNil))))) (aName 4))
    (vRet (vFr (vLc [5, 6] (vEnumK .L (vCons (vVar 4) vNil)) (aTup 2 (aCons (aName 5) (aCons (aName 6) aNil))) (vTst (vOp (fun d e => R.when (isNone e = true) (.ok (.bool (isNone d)))) (vVar 6) (vC .none))) (vVar 5))))))
def den_certain := denP 7 body_certain
end Bo

/-! ### stepping through what code is worth -/
namespace Bo
open PySem L2
section
variable {S S' : SS} {fa fb fc : VE} {ft fu : VT} {fr : VA} {fs ft' : VS} {ff : VF} {fo fp : VO} {i j m : Nat} {d e : PyData} {ds es : List PyData}
variable {kE : PyData × SS → Prop} {kT : Bool × SS → Prop} {kA : List PyData × SS → Prop} {kS : FL → Prop} {kO : Option Int × SS → Prop} {kG : SS → Prop} {kD : PyData → Prop}
theorem w_var (h : S[i]? = some (some (.dat d))) (q : kE (d, S)) : (vVar i S).okTo kE := by
  unfold vVar
  rw [h]
  exact q
theorem w_c (q : kE (d, S)) : (vC d S).okTo kE := q
theorem w_op {g : PyData → PyData → R PyData} (h : (fa S).okTo fun p => (fb p.2).okTo fun q => (g p.1 q.1).okTo fun z => kE (z, q.2)) : (vOp g fa fb S).okTo kE := by
  unfold vOp
  simp only [okTo_bind]
  exact h
theorem w_un {g : PyData → R PyData} (h : (fa S).okTo fun p => (g p.1).okTo fun z => kE (z, p.2)) : (vUn g fa S).okTo kE := by
  unfold vUn
  simp only [okTo_bind]
  exact h
theorem w_and (h : (fa S).okTo fun p => (toB p.1).okTo fun b => if b = true then (fb p.2).okTo kE else kE (.bool false, p.2)) : (vAnd fa fb S).okTo kE := by
  unfold vAnd
  simp only [okTo_bind]
  refine h.mono fun p q => q.mono fun b q => ?_
  cases b <;> exact q
theorem w_or (h : (fa S).okTo fun p => (toB p.1).okTo fun b => if b = true then kE (.bool true, p.2) else (fb p.2).okTo kE) : (vOr fa fb S).okTo kE := by
  unfold vOr
  simp only [okTo_bind]
  refine h.mono fun p q => q.mono fun b q => ?_
  cases b <;> exact q
theorem w_not (h : (fa S).okTo fun p => (toB p.1).okTo fun b => kE (.bool (!b), p.2)) : (vNot fa S).okTo kE := by
  unfold vNot
  simp only [okTo_bind]
  exact h
theorem w_toB {b : Bool} {k : Bool → Prop} (q : k b) : (toB (.bool b)).okTo k := q
theorem w_toI {b : Int} {k : Int → Prop} (q : k b) : (toI (.int b)).okTo k := q
theorem w_tst (h : (fa S).okTo fun p => (toB p.1).okTo fun b => kT (b, p.2)) : (vTst fa S).okTo kT := by
  unfold vTst
  simp only [okTo_bind]
  exact h
theorem w_tnot (h : (ft S).okTo fun p => kT (!p.1, p.2)) : (tNotF ft S).okTo kT := by
  unfold tNotF
  simp only [okTo_bind]
  exact h
theorem w_tand (h : (ft S).okTo fun p => if p.1 = true then (fu p.2).okTo kT else kT (false, p.2)) : (tAndF ft fu S).okTo kT := by
  unfold tAndF
  simp only [okTo_bind]
  refine h.mono fun p q => ?_
  by_cases c : p.1 = true
  · rw [if_pos c] at q ⊢
    exact q
  · rw [if_neg c] at q ⊢
    exact q
theorem w_tor (h : (ft S).okTo fun p => if p.1 = true then kT (true, p.2) else (fu p.2).okTo kT) : (tOrF ft fu S).okTo kT := by
  unfold tOrF
  simp only [okTo_bind]
  refine h.mono fun p q => ?_
  by_cases c : p.1 = true
  · rw [if_pos c] at q ⊢
    exact q
  · rw [if_neg c] at q ⊢
    exact q
theorem w_tru (h : (fa S).okTo fun p => (truD p.1).okTo fun b => kT (b, p.2)) : (vTru fa S).okTo kT := by
  unfold vTru
  simp only [okTo_bind]
  exact h
theorem w_if (h : (ft S).okTo fun p => if p.1 = true then (fa p.2).okTo kE else (fb p.2).okTo kE) : (vIf ft fa fb S).okTo kE := by
  unfold vIf
  simp only [okTo_bind]
  refine h.mono fun p q => ?_
  by_cases c : p.1 = true
  · rw [if_pos c] at q ⊢
    exact q
  · rw [if_neg c] at q ⊢
    exact q
theorem w_chain {g g' : PyData → PyData → R PyData} (h : (fa S).okTo fun p => (fb p.2).okTo fun q => (g p.1 q.1).okTo fun z => (toB z).okTo fun b => if b = true then (fc q.2).okTo fun r => (g' q.1 r.1).okTo fun z => kE (z, r.2) else kE (.bool false, q.2)) : (vChain g g' fa fb fc S).okTo kE := by
  unfold vChain
  simp only [okTo_bind]
  refine h.mono fun p h => h.mono fun q h => h.mono fun z h => h.mono fun b h => ?_
  cases b
  · exact h
  · simp only [if_true, okTo_bind] at h ⊢
    exact h
theorem w_nil (q : kA ([], S)) : (vNil S).okTo kA := q
theorem w_cons (h : (fa S).okTo fun p => (fr p.2).okTo fun q => kA (p.1 :: q.1, q.2)) : (vCons fa fr S).okTo kA := by
  unfold vCons
  simp only [okTo_bind]
  exact h
theorem w_tup (h : (fr S).okTo fun p => p.1.length ≤ 100000 ∧ kE (.tuple p.1, p.2)) : (vTup fr S).okTo kE := by
  unfold vTup
  simp only [okTo_bind, okTo_when]
  exact h
theorem w_lst (h : (fr S).okTo fun p => p.1.length ≤ 100000 ∧ kE (.list p.1, p.2)) : (vLst fr S).okTo kE := by
  unfold vLst
  simp only [okTo_bind, okTo_when]
  exact h
theorem w_lstF (h : (fr S).okTo fun p => p.1.length ≤ 100000 ∧ kA p) : (vLstF fr S).okTo kA := by
  unfold vLstF
  simp only [okTo_bind, okTo_when]
  exact h
theorem w_call {g : List PyData → R PyData} (h : (fr S).okTo fun p => (g p.1).okTo fun z => kE (z, p.2)) : (vCall g fr S).okTo kE := by
  unfold vCall
  simp only [okTo_bind]
  exact h
theorem w_callP {g : List PyData → R PyData} (h : (fr S).okTo fun p => p.1.length = m ∧ (g p.1).okTo fun z => kE (z, p.2)) : (vCallP m g fr S).okTo kE := by
  unfold vCallP
  simp only [okTo_bind, okTo_when, okTo_noErr]
  exact h
theorem w_callL {g : List PyData → R PyData} (h : (fr S).okTo fun p => p.1.length = m ∧ (g p.1).okTo fun z => flatD z = true ∧ kE (z, p.2)) : (vCallL m g fr S).okTo kE := by
  unfold vCallL
  simp only [okTo_bind, okTo_when, okTo_noErr]
  exact h
theorem w_own (h : S[i]? = some (some (.own ds))) {k : List PyData → Prop} (q : k ds) : (ownD S i).okTo k := by
  unfold ownD
  rw [h]
  exact q
theorem w_callB {g : List PyData → List PyData → R (PyData × List PyData)} (h : (ownD S i).okTo fun _ => (fr S).okTo fun p => (ownD p.2 i).okTo fun bs => p.1.length = m ∧ (g bs p.1).okTo fun z => kE (z.1, p.2.set i (some (.own z.2)))) : (vCallB m g i fr S).okTo kE := by
  unfold vCallB
  simp only [okTo_bind, okTo_when, okTo_noErr]
  exact h
theorem w_callS {g : List Int → R PyData} {ns : List Int} (h : S[i]? = some (some (.scr ns))) (q : (g ns).okTo fun z => kE (z, S)) : (vCallS g i S).okTo kE := by
  unfold vCallS
  rw [h]
  simp only [okTo_bind, okTo_noErr]
  exact q
theorem w_consO (h : (ownD S i).okTo fun _ => (fr S).okTo fun q => (ownD q.2 i).okTo fun ds => kA (.list ds :: q.1, q.2)) : (vConsO i fr S).okTo kA := by
  unfold vConsO
  simp only [okTo_bind]
  exact h
theorem w_fr (h : (ff S).okTo fun p => kE (.list p.1, p.2)) : (vFr ff S).okTo kE := by
  unfold vFr
  simp only [okTo_bind]
  exact h
theorem w_lenO (h : (ownD S i).okTo fun ds => kE (.int ds.length, S)) : (vLenO i S).okTo kE := by
  unfold vLenO
  simp only [okTo_bind]
  exact h
theorem w_tupleO (h : (ownD S i).okTo fun ds => kE (.tuple ds, S)) : (vTupleO i S).okTo kE := by
  unfold vTupleO
  simp only [okTo_bind]
  exact h
theorem w_listO (h : (ownD S i).okTo fun ds => kA (ds, S)) : (vListO i S).okTo kA := by
  unfold vListO
  simp only [okTo_bind]
  exact h
theorem w_ixO (h : (ownD S i).okTo fun _ => (fa S).okTo fun p => (ownD p.2 i).okTo fun ds => (toI p.1).okTo fun k => (ixD ds k).okTo fun d => kE (d, p.2)) : (vIxO i fa S).okTo kE := by
  unfold vIxO
  simp only [okTo_bind]
  exact h
theorem w_inO {neg : Bool} (h : (fa S).okTo fun p => (ownD p.2 i).okTo fun ds => (flatD p.1 = true ∧ ds.all flatD = true) ∧ kE (.bool (if neg then !inD p.1 ds else inD p.1 ds), p.2)) : (vInO neg fa i S).okTo kE := by
  unfold vInO
  simp only [okTo_bind, okTo_when]
  exact h
theorem w_truO (h : (ownD S i).okTo fun ds => kT (!ds.isEmpty, S)) : (vTruO i S).okTo kT := by
  unfold vTruO
  simp only [okTo_bind]
  exact h
theorem w_app (h : (ownD S i).okTo fun _ => (fa S).okTo fun p => (ownD p.2 i).okTo fun ds => ds.length < 100000 ∧ kE (.none, p.2.set i (some (.own (ds ++ [p.1]))))) : (vApp i fa S).okTo kE := by
  unfold vApp
  simp only [okTo_bind, okTo_when]
  exact h
theorem w_setI (h : (fb S).okTo fun p => (ownD p.2 i).okTo fun _ => (fa p.2).okTo fun q => (ownD q.2 i).okTo fun ds => (toI q.1).okTo fun k => ∃ j, ixN ds.length k = some j ∧ kS (.nx (q.2.set i (some (.own (ds.set j p.1)))))) : (vSetI i fa fb S).okTo kS := by
  unfold vSetI
  simp only [okTo_bind]
  refine h.mono fun p h => h.mono fun _ h => h.mono fun q h => h.mono fun ds h => h.mono fun k h => ?_
  obtain ⟨j, e, h⟩ := h
  rw [e]
  exact h
theorem w_sl {g : PyData → Option Int → Option Int → R PyData} (h : (fa S).okTo fun p => (fo p.2).okTo fun l => (fp l.2).okTo fun h => (g p.1 l.1 h.1).okTo fun z => kE (z, h.2)) : (vSl g fa fo fp S).okTo kE := by
  unfold vSl
  simp only [okTo_bind]
  exact h
theorem w_noPart (q : kO (none, S)) : (vNoPart S).okTo kO := q
theorem w_part (h : (fa S).okTo fun p => (toI p.1).okTo fun i => kO (some i, p.2)) : (vPart fa S).okTo kO := by
  unfold vPart
  simp only [okTo_bind]
  exact h
theorem w_iter (h : (fa S).okTo fun p => ∃ ds, p.1 = .list ds ∧ kA (ds, p.2)) : (vIter fa S).okTo kA := by
  unfold vIter
  simp only [okTo_bind]
  refine h.mono fun p ⟨ds, e, q⟩ => ?_
  rw [e]
  exact q
theorem w_iterT (h : (fa S).okTo fun p => ∃ ds, p.1 = .tuple ds ∧ kA (ds, p.2)) : (vIterT fa S).okTo kA := by
  unfold vIterT
  simp only [okTo_bind]
  refine h.mono fun p ⟨ds, e, q⟩ => ?_
  rw [e]
  exact q
theorem w_range1 (h : (fr S).okTo fun p => ∃ j, p.1 = [.int j] ∧ (-1000000 ≤ j ∧ j ≤ 1000000) ∧ kA (rangeD 0 j.toNat, p.2)) : (vRange1 fr S).okTo kA := by
  unfold vRange1
  simp only [okTo_bind]
  refine h.mono fun p ⟨j, e, c, q⟩ => ?_
  rw [e]
  exact okTo_when.mpr ⟨c, q⟩
theorem w_listRg (h : (fa S).okTo fun p => (toI p.1).okTo fun j => (-1000000 ≤ j ∧ j ≤ 1000000) ∧ kA (rangeD 0 j.toNat, p.2)) : (vListRg fa S).okTo kA := by
  unfold vListRg
  simp only [okTo_bind, okTo_when]
  exact h
theorem w_enumK {kd : Kd} (h : (fr S).okTo fun p => ∃ d ds, p.1 = [d] ∧ kdD kd d = some ds ∧ kA (enumD ds, p.2)) : (vEnumK kd fr S).okTo kA := by
  unfold vEnumK
  simp only [okTo_bind]
  refine h.mono fun p ⟨d, ds, e, c, q⟩ => ?_
  rw [e]
  simp only [c]
  exact q
theorem w_zipK {k l : Kd} (h : (fr S).okTo fun p => ∃ d e ds es, p.1 = [d, e] ∧ kdD k d = some ds ∧ kdD l e = some es ∧ kA (zipD ds es, p.2)) : (vZipK k l fr S).okTo kA := by
  unfold vZipK
  simp only [okTo_bind]
  refine h.mono fun p ⟨d, e, ds, es, e1, c1, c2, q⟩ => ?_
  rw [e1]
  simp only [c1, c2]
  exact q
theorem w_repF (h : (fa S).okTo fun p => (fb p.2).okTo fun q => ∃ ds k, p.1 = .list ds ∧ q.1 = .int k ∧ (ds.length * k.toNat ≤ 100000 ∧ k ≤ 100000 ∧ -100000 ≤ k) ∧ kA ((List.replicate k.toNat ds).flatten, q.2)) : (vRepF fa fb S).okTo kA := by
  unfold vRepF
  simp only [okTo_bind]
  refine h.mono fun p h => h.mono fun q ⟨ds, k, e1, e2, c, h⟩ => ?_
  rw [e1, e2]
  exact okTo_when.mpr ⟨c, h⟩
theorem w_lc {fg : PyData → SS → R SS} {vs : List Nat} (h : (ff S).okTo fun p => (okS vs p.2 = true ∧ p.1.length ≤ 100000) ∧ (lcF fg ft fa vs p.1 (wipeS p.2 vs)).okTo fun r => kA (r.1, backS p.2 r.2 vs)) : (vLc vs ff fg ft fa S).okTo kA := by
  unfold vLc
  simp only [okTo_bind, okTo_when]
  exact h
theorem w_yes (q : kT (true, S)) : (vYes S).okTo kT := q
/-! statements -/
theorem w_seq (h : (fs S).okTo fun fl => match fl with
    | .nx S1 => (ft' S1).okTo kS
    | f => kS f) : (vSeq fs ft' S).okTo kS := seq_ok h
theorem w_next (q : kS (.nx S)) : (vNext S).okTo kS := q
theorem w_ret (h : (fa S).okTo fun p => kS (.rt p.1 p.2)) : (vRet fa S).okTo kS := by
  unfold vRet
  simp only [okTo_bind]
  exact h
theorem w_retN (q : kS (.rt .none S)) : (vRetN S).okTo kS := q
theorem w_drop (h : (fa S).okTo fun p => kS (.nx p.2)) : (vDrop fa S).okTo kS := by
  unfold vDrop
  simp only [okTo_bind]
  exact h
theorem w_asg {fg : PyData → SS → R SS} (h : (fa S).okTo fun p => (fg p.1 p.2).okTo fun S1 => kS (.nx S1)) : (vAsg fa fg S).okTo kS := by
  unfold vAsg
  simp only [okTo_bind]
  exact h
theorem w_aName (q : kG (S.set i (some (.dat d)))) : (aName i d S).okTo kG := q
theorem w_aTup {fg : List PyData → SS → R SS} (c : ds.length = m) (q : (fg ds S).okTo kG) : (aTup m fg (.tuple ds) S).okTo kG := okTo_when.mpr ⟨c, q⟩
theorem w_aNil (q : kG S) : (aNil [] S).okTo kG := q
theorem w_aCons {fg : PyData → SS → R SS} {fgs : List PyData → SS → R SS} (q : (fg d S).okTo fun S1 => (fgs ds S1).okTo kG) : (aCons fg fgs (d :: ds) S).okTo kG := by
  unfold aCons
  simp only [okTo_bind]
  exact q
theorem w_ifS (h : (ft S).okTo fun p => if p.1 = true then (fs p.2).okTo kS else (ft' p.2).okTo kS) : (vIfS ft fs ft' S).okTo kS := by
  unfold vIfS
  simp only [okTo_bind]
  refine h.mono fun p q => ?_
  by_cases c : p.1 = true
  · rw [if_pos c] at q ⊢
    exact q
  · rw [if_neg c] at q ⊢
    exact q
theorem w_ownS (h : (ff S).okTo fun p => kS (.nx (p.2.set i (some (.own p.1))))) : (vOwn i ff S).okTo kS := by
  unfold vOwn
  simp only [okTo_bind]
  exact h
theorem w_frz (h : S[i]? = some (some (.own ds))) (q : (fs (S.set i (some (.dat (.list ds))))).okTo kS) : (vFrz i fs S).okTo kS := by
  unfold vFrz frzS
  rw [h]
  exact q
theorem w_for {fg : PyData → SS → R SS} (h : (ff S).okTo fun p => (loopF fg fs p.1 p.2).okTo kS) : (vFor ff fg fs S).okTo kS := by
  unfold vFor
  simp only [okTo_bind]
  exact h
theorem w_aug {f : Int → Int → Int} {a : Int} (h : S[i]? = some (some (.dat (.int a)))) (q : (fa S).okTo fun p => (toI p.1).okTo fun b => kS (.nx (p.2.set i (some (.dat (.int (f a b))))))) : (vAug i f fa S).okTo kS := by
  unfold vAug
  rw [h]
  simp only [okTo_bind]
  exact q
/-! values -/
theorem w_gI {f : Int → Int → Int} {a b : Int} (q : kD (.int (f a b))) : (gI f (.int a) (.int b)).okTo kD := q
theorem w_gIB {f : Int → Int → Bool} {a b : Int} (q : kD (.bool (f a b))) : (gIB f (.int a) (.int b)).okTo kD := q
theorem w_gIC {c : Int → Int → Bool} {f : Int → Int → Int} {a b : Int} (h : c a b = true ∧ kD (.int (f a b))) : (gIC c f (.int a) (.int b)).okTo kD := okTo_when.mpr h
theorem w_gEqI {a b : Int} (q : kD (.bool (decide (a = b)))) : (gEq (.int a) (.int b)).okTo kD := q
theorem w_gNeI {a b : Int} (q : kD (.bool (!decide (a = b)))) : (gNe (.int a) (.int b)).okTo kD := q
theorem w_gIxL {a : Int} (q : (ixD ds a).okTo kD) : (gIxL (.list ds) (.int a)).okTo kD := q
theorem w_gIxT {a : Int} (q : (ixD ds a).okTo kD) : (gIxT (.tuple ds) (.int a)).okTo kD := q
theorem w_gCat (h : ds.length + es.length ≤ 100000 ∧ kD (.list (ds ++ es))) : (gCat (.list ds) (.list es)).okTo kD := okTo_when.mpr h
theorem w_gCatT (h : ds.length + es.length ≤ 100000 ∧ kD (.tuple (ds ++ es))) : (gCatT (.tuple ds) (.tuple es)).okTo kD := okTo_when.mpr h
theorem w_isN (q : kD (.bool (isNone d))) : ((fun d e => R.when (isNone e = true) (.ok (.bool (isNone d)))) d PyData.none : R PyData).okTo kD := q
theorem w_notN (q : kD (.bool (!isNone d))) : ((fun d e => R.when (isNone e = true) (.ok (.bool (!isNone d)))) d PyData.none : R PyData).okTo kD := q
theorem w_gInL {neg : Bool} (h : (flatD d = true ∧ ds.all flatD = true) ∧ kD (.bool (if neg then !inD d ds else inD d ds))) : (gIn neg d (.list ds)).okTo kD := okTo_when.mpr h
theorem w_gLenL (q : kD (.int ds.length)) : (gLen [.list ds]).okTo kD := q
theorem w_gLenT (q : kD (.int ds.length)) : (gLen [.tuple ds]).okTo kD := q
theorem w_gIntI {a : Int} (q : kD (.int a)) : (gInt [.int a]).okTo kD := q
theorem w_gTuple (q : kD (.tuple ds)) : (gTuple [.list ds]).okTo kD := q
theorem w_gBools {f : List Bool → PyData} {bs : List Bool} (q : kD (f bs)) : (gBools f [.list (bs.map PyData.bool)]).okTo kD := by
  unfold gBools
  simp only [bools_map]
  exact q
theorem w_gInts {f : List Int → PyData} {bs : List Int} (q : kD (f bs)) : (gInts f [.list (bs.map PyData.int)]).okTo kD := by
  unfold gInts
  simp only [ints_map]
  exact q
theorem w_gNeD (h : (SeqAt.shaped d = true ∧ SeqAt.shaped e = true) ∧ kD (.bool (!PyData.eqv d e))) : (gNeD d e).okTo kD := okTo_when.mpr h
theorem w_gEqD (h : (SeqAt.shaped d = true ∧ SeqAt.shaped e = true) ∧ kD (.bool (PyData.eqv d e))) : (gEqD d e).okTo kD := okTo_when.mpr h
theorem w_gRevL (q : kD (.list ds.reverse)) : (gRevL (.list ds)).okTo kD := q
theorem w_gSlL {lo hi : Option Int} (q : kD (.list (cutD ds lo hi))) : (gSlL (.list ds) lo hi).okTo kD := q
theorem w_gSlT {lo hi : Option Int} (q : kD (.tuple (cutD ds lo hi))) : (gSlT (.tuple ds) lo hi).okTo kD := q
/-! defs -/
theorem w_denP {N : Nat} (h : (fs (startS N ds)).okTo fun fl => match fl with
    | .nx _ => kD .none
    | .rt d _ => kD d
    | _ => False) : (denP N fs ds).okTo kD := by
  unfold denP endP
  simp only [okTo_bind]
  refine h.mono fun fl q => ?_
  cases fl <;> first | exact q | exact q.elim
/-- a while by what holds ahead of its turns, and a number that falls -/
theorem while_ok (I : Nat → SS → Prop) (step : ∀ m S, I m S → (ft S).okTo fun p => if p.1 = true then (fs p.2).okTo fun fl => match fl with
      | .nx S2 => ∃ m', m' < m ∧ I m' S2
      | .ct S2 => ∃ m', m' < m ∧ I m' S2
      | .bk S2 => kS (.nx S2)
      | .rt d S2 => kS (.rt d S2)
      else kS (.nx p.2)) {m : Nat} (hm : m < fuel) (h : I m S) : (vWhile ft fs S).okTo kS := by
  have go : ∀ (f m : Nat) (S : SS), m < f → I m S → (loopW ft fs f S).okTo kS := by
    intro f
    induction f with
    | zero => intro m S h; omega
    | succ f ih =>
      intro m S hm h
      unfold loopW
      rw [okTo_bind]
      refine (step m S h).mono fun p q => ?_
      by_cases c : p.1 = true
      · rw [if_pos c] at q ⊢
        rw [okTo_bind]
        refine q.mono fun fl q => ?_
        cases fl with
        | nx S2 =>
          obtain ⟨m', h1, h2⟩ := q
          exact ih m' S2 (by omega) h2
        | ct S2 =>
          obtain ⟨m', h1, h2⟩ := q
          exact ih m' S2 (by omega) h2
        | bk S2 => exact q
        | rt d S2 => exact q
      · rw [if_neg c] at q ⊢
        exact q
  exact go fuel m S hm h
end
end Bo

/-! ### more steps -/
namespace Bo
open PySem L2
section
variable {S S' : SS} {fa fb fc : VE} {ft fu : VT} {fr : VA} {fs ft' : VS} {ff : VF} {i j m : Nat} {d e : PyData} {ds es : List PyData}
variable {kE : PyData × SS → Prop} {kT : Bool × SS → Prop} {kA : List PyData × SS → Prop} {kS : FL → Prop} {kD : PyData → Prop}
theorem w_itT {a b : Prop} (h : a) : if True then a else b := h
theorem w_itF {a b : Prop} (h : b) : if False then a else b := h
theorem w_itTT {a b : Prop} (h : a) : if true = true then a else b := h
theorem w_itFT {a b : Prop} (h : b) : if false = true then a else b := h
theorem w_gList (q : kD (.list ds)) : (gList [.list ds]).okTo kD := q
theorem w_gSortI {ns : List Int} (q : kD (.list ((ns.mergeSort fun a b => decide (a ≤ b)).map PyData.int))) : (gSortI [.list (ns.map PyData.int)]).okTo kD := by
  unfold gSortI
  simp only [ints_map]
  exact q
theorem w_range2 (h : (fr S).okTo fun p => ∃ i j, p.1 = [.int i, .int j] ∧ ((-1000000 ≤ i ∧ i ≤ 1000000) ∧ -1000000 ≤ j ∧ j ≤ 1000000) ∧ kA (rangeD i (j - i).toNat, p.2)) : (vRange2 fr S).okTo kA := by
  unfold vRange2
  simp only [okTo_bind]
  refine h.mono fun p ⟨i, j, e, c, q⟩ => ?_
  rw [e]
  exact okTo_when.mpr ⟨c, q⟩
theorem w_lcO {pair : Bool} {vs : List Nat} {fg : PyData → SS → R SS} (h0 : S[i]? = some (some (.own ds))) (ok : okS vs S = true) (h : (lcO pair i fg ft fa vs 100000 0 (wipeS S vs)).okTo fun r => kA (r.1, backS S r.2 vs)) : (vLcO pair i vs fg ft fa S).okTo kA := by
  unfold vLcO ownD
  rw [h0]
  simp only [R.bind_ok, okTo_when, okTo_bind]
  exact ⟨ok, h⟩
/-- a comprehension over a slot's list that stays -/
theorem lcO_ok {pair : Bool} {vs : List Nat} {fg : PyData → SS → R SS} (I : Nat → List PyData → SS → Prop) (own : ∀ k acc S, I k acc S → S[i]? = some (some (.own ds))) (hl : ds.length < 100000)
    (step : ∀ k d acc S, ds[k]? = some d → I k acc S → (fg (itO pair k d) S).okTo fun S1 => (ft S1).okTo fun p => if p.1 = true then (fa p.2).okTo fun q => I (k + 1) (acc ++ [q.1]) (wipeS q.2 vs) else I (k + 1) acc (wipeS p.2 vs))
    (done : ∀ acc S, I ds.length acc S → kA (acc, S)) (h0 : I 0 [] S) : (lcO pair i fg ft fa vs 100000 0 S).okTo kA := by
  have go : ∀ (m k : Nat) (acc : List PyData) (S : SS), k + m = 100000 → k ≤ ds.length → I k acc S → (lcO pair i fg ft fa vs m k S).okTo fun r => kA (acc ++ r.1, r.2) := by
    intro m
    induction m with
    | zero => intro k acc S e h; omega
    | succ m ih =>
      intro k acc S e hk h
      unfold lcO ownD
      rw [own k acc S h, R.bind_ok]
      rcases Nat.lt_or_ge k ds.length with c | c
      · rw [List.getElem?_eq_getElem c]
        simp only [okTo_bind]
        refine (step k _ acc S (List.getElem?_eq_getElem c) h).mono fun S1 q => q.mono fun p q => ?_
        by_cases t : p.1 = true
        · rw [if_pos t] at q ⊢
          simp only [okTo_bind]
          refine q.mono fun z q => (ih (k + 1) _ _ (by omega) c q).mono fun r q => ?_
          rw [List.append_assoc] at q
          exact q
        · rw [if_neg t] at q ⊢
          exact ih (k + 1) _ _ (by omega) c q
      · have ek : k = ds.length := by omega
        rw [List.getElem?_eq_none c]
        simp only [okTo_when]
        refine ⟨ek, ?_⟩
        show kA (acc ++ [], S)
        rw [List.append_nil]
        exact done acc S (ek ▸ h)
  exact (go 100000 0 [] S (by omega) (Nat.zero_le _) h0).mono fun r q => q
end
end Bo

/-! ### what can be reached: the four sets of sure states, as predicates -/
namespace Bo
section
variable (E : Nat → Nat → Nat → Prop) (U : Nat → Nat → Prop) (T : Nat → Prop)
/-- some way leads there -/
inductive Rch : Nat → Prop
  | goal {s : Nat} : T s → Rch s
  | step {s k j : Nat} : U s k → E s k j → Rch j → Rch s
/-- all ways may lead there -/
inductive Lch : Nat → Prop
  | goal {s : Nat} : T s → Lch s
  | step {s k : Nat} (f : Nat → Nat) : U s k → (∀ k, U s k → E s k (f k)) → (∀ k, U s k → Lch (f k)) → Lch s
/-- choices from all of whose ends the goals can be reached by such choices -/
def Stab : Prop := ∀ s k, U s k → ∀ j, E s k j → Rch E U T j
def Avo (n : Nat) : Nat → Prop := fun s => s < n ∧ ¬ Lch E U T s
def Att : Nat → Prop := fun s => ∃ V : Nat → Nat → Prop, (∀ s k, V s k → U s k) ∧ Stab E V T ∧ Rch E V T s
def Cer (n : Nat) : Nat → Prop := fun s => s < n ∧ ¬ Rch E U (Avo E U T n) s
end
section
variable {E E' : Nat → Nat → Nat → Prop} {U U' V : Nat → Nat → Prop} {T T' : Nat → Prop} {n : Nat} {s : Nat}
theorem lch_of (h : ∃ k, U s k) (g : ∀ k, U s k → ∃ j, E s k j ∧ Lch E U T j) : Lch E U T s := by
  classical
  obtain ⟨k, hk⟩ := h
  let f : Nat → Nat := fun k => if q : ∃ j, E s k j ∧ Lch E U T j then q.choose else 0
  have hf : ∀ k, U s k → E s k (f k) ∧ Lch E U T (f k) := fun k hk => by
    have q := g k hk
    show E s k (if q : ∃ j, E s k j ∧ Lch E U T j then q.choose else 0) ∧ Lch E U T (if q : ∃ j, E s k j ∧ Lch E U T j then q.choose else 0)
    rw [dif_pos q]
    exact q.choose_spec
  exact .step f hk (fun k h => (hf k h).1) (fun k h => (hf k h).2)
theorem rch_mono (hU : ∀ s k, U s k → T' s ∨ U' s k) (hE : ∀ s k j, U s k → E s k j → E' s k j) (hT : ∀ s, T s → T' s) (h : Rch E U T s) : Rch E' U' T' s := by
  induction h with
  | goal t => exact .goal (hT _ t)
  | step u e _ ih =>
    rcases hU _ _ u with t | u'
    · exact .goal t
    · exact .step u' (hE _ _ _ u e) ih
theorem lch_mono (h1 : ∀ s, T s → T' s) (h2 : ∀ s k, U s k → T' s ∨ ∃ k, U' s k) (h3 : ∀ s k k', U s k → U' s k' → U s k') (h4 : ∀ s k j, U' s k → E s k j → E' s k j) (h : Lch E U T s) : Lch E' U' T' s := by
  induction h with
  | goal t => exact .goal (h1 _ t)
  | step f u e _ ih =>
    rcases h2 _ _ u with t | ⟨k', u'⟩
    · exact .goal t
    · exact .step f u' (fun k z => h4 _ _ _ z (e k (h3 _ _ _ u z))) fun k z => ih k (h3 _ _ _ u z)
theorem lch_rch (h : Lch E U T s) : Rch E U T s := by
  induction h with
  | goal t => exact .goal t
  | step f u e _ ih => exact .step u (e _ u) (ih _ u)
theorem att_rch (h : Att E U T s) : Rch E U T s := by
  obtain ⟨V, h1, h2, h3⟩ := h
  exact rch_mono (fun s k v => .inr (h1 s k v)) (fun _ _ _ _ e => e) (fun _ t => t) h3
theorem cer_att (hn : ∀ s k j, U s k → E s k j → j < n) (h : Cer E U T n s) : Att E U T s := by
  have closed : ∀ s k j, Cer E U T n s → U s k → E s k j → Cer E U T n j := fun s k j c u e => ⟨hn s k j u e, fun r => c.2 (.step u e r)⟩
  have lc : ∀ s, Cer E U T n s → Lch E U T s := fun s c => Classical.byContradiction fun q => c.2 (.goal ⟨c.1, q⟩)
  have reach : ∀ s, Lch E U T s → Cer E U T n s → Rch E (fun s k => U s k ∧ Cer E U T n s) T s := fun s l => by
    induction l with
    | goal t => exact fun _ => .goal t
    | step f u e _ ih => exact fun c => .step ⟨u, c⟩ (e _ u) (ih _ u (closed _ _ _ c u (e _ u)))
  exact ⟨_, fun s k v => v.1, fun s k v j e => reach j (lc j (closed s k j v.2 v.1 e)) (closed s k j v.2 v.1 e), reach s (lc s h) h⟩
theorem cer_avo (h : Cer E U T n s) : ¬ Avo E U T n s := fun a => h.2 (.goal a)
theorem rch_avo (hn : s < n) (h : ¬ Rch E U T s) : Avo E U T n s := ⟨hn, fun l => h (lch_rch l)⟩
/-- more targets -/
structure MoreT (U U' : Nat → Nat → Prop) (T T' : Nat → Prop) : Prop where
  t : ∀ s, T s → T' s
  u : ∀ s k, U s k → T' s ∨ U' s k
  v : ∀ s k, U' s k → U s k
namespace MoreT
variable (M : MoreT U U' T T')
include M
theorem rch (h : Rch E U T s) : Rch E U' T' s := rch_mono M.u (fun _ _ _ _ e => e) M.t h
theorem lch (h : Lch E U T s) : Lch E U' T' s := lch_mono M.t (fun s k u => (M.u s k u).imp id fun z => ⟨k, z⟩) (fun s k k' _ z => M.v s k' z) (fun _ _ _ _ e => e) h
theorem avo (h : Avo E U' T' n s) : Avo E U T n s := ⟨h.1, fun l => h.2 (M.lch l)⟩
theorem att (h : Att E U T s) : Att E U' T' s := by
  obtain ⟨V, h1, h2, h3⟩ := h
  have up : ∀ s, Rch E V T s → Rch E (fun s k => V s k ∧ U' s k) T' s := fun s r => rch_mono (fun s k v => (M.u s k (h1 s k v)).imp id fun z => ⟨v, z⟩) (fun _ _ _ _ e => e) M.t r
  exact ⟨_, fun s k v => v.2, fun s k v j e => up j (h2 s k v.1 j e), up s h3⟩
theorem cer (h : Cer E U T n s) : Cer E U' T' n s := ⟨h.1, fun r => h.2 (rch_mono (fun s k u => .inr (M.v s k u)) (fun _ _ _ _ e => e) (fun s a => M.avo a) r)⟩
end MoreT
/-- more states allowed -/
structure MoreA (U U' : Nat → Nat → Prop) (T : Nat → Prop) : Prop where
  u : ∀ s k, U s k → U' s k
  v : ∀ s k, U' s k → U s k ∨ ((∀ k', ¬ U s k') ∧ ¬ T s)
namespace MoreA
variable (M : MoreA U U' T)
include M
theorem rch (h : Rch E U T s) : Rch E U' T s := rch_mono (fun s k u => .inr (M.u s k u)) (fun _ _ _ _ e => e) (fun _ t => t) h
theorem lch (h : Lch E U T s) : Lch E U' T s := lch_mono (fun _ t => t) (fun s k u => .inr ⟨k, M.u s k u⟩) (fun s k k' u z => (M.v s k' z).elim id fun q => absurd u (q.1 k)) (fun _ _ _ _ e => e) h
theorem avo (h : Avo E U' T n s) : Avo E U T n s := ⟨h.1, fun l => h.2 (M.lch l)⟩
theorem att (h : Att E U T s) : Att E U' T s := by
  obtain ⟨V, h1, h2, h3⟩ := h
  exact ⟨V, fun s k v => M.u s k (h1 s k v), h2, h3⟩
theorem cer (hn : ∀ s k, U' s k → s < n) (h : Cer E U T n s) : Cer E U' T n s := by
  refine ⟨h.1, fun r => h.2 (rch_mono (fun s k u => ?_) (fun _ _ _ _ e => e) (fun s a => M.avo a) r)⟩
  rcases M.v s k u with z | ⟨z1, z2⟩
  · exact .inr z
  · refine .inl ⟨hn s k u, fun l => ?_⟩
    cases l with
    | goal t => exact z2 t
    | step f u' => exact z1 _ u'
end MoreA
/-- fewer choices -/
structure Fewer (E E' : Nat → Nat → Nat → Prop) (U U' : Nat → Nat → Prop) : Prop where
  u : ∀ s k, U' s k → U s k
  e : ∀ s k j, U' s k → (E' s k j ↔ E s k j)
  x : ∀ s k, U s k → ∃ k, U' s k
namespace Fewer
variable (M : Fewer E E' U U')
include M
theorem rch (h : Rch E' U' T s) : Rch E U T s := rch_mono (fun s k u => .inr (M.u s k u)) (fun s k j u e => (M.e s k j u).mp e) (fun _ t => t) h
theorem lch (h : Lch E U T s) : Lch E' U' T s := lch_mono (fun _ t => t) (fun s k u => .inr (M.x s k u)) (fun s k k' _ z => M.u s k' z) (fun s k j u e => (M.e s k j u).mpr e) h
theorem avo (h : Avo E' U' T n s) : Avo E U T n s := ⟨h.1, fun l => h.2 (M.lch l)⟩
theorem att (h : Att E' U' T s) : Att E U T s := by
  obtain ⟨V, h1, h2, h3⟩ := h
  have up : ∀ s, Rch E' V T s → Rch E V T s := fun s r => rch_mono (fun s k v => .inr v) (fun s k j v e => (M.e s k j (h1 s k v)).mp e) (fun _ t => t) r
  exact ⟨V, fun s k v => M.u s k (h1 s k v), fun s k v j e => up j (h2 s k v j ((M.e s k j (h1 s k v)).mpr e)), up s h3⟩
theorem cer (h : Cer E U T n s) : Cer E' U' T n s := ⟨h.1, fun r => h.2 (rch_mono (fun s k u => .inr (M.u s k u)) (fun s k j u e => (M.e s k j u).mp e) (fun s a => M.avo a) r)⟩
end Fewer
/-- one choice in each state -/
structure One (U : Nat → Nat → Prop) (T : Nat → Prop) : Prop where
  u : ∀ s k k', U s k → U s k' → k = k'
  t : ∀ s k, U s k → ¬ T s
theorem One.lch (M : One U T) (h : Rch E U T s) : Lch E U T s := by
  induction h with
  | goal t => exact .goal t
  | @step s k j u e _ ih => exact .step (fun _ => j) u (fun k' u' => by rw [← M.u s k k' u u']; exact e) fun _ _ => ih
theorem One.avo (M : One U T) : Avo E U T n s ↔ s < n ∧ ¬ Rch E U T s := ⟨fun h => ⟨h.1, fun r => h.2 (M.lch r)⟩, fun h => rch_avo h.1 h.2⟩
theorem One.cer (M : One U T) (hs : s < n) (h : Att E U T s) : Cer E U T n s := by
  obtain ⟨V, h1, h2, h3⟩ := h
  have no : ∀ s, Rch E U (Avo E U T n) s → ¬ Rch E V T s := fun s r => by
    induction r with
    | goal a => exact fun r => (M.avo.mp a).2 (rch_mono (fun s k v => .inr (h1 s k v)) (fun _ _ _ _ e => e) (fun _ t => t) r)
    | @step s k j u e _ ih =>
      intro r
      cases r with
      | goal t => exact M.t s k u t
      | step v e' r' =>
        have := M.u s _ _ (h1 _ _ v) u
        subst this
        exact ih (h2 _ _ v j e)
  exact ⟨hs, fun r => no s r h3⟩
end
end Bo

/-! ### rounds of finding -/
namespace Bo
section
variable (ev : Bool) (n : Nat) (E : Nat → Nat → Nat → Prop) (U : Nat → Nat → Prop) (T : Nat → Prop)
/-- one joins what is found -/
def Jn (F : Nat → Prop) (i : Nat) : Prop := if ev = true then (∃ k, U i k) ∧ ∀ k, U i k → ∃ j, E i k j ∧ F j else ∃ k j, U i k ∧ E i k j ∧ F j
/-- what is found in the end -/
def Gl (i : Nat) : Prop := if ev = true then Lch E U T i else Rch E U T i
/-- what is found by f -/
def Fn (f : Nat → Option Nat) (j : Nat) : Prop := j < n ∧ (f j).isSome = true
structure LvI (f : Nat → Option Nat) (r : Nat) : Prop where
  sound : ∀ i, i < n → ∀ q, f i = some q → q ≤ r ∧ Gl ev E U T i
  goals : ∀ i, i < n → T i → (f i).isSome = true
  close : (∃ i, i < n ∧ f i = some r) ∨ ∀ i, i < n → f i = none → ¬ Jn ev E U (Fn n f) i
def nones (f : Nat → Option Nat) : Nat := ((List.range n).filter fun i => (f i).isNone).length
open Classical in
noncomputable def msr (f : Nat → Option Nat) (r : Nat) : Nat := if ∃ i, i < n ∧ f i = some r then 1 + nones n f else 0
end
section
variable {ev : Bool} {n : Nat} {E : Nat → Nat → Nat → Prop} {U : Nat → Nat → Prop} {T : Nat → Prop} {f : Nat → Option Nat} {r : Nat} {F : Nat → Prop} {i : Nat}
theorem gl_goal (h : T i) : Gl ev E U T i := by
  unfold Gl
  split
  · exact .goal h
  · exact .goal h
theorem jn_sound (h : ∀ j, F j → Gl ev E U T j) (q : Jn ev E U F i) : Gl ev E U T i := by
  unfold Jn at q
  unfold Gl at h ⊢
  split at q
  · rename_i c
    simp only [c, if_true] at h ⊢
    exact lch_of q.1 fun k u => (q.2 k u).imp fun j z => ⟨z.1, h j z.2⟩
  · rename_i c
    simp only [c] at h ⊢
    obtain ⟨k, j, u, e, z⟩ := q
    exact .step u e (h j z)
theorem jn_full (hT : ∀ i, T i → F i) (hU : ∀ s k, U s k → s < n) (h : ∀ i, i < n → ¬ F i → ¬ Jn ev E U F i) (q : Gl ev E U T i) : F i := by
  unfold Jn at h
  unfold Gl at q
  cases ev with
  | true =>
    simp only [if_true] at h q
    induction q with
    | goal t => exact hT _ t
    | @step s k f u e _ ih => exact Classical.byContradiction fun z => h s (hU _ _ u) z ⟨⟨k, u⟩, fun k u => ⟨f k, e k u, ih k u⟩⟩
  | false =>
    simp only [Bool.false_eq_true, if_false] at h q
    induction q with
    | goal t => exact hT _ t
    | @step s k j u e _ ih => exact Classical.byContradiction fun z => h s (hU _ _ u) z ⟨k, j, u, e, ih⟩
theorem fn_none (h : i < n) (q : f i = none) : ¬ Fn n f i := fun z => by
  have := z.2
  rw [q] at this
  cases this
theorem fn_of (h : i < n) (q : ¬ Fn n f i) : f i = none := by
  cases e : f i with
  | none => rfl
  | some a => exact absurd ⟨h, by rw [e]; rfl⟩ q
/-- in the end -/
theorem LvI.done (I : LvI ev n E U T f r) (hT : ∀ i, T i → i < n) (hU : ∀ s k, U s k → s < n) (h : ¬ ∃ i, i < n ∧ f i = some r) (hi : i < n) : (f i).isSome = true ↔ Gl ev E U T i := by
  have hc := I.close.resolve_left h
  constructor
  · intro z
    cases e : f i with
    | none => rw [e] at z; cases z
    | some q => exact (I.sound i hi q e).2
  · intro g
    exact (jn_full (F := Fn n f) (fun i t => ⟨hT i t, I.goals i (hT i t) t⟩) hU (fun i hi q => hc i hi (fn_of hi q)) g).2
/-- ahead of the first round -/
theorem lvi_start (h : ∀ i, i < n → (T i → f i = some 0) ∧ (¬ T i → f i = none)) : LvI ev n E U T f 0 where
  sound := fun i hi q e => by
    by_cases t : T i
    · rw [(h i hi).1 t] at e
      cases e
      exact ⟨Nat.le_refl _, gl_goal t⟩
    · rw [(h i hi).2 t] at e
      cases e
  goals := fun i hi t => by rw [(h i hi).1 t]; rfl
  close := by
    by_cases c : ∃ i, i < n ∧ f i = some 0
    · exact .inl c
    · refine .inr fun i hi e q => ?_
      have no : ∀ j, ¬ Fn n f j := fun j z => by
        by_cases t : T j
        · exact c ⟨j, z.1, (h j z.1).1 t⟩
        · have := z.2
          rw [(h j z.1).2 t] at this
          cases this
      unfold Jn at q
      split at q
      · obtain ⟨⟨k, u⟩, q2⟩ := q
        obtain ⟨j, _, z⟩ := q2 k u
        exact no j z
      · obtain ⟨k, j, _, _, z⟩ := q
        exact no j z
/-- a round -/
def nextF (g : Nat → Bool) (f : Nat → Option Nat) (r : Nat) : Nat → Option Nat := fun i => if g i = true then some (r + 1) else f i
theorem LvI.next (I : LvI ev n E U T f r) {g : Nat → Bool} (hg : ∀ i, i < n → (g i = true ↔ f i = none ∧ Jn ev E U (Fn n f) i)) : LvI ev n E U T (nextF g f r) (r + 1) := by
  have gl : ∀ j, Fn n f j → Gl ev E U T j := fun j z => by
    cases e : f j with
    | none => exact absurd z (fn_none z.1 e)
    | some q => exact (I.sound j z.1 q e).2
  refine ⟨fun i hi q e => ?_, fun i hi t => ?_, ?_⟩
  · unfold nextF at e
    split at e
    · rename_i c
      cases e
      exact ⟨Nat.le_refl _, jn_sound gl ((hg i hi).mp c).2⟩
    · obtain ⟨h1, h2⟩ := I.sound i hi q e
      exact ⟨by omega, h2⟩
  · unfold nextF
    split
    · rfl
    · exact I.goals i hi t
  · by_cases c : ∃ i, i < n ∧ g i = true
    · obtain ⟨i, hi, c⟩ := c
      exact .inl ⟨i, hi, if_pos c⟩
    · have same : ∀ i, i < n → nextF g f r i = f i := fun i hi => if_neg fun z => c ⟨i, hi, z⟩
      refine .inr fun i hi e q => c ⟨i, hi, (hg i hi).mpr ⟨by rw [← same i hi]; exact e, ?_⟩⟩
      have ef : Fn n (nextF g f r) = Fn n f := by
        funext j
        unfold Fn
        refine propext ⟨fun z => ⟨z.1, ?_⟩, fun z => ⟨z.1, ?_⟩⟩
        · rw [← same j z.1]; exact z.2
        · rw [same j z.1]; exact z.2
      rw [ef] at q
      exact q
theorem filter_lt {α : Type} {p q : α → Bool} : ∀ {l : List α}, (∀ x ∈ l, q x = true → p x = true) → (∃ x ∈ l, p x = true ∧ q x = false) → (l.filter q).length < (l.filter p).length
  | [], _, h => by
    obtain ⟨x, hx, _⟩ := h
    cases hx
  | a :: l, h1, h2 => by
    have le : ∀ {l : List α}, (∀ x ∈ l, q x = true → p x = true) → (l.filter q).length ≤ (l.filter p).length := fun {l} => by
      induction l with
      | nil => exact fun _ => Nat.le_refl _
      | cons b l ih =>
        intro h
        have h' := ih fun x hx => h x (List.mem_cons_of_mem _ hx)
        by_cases c : q b = true
        · rw [List.filter_cons_of_pos c, List.filter_cons_of_pos (h b List.mem_cons_self c), List.length_cons, List.length_cons]
          omega
        · rw [List.filter_cons_of_neg c]
          by_cases d : p b = true
          · rw [List.filter_cons_of_pos d, List.length_cons]
            omega
          · rw [List.filter_cons_of_neg d]
            exact h'
    obtain ⟨x, hx, px, qx⟩ := h2
    rcases List.mem_cons.mp hx with e | hx
    · subst e
      rw [List.filter_cons_of_neg (by rw [qx]; decide), List.filter_cons_of_pos px, List.length_cons]
      have := le fun y hy => h1 y (List.mem_cons_of_mem _ hy)
      omega
    · have ih := filter_lt (fun y hy => h1 y (List.mem_cons_of_mem _ hy)) ⟨x, hx, px, qx⟩
      by_cases c : q a = true
      · rw [List.filter_cons_of_pos c, List.filter_cons_of_pos (h1 a List.mem_cons_self c), List.length_cons, List.length_cons]
        omega
      · rw [List.filter_cons_of_neg c]
        by_cases d : p a = true
        · rw [List.filter_cons_of_pos d, List.length_cons]
          omega
        · rw [List.filter_cons_of_neg d]
          exact ih
theorem nones_le : nones n f ≤ n := by
  unfold nones
  exact Nat.le_trans (List.length_filter_le _ _) (by rw [List.length_range]; exact Nat.le_refl _)
theorem msr_le : msr n f r ≤ n + 1 := by
  unfold msr
  have := nones_le (n := n) (f := f)
  split <;> omega
theorem msr_next {g : Nat → Bool} (I : LvI ev n E U T f r) (hg : ∀ i, i < n → (g i = true → f i = none)) (h : ∃ i, i < n ∧ f i = some r) : msr n (nextF g f r) (r + 1) < msr n f r := by
  unfold msr
  rw [if_pos h]
  split
  · rename_i c
    obtain ⟨i, hi, e⟩ := c
    have gi : g i = true := by
      unfold nextF at e
      split at e
      · assumption
      · have := (I.sound i hi _ e).1
        omega
    have : nones n (nextF g f r) < nones n f := by
      refine filter_lt (fun x hx q => ?_) ⟨i, List.mem_range.mpr hi, ?_, ?_⟩
      · unfold nextF at q
        split at q
        · cases q
        · exact q
      · rw [hg i hi gi]; rfl
      · unfold nextF
        rw [if_pos gi]
        rfl
    omega
  · omega
end
end Bo

namespace Bo
open PySem L2
local macro_rules | `(tactic| walk_at "ev0") => `(tactic| simp only [okTo_bind, okTo_ok, okTo_noErr, okTo_when, R.bind_ok, seqF, vAsg, vVar, vC, vOp, vUn, vCall, vCons, vNil, vTup, vLst, vFr, vLstF, vTst, toB, toI, gI, gIC, gIB, gNeg, gInt, gLen, gEq, gNe, eqF, vAnd, vOr, vNot, tNotF, vYes, gTuple, gList, gRevL, wipeS, backS, okS, vIfS, vIf, vNext, vRet, vRetN, vDrop, vOwn, vFrz, frzS, aName, aTup, aCons, aNil, vFor, vScr, vRange1, vApp, ownD, vIxO, vSetI, gIxL, gIxT, vInO, vCallP, vCallB, vCallL, vConsO, vTupleO, vListO, vLenO, vLc, vLcO, vIter, vIterT, vEnumK, kdD, listD, tupleD, vListRg, vRepF, vAug, List.getElem?_cons_zero, List.getElem?_cons_succ, List.set_cons_zero, List.set_cons_succ, List.length_cons, List.length_nil, startS, List.map_cons, List.map_nil, List.replicate_succ, List.replicate_zero, List.cons_append, List.nil_append, denP, denB, denS, endP, endB, Nat.sub_self, Nat.reduceSub, Nat.reduceAdd, List.all_cons, List.all_nil, Bool.and_true, SV.mine, Bool.not_false, Option.join_some, true_and, and_true])
local macro_rules | `(tactic| walk_at "wv1") => `(tactic| (first
  | with_reducible refine w_seq ?_
  | with_reducible refine w_asg ?_
  | ((with_reducible refine w_var (d := ?wd) ?wh ?wq); (case wh => exact rfl))
  | with_reducible refine w_c ?_
  | with_reducible refine w_op ?_
  | with_reducible refine w_un ?_
  | with_reducible refine w_and ?_
  | with_reducible refine w_or ?_
  | with_reducible refine w_not ?_
  | with_reducible refine w_toB ?_
  | with_reducible refine w_toI ?_
  | with_reducible refine w_tst ?_
  | with_reducible refine w_tnot ?_
  | with_reducible refine w_tand ?_
  | with_reducible refine w_tor ?_
  | with_reducible refine w_tru ?_
  | with_reducible refine w_if ?_
  | with_reducible refine w_chain ?_
  | with_reducible refine w_nil ?_
  | with_reducible refine w_cons ?_
  | with_reducible refine w_tup ?_
  | with_reducible refine w_lst ?_
  | with_reducible refine w_lstF ?_
  | with_reducible refine w_call ?_
  | with_reducible refine w_callP ?_
  | with_reducible refine w_callL ?_
  | ((with_reducible refine w_own (ds := ?wd) ?wh ?wq); (case wh => exact rfl))
  | with_reducible refine w_callB ?_
  | ((with_reducible refine w_callS (ns := ?wd) ?wh ?wq); (case wh => exact rfl))
  | with_reducible refine w_consO ?_
  | with_reducible refine w_fr ?_
  | with_reducible refine w_lenO ?_
  | with_reducible refine w_tupleO ?_
  | with_reducible refine w_listO ?_
  | with_reducible refine w_ixO ?_
  | with_reducible refine w_inO ?_
  | with_reducible refine w_truO ?_
  | with_reducible refine w_app ?_
  | with_reducible refine w_setI ?_
  | with_reducible refine w_sl ?_
  | with_reducible refine w_noPart ?_
  | with_reducible refine w_part ?_
  | with_reducible refine w_iter ?_
  | with_reducible refine w_iterT ?_
  | with_reducible refine w_range1 ?_
  | with_reducible refine w_listRg ?_
  | with_reducible refine w_enumK ?_
  | with_reducible refine w_zipK ?_
  | with_reducible refine w_repF ?_
  | with_reducible refine w_lc ?_
  | with_reducible refine w_yes ?_
  | with_reducible refine w_next ?_
  | with_reducible refine w_ret ?_
  | with_reducible refine w_retN ?_
  | with_reducible refine w_drop ?_
  | with_reducible refine w_aName ?_
  | with_reducible refine w_aTup rfl ?_
  | with_reducible refine w_aNil ?_
  | with_reducible refine w_aCons ?_
  | with_reducible refine w_ifS ?_
  | with_reducible refine w_ownS ?_
  | ((with_reducible refine w_frz (ds := ?wd) ?wh ?wq); (case wh => exact rfl))
  | with_reducible refine w_for ?_
  | ((with_reducible refine w_aug (a := ?wd) ?wh ?wq); (case wh => exact rfl))
  | with_reducible refine w_gI ?_
  | with_reducible refine w_gIB ?_
  | with_reducible refine w_gIC ?_
  | with_reducible refine w_gEqI ?_
  | with_reducible refine w_gNeI ?_
  | with_reducible refine w_gIxL ?_
  | with_reducible refine w_gIxT ?_
  | with_reducible refine w_gCat ?_
  | with_reducible refine w_gCatT ?_
  | with_reducible refine w_isN ?_
  | with_reducible refine w_notN ?_
  | with_reducible refine w_gInL ?_
  | with_reducible refine w_gLenL ?_
  | with_reducible refine w_gLenT ?_
  | with_reducible refine w_gIntI ?_
  | with_reducible refine w_gTuple ?_
  | with_reducible refine w_gBools ?_
  | with_reducible refine w_gInts ?_
  | with_reducible refine w_gNeD ?_
  | with_reducible refine w_gEqD ?_
  | with_reducible refine w_gRevL ?_
  | with_reducible refine w_gSlL ?_
  | with_reducible refine w_gSlT ?_
  | with_reducible refine w_itT ?_
  | with_reducible refine w_itF ?_
  | with_reducible refine w_itTT ?_
  | with_reducible refine w_itFT ?_
  | with_reducible refine w_gList ?_
  | with_reducible refine w_gSortI ?_
  | with_reducible refine w_range2 ?_
  | ((with_reducible refine w_lcO (ds := ?wd) ?wh ?wq ?wr); (case wh => exact rfl); (case wq => exact rfl))
  | with_reducible refine w_aUnl rfl ?_
  | with_reducible refine w_listF ?_
  | with_reducible refine w_brk ?_
  | with_reducible refine w_cnt ?_
  | with_reducible refine w_neg ?_
  | with_reducible refine w_gIntB ?_
  | simp only [wipeS, backS, List.set_cons_zero, List.set_cons_succ, List.getElem?_cons_zero, List.getElem?_cons_succ, Option.join_some, Option.join_none, Bool.not_true, Bool.not_false]))
local macro_rules | `(tactic| walk_at "wv") => `(tactic| ((repeat (walk_at "wv1"; try dsimp only)); try simp only [List.set_cons_zero, List.set_cons_succ]))
local macro_rules | `(tactic| walk_at "st") => `(tactic| simp only [startS, List.map_cons, List.map_nil, List.length_cons, List.length_nil, Nat.reduceAdd, Nat.reduceSub, List.replicate_succ, List.replicate_zero, List.cons_append, List.nil_append])

/-! ### lists of data, levels -/
def dN (l : List Nat) : PyData := .list (l.map fun k => .int (k : Nat))
def dU (U : List (List Nat)) : PyData := .list (U.map dN)
def dO : Option Nat → PyData
  | some r => .int (r : Nat)
  | none => .none
def dV (lv : List (Option Nat)) : PyData := .list (lv.map dO)
theorem isNone_dO (o : Option Nat) : isNone (dO o) = o.isNone := by cases o <;> rfl
/-- numbers 0 .. m - 1 with p, in order -/
def idx (m : Nat) (p : Nat → Bool) : List Nat := (List.range m).filter p
theorem mem_idx {m i : Nat} {p : Nat → Bool} : i ∈ idx m p ↔ i < m ∧ p i = true := by
  unfold idx
  rw [List.mem_filter, List.mem_range]
theorem idx_congr {m : Nat} {p q : Nat → Bool} (h : ∀ i, i < m → p i = q i) : idx m p = idx m q := List.filter_congr fun i hi => h i (List.mem_range.mp hi)
/-- the pairs that are walked -/
theorem enum_filter {ds : List PyData} (p : Nat → Bool) (q : PyData → Bool) (g : PyData → PyData) (h : ∀ i d, ds[i]? = some d → q (.tuple [.int (i : Nat), d]) = p i ∧ g (.tuple [.int (i : Nat), d]) = .int (i : Nat)) :
    ((enumD ds).filter q).map g = (idx ds.length p).map fun k => .int (k : Nat) := by
  have gen : ∀ (es : List PyData) (k : Nat), (∀ i d, es[i]? = some d → q (.tuple [.int ((k + i : Nat) : Int), d]) = p (k + i) ∧ g (.tuple [.int ((k + i : Nat) : Int), d]) = .int ((k + i : Nat) : Int)) →
      (((es.zipIdx k).map fun z => PyData.tuple [.int (z.2 : Nat), z.1]).filter q).map g = ((List.range' k es.length).filter p).map fun k => .int (k : Nat) := by
    intro es
    induction es with
    | nil => intro k _; rfl
    | cons d es ih =>
      intro k hk
      obtain ⟨h1, h2⟩ := hk 0 d rfl
      have h3 := ih (k + 1) fun i d hd => by
        have := hk (i + 1) d hd
        have e : k + (i + 1) = k + 1 + i := by omega
        rw [e] at this
        exact this
      rw [List.zipIdx_cons, List.map_cons, List.length_cons, List.range'_succ]
      rw [Nat.add_zero] at h1 h2
      by_cases c : p k = true
      · rw [List.filter_cons_of_pos (by rw [h1]; exact c), List.filter_cons_of_pos c, List.map_cons, List.map_cons, h2, h3]
      · rw [List.filter_cons_of_neg (by rw [h1]; exact c), List.filter_cons_of_neg c, h3]
  have := gen ds 0 fun i d hd => by
    rw [Nat.zero_add]
    exact h i d hd
  unfold enumD idx
  rw [List.range_eq_range']
  exact this
/-! ### choices on the way -/
def onWay (al tg : List Int) (i : Nat) : Bool := decide ((i : Int) ∈ al) && !decide ((i : Int) ∈ tg)
def usable (y : List (List Cho)) (al tg : List Int) : List (List Nat) := y.zipIdx.map fun p => if onWay al tg p.2 = true then List.range p.1.length else []
theorem usable_len {y : List (List Cho)} {al tg : List Int} : (usable y al tg).length = y.length := by simp [usable]
theorem usable_get {y : List (List Cho)} {al tg : List Int} {i : Nat} {s : List Cho} (h : y[i]? = some s) : (usable y al tg)[i]? = some (if onWay al tg i = true then List.range s.length else []) := by
  unfold usable
  rw [List.getElem?_map, List.getElem?_zipIdx, h]
  simp
theorem inD_int {l : List Int} {i : Int} : inD (.int i) (l.map PyData.int) = decide (i ∈ l) := by
  induction l with
  | nil => rfl
  | cons a l ih =>
    show (eqP (.int a) (.int i) || inD (.int i) (l.map PyData.int)) = _
    rw [ih]
    show (decide (a = i) || decide (i ∈ l)) = _
    by_cases e : a = i
    · simp [e]
    · have : ¬ i = a := fun z => e z.symm
      simp [e, this]
theorem flat_ints (l : List Int) : (l.map PyData.int).all flatD = true := by
  rw [List.all_map]
  exact List.all_eq_true.mpr fun x _ => rfl
theorem rangeD_nat (m : Nat) : rangeD 0 m = (List.range m).map fun k => .int (k : Nat) := by
  unfold rangeD
  refine List.map_congr_left fun i _ => ?_
  rw [Int.zero_add]
theorem choices_on_way_ok {y : List (List Cho)} {al tg : List Int} {k : PyData → Prop} (hy : y.length ≤ 1000) (hs : ∀ s ∈ y, s.length ≤ 1000) (h : k (dU (usable y al tg))) : (den_choices_on_way [dY y, dL al, dL tg]).okTo k := by
  unfold den_choices_on_way body_choices_on_way dY dL
  walk_at "ev0"
  refine seq_ok ?_
  walk_at "ev0"
  refine ⟨by decide, seq_ok ?_⟩
  walk_at "ev0"
  refine loop_ok (fun i S => ∃ (a b c : Option SV), S = [some (.dat (.tuple (y.map dS))), some (.dat (.list (al.map PyData.int))), some (.dat (.list (tg.map PyData.int))), some (.own (((usable y al tg).take i).map dN)), a, b, c]) ?_ ?_ ⟨_, _, _, rfl⟩
  · rintro i d S hi ⟨a, b, c, rfl⟩
    have hlt : i < y.length := by
      have := (List.getElem?_eq_some_iff.mp hi).1
      rw [enumD_len, List.length_map] at this
      exact this
    have hyi : y[i]? = some y[i] := List.getElem?_eq_getElem hlt
    rw [enumD_get (d := dS y[i]) (by rw [List.getElem?_map, hyi]; rfl)] at hi
    cases hi
    have hlen := hs y[i] (List.getElem_mem hlt)
    walk_at "ev0"
    refine seq_ok (R.okTo.mono (k := fun fl => fl = .nx [some (.dat (.tuple (y.map dS))), some (.dat (.list (al.map PyData.int))), some (.dat (.list (tg.map PyData.int))), some (.own (((usable y al tg).take i).map dN)), some (.dat (.int (i : Nat))), some (.dat (.tuple (y[i].map dC))), some (.dat (.bool (onWay al tg i)))]) ?_ ?_)
    · unfold gIn itemsD onWay
      walk_at "ev0"
      refine ⟨⟨rfl, flat_ints al⟩, ?_⟩
      rw [inD_int]
      by_cases c : (i : Int) ∈ al
      · simp only [c, decide_true, if_true, Bool.false_eq_true, if_false]
        walk_at "ev0"
        refine ⟨⟨rfl, flat_ints tg⟩, ?_⟩
        rw [inD_int]
        rfl
      · simp only [c, decide_false, if_false, Bool.false_eq_true]
        walk_at "ev0"
        rfl
    rintro fl rfl
    have fin : ∀ {b : Bool}, b = onWay al tg i → (vDrop (vApp 3 (vIf (vTst (vVar 6)) (vFr (vListRg (vCall gLen (vCons (vVar 5) vNil)))) (vLst vNil))) [some (.dat (.tuple (y.map dS))), some (.dat (.list (al.map PyData.int))), some (.dat (.list (tg.map PyData.int))), some (.own (((usable y al tg).take i).map dN)), some (.dat (.int (i : Nat))), some (.dat (.tuple (y[i].map dC))), some (.dat (.bool b))]).okTo fun fl => match fl with
      | .nx S2 => ∃ (a b c : Option SV), S2 = [some (.dat (.tuple (y.map dS))), some (.dat (.list (al.map PyData.int))), some (.dat (.list (tg.map PyData.int))), some (.own (((usable y al tg).take (i + 1)).map dN)), a, b, c]
      | _ => False := fun {b} e => by
      have next : ((usable y al tg).take i).map dN ++ [dN (if onWay al tg i = true then List.range y[i].length else [])] = ((usable y al tg).take (i + 1)).map dN := by
        rw [List.take_add_one, usable_get hyi, List.map_append]
        rfl
      have lt : (((usable y al tg).take i).map dN).length < 100000 := by
        rw [List.length_map, List.length_take]
        omega
      subst e
      walk_at "ev0"
      by_cases c : onWay al tg i = true
      · rw [c]
        rw [if_pos c] at next
        simp only [if_true]
        walk_at "ev0"
        rw [List.length_map]
        refine ⟨by omega, lt, some (.dat (.int (i : Nat))), some (.dat (.tuple (y[i].map dC))), some (.dat (.bool true)), ?_⟩
        rw [← next, rangeD_nat, Int.toNat_natCast]
        rfl
      · rw [if_neg c] at next
        have c' : onWay al tg i = false := by simpa using c
        rw [c']
        simp only [if_false, Bool.false_eq_true]
        walk_at "ev0"
        refine ⟨by decide, lt, some (.dat (.int (i : Nat))), some (.dat (.tuple (y[i].map dC))), some (.dat (.bool false)), ?_⟩
        rw [← next]
        rfl
    refine (fin rfl).mono fun fl q => ?_
    cases fl <;> first | exact q | exact q.elim
  · rintro S ⟨a, b, c, rfl⟩
    walk_at "ev0"
    rw [enumD_len, List.length_map]
    have e : (usable y al tg).take y.length = usable y al tg := List.take_of_length_le (by rw [usable_len]; exact Nat.le_refl _)
    rw [e]
    exact h
theorem dV_get {lv : List (Option Nat)} {i : Nat} {o : Option Nat} (h : lv[i]? = some o) : ixD (lv.map dO) (i : Int) = .ok (dO o) := ixD_nat (by rw [List.getElem?_map, h]; rfl)
/-- found there -/
def fnd (lv : List (Option Nat)) (i : Nat) : Bool := (lv[i]?.join).isSome
theorem found_states_ok {lv : List (Option Nat)} {k : PyData → Prop} (hl : lv.length ≤ 1000) (h : k (dN (idx lv.length (fnd lv)))) : (den_found_states [dV lv]).okTo k := by
  unfold den_found_states body_found_states dV
  walk_at "ev0"
  refine ⟨by rw [enumD_len, List.length_map]; omega, ?_⟩
  refine okTo_eq (lc_pure (fun d => match d with
    | .tuple [_, z] => !isNone z
    | _ => false) (fun d => match d with
    | .tuple [z, _] => z
    | _ => .none) fun d hd => ?_) ?_
  · obtain ⟨i, hi⟩ := List.getElem?_of_mem hd
    have hlt : i < lv.length := by
      have := (List.getElem?_eq_some_iff.mp hi).1
      rw [enumD_len, List.length_map] at this
      exact this
    rw [enumD_get (d := dO lv[i]) (by rw [List.getElem?_map, List.getElem?_eq_getElem hlt]; rfl)] at hi
    cases hi
    exact ⟨_, rfl, rfl, fun _ => rfl, rfl⟩
  · walk_at "ev0"
    rw [enum_filter (fnd lv)]
    · rw [List.length_map]
      exact h
    · intro i d hd
      rw [List.getElem?_map] at hd
      obtain ⟨o, h1, rfl⟩ := Option.map_eq_some_iff.mp hd
      refine ⟨?_, rfl⟩
      show (!isNone (dO o)) = _
      unfold fnd
      rw [isNone_dO, h1]
      cases o <;> rfl
/-- an end of the k-th choice of state i -/
def Edge (y : List (List Cho)) (i k j : Nat) : Prop := ∃ s c e, y[i]? = some s ∧ s[k]? = some c ∧ e ∈ c.2 ∧ e.1 = ((j : Nat) : Int)
def hitC (lv : List (Option Nat)) (c : Cho) : Bool := c.2.any fun e => fnd lv e.1.toNat
def stayC (lv : List (Option Nat)) (c : Cho) : Bool := c.2.all fun e => fnd lv e.1.toNat
def EndsIn (m : Nat) (c : Cho) : Prop := c.2.length ≤ 1000 ∧ ∀ e ∈ c.2, 0 ≤ e.1 ∧ e.1 < (m : Int)
theorem ixD_fnd {lv : List (Option Nat)} {x : Int} (h0 : 0 ≤ x) (h1 : x < (lv.length : Int)) : ∃ o : Option Nat, ixD (lv.map dO) x = .ok (dO o) ∧ o.isSome = fnd lv x.toNat := by
  obtain ⟨j, rfl⟩ : ∃ j : Nat, x = (j : Int) := ⟨x.toNat, by omega⟩
  have hj : j < lv.length := by omega
  refine ⟨lv[j], dV_get (List.getElem?_eq_getElem hj), ?_⟩
  unfold fnd
  rw [Int.toNat_natCast, List.getElem?_eq_getElem hj]
  rfl
/-- a list of tests over a choice's ends -/
theorem ends_lc {lv : List (Option Nat)} {fg : PyData → SS → R SS} {ft : VT} {fe : VE} {vs : List Nat} {S : SS} : ∀ {es : List (Int × Int)}, (∀ e ∈ es, ∃ S1, fg (prD e) S = .ok S1 ∧ ft S1 = .ok (true, S1) ∧ fe S1 = .ok (.bool (fnd lv e.1.toNat), S1) ∧ wipeS S1 vs = S) →
    lcF fg ft fe vs (es.map prD) S = .ok ((es.map fun e => fnd lv e.1.toNat).map PyData.bool, S)
  | [], _ => rfl
  | e :: es, h => by
    obtain ⟨S1, h1, h2, h3, h4⟩ := h e List.mem_cons_self
    have ih := ends_lc (es := es) fun x hx => h x (List.mem_cons_of_mem _ hx)
    rw [List.map_cons, List.map_cons, List.map_cons]
    unfold lcF
    rw [h1, R.bind_ok, h2, R.bind_ok]
    simp only [if_true]
    rw [h3, R.bind_ok]
    simp only [h4]
    rw [ih]
    rfl
theorem fnd_test {lv : List (Option Nat)} {c : Cho} {e : Int × Int} (hc : EndsIn lv.length c) (he : e ∈ c.2) : (vOp (fun d e => R.when (isNone e = true) (.ok (.bool (!isNone d)))) (vOp gIxL (vVar 1) (vVar 2)) (vC .none)) [some (.dat (dC c)), some (.dat (dV lv)), some (.dat (.int e.1)), some (.dat (.int e.2))]
    = .ok (.bool (fnd lv e.1.toNat), [some (.dat (dC c)), some (.dat (dV lv)), some (.dat (.int e.1)), some (.dat (.int e.2))]) := by
  obtain ⟨h0, h1⟩ := hc.2 e he
  obtain ⟨o, e1, e2⟩ := ixD_fnd h0 h1
  have e4 : gIxL (dV lv) (.int e.1) = .ok (dO o) := e1
  unfold vOp
  simp only [vVar, List.getElem?_cons_zero, List.getElem?_cons_succ, R.bind_ok, e4, vC]
  rw [R.when_pos (show isNone PyData.none = true from rfl), R.bind_ok, isNone_dO, ← e2]
  cases o <;> rfl
theorem okS_none {a b : SV} : okS [2, 3] [some a, some b, none, none] = true := rfl
theorem leads_ok {lv : List (Option Nat)} {c : Cho} {k : PyData → Prop} (hc : EndsIn lv.length c) (h : k (.bool (hitC lv c))) : (den_leads_into [dC c, dV lv]).okTo k := by
  unfold den_leads_into body_leads_into
  refine w_denP ?_
  walk_at "st"
  walk_at "wv"
  refine ⟨c.2.map prD, rfl, ⟨rfl, by rw [List.length_map]; have := hc.1; omega⟩, ?_⟩
  refine okTo_eq (ends_lc (lv := lv) fun e he => ⟨_, rfl, rfl, fnd_test hc he, rfl⟩) ?_
  walk_at "wv"
  unfold hitC at h
  rw [List.any_map]
  exact h
theorem stays_ok {lv : List (Option Nat)} {c : Cho} {k : PyData → Prop} (hc : EndsIn lv.length c) (h : k (.bool (stayC lv c))) : (den_stays_in [dC c, dV lv]).okTo k := by
  unfold den_stays_in body_stays_in
  refine w_denP ?_
  walk_at "st"
  walk_at "wv"
  refine ⟨c.2.map prD, rfl, ⟨rfl, by rw [List.length_map]; have := hc.1; omega⟩, ?_⟩
  refine okTo_eq (ends_lc (lv := lv) fun e he => ⟨_, rfl, rfl, fnd_test hc he, rfl⟩) ?_
  walk_at "wv"
  unfold stayC at h
  rw [List.all_map]
  exact h
/-! ### one joins what is found -/
def joinB (lv : List (Option Nat)) (s : List Cho) (ns : List Nat) (ev : Bool) : Bool :=
  let hs := ns.map fun k => match s[k]? with
    | some c => hitC lv c
    | none => false
  if ev = true then !ns.isEmpty && hs.all id else hs.any id
theorem ints_canLay (l : List Nat) : PyData.canLayAll0 (l.map fun k => PyData.int (k : Nat)) = true := by
  induction l with
  | nil => rfl
  | cons a l ih => simpa [PyData.canLayAll0, PyData.canLay0] using ih
theorem ints_depth (l : List Nat) : PyData.depthAll (l.map fun k => PyData.int (k : Nat)) = 0 := by
  induction l with
  | nil => rfl
  | cons a l ih => simpa [PyData.depthAll, PyData.depth] using ih
theorem dN_shaped (l : List Nat) : SeqAt.shaped (dN l) = true := by
  unfold dN SeqAt.shaped
  simp [PyData.canLay0, PyData.depth, ints_canLay, ints_depth]
theorem joins_ok {lv : List (Option Nat)} {s : List Cho} {ns : List Nat} {ev : Bool} {k : PyData → Prop} (hs : ∀ c ∈ s, EndsIn lv.length c) (hn : ∀ x ∈ ns, x < s.length) (hl : ns.length ≤ 1000) (h : k (.bool (joinB lv s ns ev))) : (den_joins [dS s, dN ns, dV lv, .bool ev]).okTo k := by
  unfold den_joins body_joins
  refine w_denP ?_
  walk_at "st"
  walk_at "wv"
  refine ⟨ns.map fun k => .int (k : Nat), rfl, ⟨rfl, by rw [List.length_map]; omega⟩, ?_⟩
  refine lc_ok (fun i acc S => acc = ((ns.take i).map fun k => PyData.bool (match s[k]? with
    | some c => hitC lv c
    | none => false)) ∧ S = [some (.dat (dS s)), some (.dat (dN ns)), some (.dat (dV lv)), some (.dat (.bool ev)), none, none]) ?_ ?_ ⟨rfl, rfl⟩
  · rintro i d acc S hi ⟨rfl, rfl⟩
    rw [List.getElem?_map] at hi
    obtain ⟨x, hx, rfl⟩ := Option.map_eq_some_iff.mp hi
    have hxs := hn x (List.mem_of_getElem? hx)
    walk_at "wv"
    refine okTo_eq (a := dC s[x]) (ixD_nat (by rw [List.getElem?_map, List.getElem?_eq_getElem hxs]; rfl)) ?_
    walk_at "wv"
    refine ⟨rfl, leads_ok (hs _ (List.getElem_mem hxs)) ⟨?_, trivial⟩⟩
    rw [List.take_add_one, hx, List.map_append]
    simp only [Option.toList_some, List.map_cons, List.map_nil, List.getElem?_eq_getElem hxs]
  · rintro acc S ⟨rfl, rfl⟩
    have et : ns.take (ns.map fun k => PyData.int (k : Nat)).length = ns := by rw [List.length_map, List.take_length]
    rw [et]
    walk_at "wv"
    have eb : (ns.map fun k => PyData.bool (match s[k]? with
      | some c => hitC lv c
      | none => false)) = (ns.map fun k => match s[k]? with
      | some c => hitC lv c
      | none => false).map PyData.bool := by rw [List.map_map]; rfl
    rw [eb]
    walk_at "wv"
    have eq0 : PyData.eqv (dN ns) (.list []) = ns.isEmpty := by
      unfold dN
      cases ns with
      | nil => rfl
      | cons x ns => rfl
    unfold joinB at h
    cases ev with
    | true =>
      walk_at "wv"
      refine ⟨by decide, ?_⟩
      walk_at "wv"
      refine ⟨⟨dN_shaped ns, by decide⟩, ?_⟩
      rw [eq0]
      walk_at "wv"
      simp only [if_true] at h
      cases hE : ns.isEmpty with
      | true =>
        walk_at "wv"
        rw [hE] at h
        exact h
      | false =>
        walk_at "wv"
        rw [hE] at h
        exact h
    | false =>
      walk_at "wv"
      exact h
end Bo

/-! ### rounds of finding, as the program makes them -/
namespace Bo
open PySem L2
local macro_rules | `(tactic| walk_at "wv1") => `(tactic| (first
  | with_reducible refine w_seq ?_
  | with_reducible refine w_asg ?_
  | ((with_reducible refine w_var (d := ?wd) ?wh ?wq); (case wh => exact rfl))
  | with_reducible refine w_c ?_
  | with_reducible refine w_op ?_
  | with_reducible refine w_un ?_
  | with_reducible refine w_and ?_
  | with_reducible refine w_or ?_
  | with_reducible refine w_not ?_
  | with_reducible refine w_toB ?_
  | with_reducible refine w_toI ?_
  | with_reducible refine w_tst ?_
  | with_reducible refine w_tnot ?_
  | with_reducible refine w_tand ?_
  | with_reducible refine w_tor ?_
  | with_reducible refine w_tru ?_
  | with_reducible refine w_if ?_
  | with_reducible refine w_chain ?_
  | with_reducible refine w_nil ?_
  | with_reducible refine w_cons ?_
  | with_reducible refine w_tup ?_
  | with_reducible refine w_lst ?_
  | with_reducible refine w_lstF ?_
  | with_reducible refine w_call ?_
  | with_reducible refine w_callP ?_
  | with_reducible refine w_callL ?_
  | ((with_reducible refine w_own (ds := ?wd) ?wh ?wq); (case wh => exact rfl))
  | with_reducible refine w_callB ?_
  | ((with_reducible refine w_callS (ns := ?wd) ?wh ?wq); (case wh => exact rfl))
  | with_reducible refine w_consO ?_
  | with_reducible refine w_fr ?_
  | with_reducible refine w_lenO ?_
  | with_reducible refine w_tupleO ?_
  | with_reducible refine w_listO ?_
  | with_reducible refine w_ixO ?_
  | with_reducible refine w_inO ?_
  | with_reducible refine w_truO ?_
  | with_reducible refine w_app ?_
  | with_reducible refine w_setI ?_
  | with_reducible refine w_sl ?_
  | with_reducible refine w_noPart ?_
  | with_reducible refine w_part ?_
  | with_reducible refine w_iter ?_
  | with_reducible refine w_iterT ?_
  | with_reducible refine w_range1 ?_
  | with_reducible refine w_listRg ?_
  | with_reducible refine w_enumK ?_
  | with_reducible refine w_zipK ?_
  | with_reducible refine w_repF ?_
  | with_reducible refine w_lc ?_
  | with_reducible refine w_yes ?_
  | with_reducible refine w_next ?_
  | with_reducible refine w_ret ?_
  | with_reducible refine w_retN ?_
  | with_reducible refine w_drop ?_
  | with_reducible refine w_aName ?_
  | with_reducible refine w_aTup rfl ?_
  | with_reducible refine w_aNil ?_
  | with_reducible refine w_aCons ?_
  | with_reducible refine w_ifS ?_
  | with_reducible refine w_ownS ?_
  | ((with_reducible refine w_frz (ds := ?wd) ?wh ?wq); (case wh => exact rfl))
  | with_reducible refine w_for ?_
  | ((with_reducible refine w_aug (a := ?wd) ?wh ?wq); (case wh => exact rfl))
  | with_reducible refine w_gI ?_
  | with_reducible refine w_gIB ?_
  | with_reducible refine w_gIC ?_
  | with_reducible refine w_gEqI ?_
  | with_reducible refine w_gNeI ?_
  | with_reducible refine w_gIxL ?_
  | with_reducible refine w_gIxT ?_
  | with_reducible refine w_gCat ?_
  | with_reducible refine w_gCatT ?_
  | with_reducible refine w_isN ?_
  | with_reducible refine w_notN ?_
  | with_reducible refine w_gInL ?_
  | with_reducible refine w_gLenL ?_
  | with_reducible refine w_gLenT ?_
  | with_reducible refine w_gIntI ?_
  | with_reducible refine w_gTuple ?_
  | with_reducible refine w_gBools ?_
  | with_reducible refine w_gInts ?_
  | with_reducible refine w_gNeD ?_
  | with_reducible refine w_gEqD ?_
  | with_reducible refine w_gRevL ?_
  | with_reducible refine w_gSlL ?_
  | with_reducible refine w_gSlT ?_
  | with_reducible refine w_itT ?_
  | with_reducible refine w_itF ?_
  | with_reducible refine w_itTT ?_
  | with_reducible refine w_itFT ?_
  | with_reducible refine w_gList ?_
  | with_reducible refine w_gSortI ?_
  | with_reducible refine w_range2 ?_
  | ((with_reducible refine w_lcO (ds := ?wd) ?wh ?wq ?wr); (case wh => exact rfl); (case wq => exact rfl))
  | with_reducible refine w_aUnl rfl ?_
  | with_reducible refine w_listF ?_
  | with_reducible refine w_brk ?_
  | with_reducible refine w_cnt ?_
  | with_reducible refine w_neg ?_
  | with_reducible refine w_gIntB ?_
  | simp only [wipeS, backS, List.set_cons_zero, List.set_cons_succ, List.getElem?_cons_zero, List.getElem?_cons_succ, Option.join_some, Option.join_none, Bool.not_true, Bool.not_false]))
local macro_rules | `(tactic| walk_at "wv") => `(tactic| ((repeat (walk_at "wv1"; try dsimp only)); try simp only [List.set_cons_zero, List.set_cons_succ]))
local macro_rules | `(tactic| walk_at "st") => `(tactic| simp only [startS, List.map_cons, List.map_nil, List.length_cons, List.length_nil, Nat.reduceAdd, Nat.reduceSub, List.replicate_succ, List.replicate_zero, List.cons_append, List.nil_append])

def lvF (n : Nat) (f : Nat → Option Nat) : List (Option Nat) := (List.range n).map f
section
variable {n : Nat} {f g : Nat → Option Nat} {i j : Nat}
theorem lvF_len : (lvF n f).length = n := by simp [lvF]
theorem lvF_get (h : i < n) : (lvF n f)[i]? = some (f i) := by
  unfold lvF
  rw [List.getElem?_map, List.getElem?_range h]
  rfl
theorem lvF_congr (h : ∀ i, i < n → f i = g i) : lvF n f = lvF n g := List.map_congr_left fun i hi => h i (List.mem_range.mp hi)
theorem lvF_set {v : Option Nat} : (lvF n f).set j v = lvF n fun x => if x = j then v else f x := by
  refine List.ext_getElem? fun i => ?_
  rcases Nat.lt_or_ge i n with h | h
  · rw [lvF_get h]
    by_cases e : i = j
    · subst e
      rw [List.getElem?_set_self (by rw [lvF_len]; exact h), if_pos rfl]
    · rw [List.getElem?_set_ne (Ne.symm e), lvF_get h, if_neg e]
  · rw [List.getElem?_eq_none (by rw [List.length_set, lvF_len]; exact h), List.getElem?_eq_none (by rw [lvF_len]; exact h)]
theorem set_lvF {r : Nat} : ((lvF n f).map dO).set j (.int (r : Nat)) = (lvF n fun x => if x = j then some r else f x).map dO := by
  rw [← lvF_set, List.map_set]
  rfl
theorem set_lvF0 : ((lvF n f).map dO).set j (.int 0) = (lvF n fun x => if x = j then some 0 else f x).map dO := set_lvF (r := 0)
theorem idx_succ (k : Nat) (p : Nat → Bool) : idx (k + 1) p = idx k p ++ if p k = true then [k] else [] := by
  unfold idx
  rw [List.range_succ, List.filter_append]
  congr 1
  by_cases c : p k = true
  · rw [if_pos c, List.filter_cons_of_pos c]
    rfl
  · rw [if_neg c, List.filter_cons_of_neg c]
    rfl
theorem fnd_lvF : fnd (lvF n f) j = true ↔ Fn n f j := by
  unfold fnd Fn
  rcases Nat.lt_or_ge j n with h | h
  · rw [lvF_get h]
    simp [h]
  · rw [List.getElem?_eq_none (by rw [lvF_len]; exact h)]
    simp
    omega
end
structure YOk (y : List (List Cho)) : Prop where
  len : y.length ≤ 20
  st : ∀ s ∈ y, s.length ≤ 1000
  cho : ∀ s ∈ y, ∀ c ∈ s, EndsIn y.length c
def Us (U : List (List Nat)) (i k : Nat) : Prop := ∃ u, U[i]? = some u ∧ k ∈ u
def Gs (gs : List Int) (i : Nat) : Prop := ((i : Nat) : Int) ∈ gs
structure UOk (y : List (List Cho)) (U : List (List Nat)) : Prop where
  len : U.length = y.length
  lt : ∀ (i : Nat) s u, y[i]? = some s → U[i]? = some u → u.length ≤ 1000 ∧ ∀ x ∈ u, x < s.length
section
variable {y : List (List Cho)} {U : List (List Nat)} {lv : List (Option Nat)} {i k : Nat} {s : List Cho} {u : List Nat} {c : Cho}
theorem edge_lt (hy : YOk y) {j : Nat} (h : Edge y i k j) : j < y.length := by
  obtain ⟨s, c, e, h1, h2, h3, h4⟩ := h
  have := (hy.cho s (List.mem_of_getElem? h1) c (List.mem_of_getElem? h2)).2 e h3
  omega
theorem us_lt (hU : UOk y U) (h : Us U i k) : i < y.length := by
  obtain ⟨u, h1, _⟩ := h
  rw [← hU.len]
  exact (List.getElem?_eq_some_iff.mp h1).1
theorem hit_iff (hy : YOk y) (h1 : y[i]? = some s) (h2 : s[k]? = some c) : hitC lv c = true ↔ ∃ j, Edge y i k j ∧ fnd lv j = true := by
  unfold hitC
  rw [List.any_eq_true]
  constructor
  · rintro ⟨e, he, q⟩
    have := (hy.cho s (List.mem_of_getElem? h1) c (List.mem_of_getElem? h2)).2 e he
    exact ⟨e.1.toNat, ⟨s, c, e, h1, h2, he, by omega⟩, q⟩
  · rintro ⟨j, ⟨s', c', e, g1, g2, g3, g4⟩, q⟩
    rw [h1] at g1
    cases g1
    rw [h2] at g2
    cases g2
    exact ⟨e, g3, by rw [g4, Int.toNat_natCast]; exact q⟩
theorem stay_iff (hy : YOk y) (h1 : y[i]? = some s) (h2 : s[k]? = some c) : stayC lv c = true ↔ ∀ j, Edge y i k j → fnd lv j = true := by
  unfold stayC
  rw [List.all_eq_true]
  constructor
  · rintro q j ⟨s', c', e, g1, g2, g3, g4⟩
    rw [h1] at g1
    cases g1
    rw [h2] at g2
    cases g2
    have := q e g3
    rw [g4, Int.toNat_natCast] at this
    exact this
  · rintro q e he
    have := (hy.cho s (List.mem_of_getElem? h1) c (List.mem_of_getElem? h2)).2 e he
    exact q e.1.toNat ⟨s, c, e, h1, h2, he, by omega⟩
theorem joinB_iff (hy : YOk y) (hU : UOk y U) (h1 : y[i]? = some s) (h2 : U[i]? = some u) (ev : Bool) : joinB lv s u ev = true ↔ Jn ev (Edge y) (Us U) (fun j => fnd lv j = true) i := by
  have us : ∀ k, Us U i k ↔ k ∈ u := fun k => ⟨fun ⟨u', g1, g2⟩ => by rw [h2] at g1; cases g1; exact g2, fun q => ⟨u, h2, q⟩⟩
  have val : ∀ k ∈ u, ((match s[k]? with
      | some c => hitC lv c
      | none => false) = true ↔ ∃ j, Edge y i k j ∧ fnd lv j = true) := fun k hk => by
    have hlt := (hU.lt i s u h1 h2).2 k hk
    rw [List.getElem?_eq_getElem hlt]
    exact hit_iff hy h1 (List.getElem?_eq_getElem hlt)
  unfold joinB Jn
  cases ev with
  | true =>
    simp only [if_true, Bool.and_eq_true, Bool.not_eq_true', List.isEmpty_eq_false_iff, List.all_map, List.all_eq_true, Function.comp_def, id]
    refine and_congr ⟨fun q => ?_, fun ⟨k, q⟩ e => ?_⟩ ⟨fun q k hk => ?_, fun q k hk => ?_⟩
    · obtain ⟨k, hk⟩ := List.exists_mem_of_ne_nil u q
      exact ⟨k, (us k).mpr hk⟩
    · rw [us, e] at q
      cases q
    · exact (val k ((us k).mp hk)).mp (q k ((us k).mp hk))
    · exact (val k hk).mpr (q k ((us k).mpr hk))
  | false =>
    simp only [Bool.false_eq_true, if_false, List.any_map, List.any_eq_true, Function.comp_def, id]
    constructor
    · rintro ⟨k, hk, q⟩
      obtain ⟨j, e, z⟩ := (val k hk).mp q
      exact ⟨k, j, (us k).mpr hk, e, z⟩
    · rintro ⟨k, j, hk, e, z⟩
      exact ⟨k, (us k).mp hk, (val k ((us k).mp hk)).mpr ⟨j, e, z⟩⟩
end
theorem inD_dO {n r : Nat} {f : Nat → Option Nat} : inD (.int (r : Nat)) ((lvF n f).map dO) = true ↔ ∃ i, i < n ∧ f i = some r := by
  unfold inD lvF
  rw [List.map_map, List.any_map, List.any_eq_true]
  constructor
  · rintro ⟨i, hi, q⟩
    refine ⟨i, List.mem_range.mp hi, ?_⟩
    have q' : eqP (dO (f i)) (.int (r : Nat)) = true := q
    cases e : f i with
    | none => rw [e] at q'; cases q'
    | some a =>
      rw [e] at q'
      have : ((a : Nat) : Int) = (r : Nat) := of_decide_eq_true q'
      rw [Int.ofNat_inj.mp this]
  · rintro ⟨i, hi, e⟩
    refine ⟨i, List.mem_range.mpr hi, ?_⟩
    show eqP (dO (f i)) (.int (r : Nat)) = true
    rw [e]
    exact decide_eq_true rfl
theorem flat_dO (lv : List (Option Nat)) : (lv.map dO).all flatD = true := by
  rw [List.all_map, List.all_eq_true]
  intro o _
  cases o <;> rfl
theorem ixN_nat {n i : Nat} (h : i < n) : ixN n (i : Int) = some i := by
  unfold ixN
  simp
  omega
theorem nones_start (n : Nat) : (List.replicate n [PyData.none]).flatten = (lvF n fun _ => none).map dO := by
  unfold lvF
  rw [List.map_map]
  induction n with
  | zero => rfl
  | succ n ih =>
    rw [List.replicate_succ', List.flatten_append, List.range_succ, List.map_append, ih]
    rfl
theorem levels_ok {y : List (List Cho)} {U : List (List Nat)} {gs : List Int} {ev : Bool} {k : PyData → Prop} (hy : YOk y) (hU : UOk y U) (hg : ∀ x ∈ gs, 0 ≤ x ∧ x < (y.length : Int)) (hgl : gs.length ≤ 1000)
    (h : ∀ f, (∀ i, i < y.length → ((f i).isSome = true ↔ Gl ev (Edge y) (Us U) (Gs gs) i)) → k (dV (lvF y.length f))) : (den_levels [dY y, dU U, dL gs, .bool ev]).okTo k := by
  have hl := hy.len
  unfold den_levels body_levels dY dL dU
  refine w_denP ?_
  walk_at "st"
  walk_at "wv"
  refine ⟨by decide, ?_⟩
  walk_at "wv"
  rw [List.length_map]
  refine ⟨[.none], (y.length : Nat), rfl, rfl, ⟨by simp; omega, by omega, by omega⟩, ?_⟩
  rw [Int.toNat_natCast, nones_start]
  walk_at "wv"
  refine ⟨gs.map PyData.int, rfl, ?_⟩
  refine loop_ok (fun i S => ∃ (f : Nat → Option Nat) (a : Option PyData), S = [some (.dat (.tuple (y.map dS))), some (.dat (.list (U.map dN))), some (.dat (.list (gs.map PyData.int))), some (.dat (.bool ev)), some (.own ((lvF y.length f).map dO)), a.map SV.dat, none, none, none] ∧
    ∀ x, ((((x : Nat) : Int) ∈ gs.take i) → f x = some 0) ∧ ((((x : Nat) : Int) ∉ gs.take i) → f x = none)) ?_ ?_ ⟨fun _ => none, none, rfl, fun x => ⟨fun z => (nomatch z), fun _ => rfl⟩⟩
  · rintro i d S hi ⟨f, a, rfl, hf⟩
    rw [List.getElem?_map] at hi
    obtain ⟨x, hx, rfl⟩ := Option.map_eq_some_iff.mp hi
    obtain ⟨x0, x1⟩ := hg x (List.mem_of_getElem? hx)
    walk_at "wv"
    have e : x = ((x.toNat : Nat) : Int) := by omega
    refine ⟨x.toNat, ?_, ?_⟩
    · rw [List.length_map, lvF_len, e]
      exact ixN_nat (by omega)
    · walk_at "wv"
      refine ⟨_, some (.int x), by rw [set_lvF0]; rfl, fun z => ?_⟩
      rw [List.take_add_one, hx]
      obtain ⟨h1, h2⟩ := hf z
      by_cases c : z = x.toNat
      · subst c
        simp
        omega
      · have c' : ¬ ((z : Nat) : Int) = x := by omega
        simp [c, c'] 
        exact ⟨h1, h2⟩
  · rintro S ⟨f, a, rfl, hf⟩
    walk_at "wv"
    rw [List.length_map, List.take_length] at hf
    have I0 : LvI ev y.length (Edge y) (Us U) (Gs gs) f 0 := lvi_start fun i _ => hf i
    have m0 := msr_le (n := y.length) (f := f) (r := 0)
    refine while_ok (m := msr y.length f 0) (fun m S => ∃ (f : Nat → Option Nat) (r : Nat) (a c : Option PyData) (b : Option SV), S = [some (.dat (.tuple (y.map dS))), some (.dat (.list (U.map dN))), some (.dat (.list (gs.map PyData.int))), some (.dat (.bool ev)), some (.own ((lvF y.length f).map dO)), a.map SV.dat, some (.dat (.int (r : Nat))), b, c.map SV.dat] ∧
      LvI ev y.length (Edge y) (Us U) (Gs gs) f r ∧ m = msr y.length f r) ?_ (by unfold fuel; omega) ⟨f, 0, a, none, none, rfl, I0, rfl⟩
    · rintro m S ⟨f, r, a, c, b, rfl, I, rfl⟩
      walk_at "wv"
      refine ⟨⟨rfl, flat_dO _⟩, ?_⟩
      walk_at "wv"
      by_cases q : inD (.int (r : Nat)) ((lvF y.length f).map dO) = true
      · simp only [q, Bool.false_eq_true, if_false, if_true]
        have q' := inD_dO.mp q
        walk_at "wv"
        let g : Nat → Bool := fun i => (f i).isNone && joinB (lvF y.length f) ((y[i]?).getD []) ((U[i]?).getD []) ev
        have hgI : ∀ i, i < y.length → (g i = true ↔ f i = none ∧ Jn ev (Edge y) (Us U) (Fn y.length f) i) := fun i hi => by
          have hyi : y[i]? = some y[i] := List.getElem?_eq_getElem hi
          have hui : U[i]? = some (U[i]'(by rw [hU.len]; exact hi)) := List.getElem?_eq_getElem _
          show ((f i).isNone && joinB (lvF y.length f) ((y[i]?).getD []) ((U[i]?).getD []) ev) = true ↔ _
          have ef : (fun j => fnd (lvF y.length f) j = true) = Fn y.length f := funext fun j => propext fnd_lvF
          rw [hyi, hui, Option.getD_some, Option.getD_some, Bool.and_eq_true, joinB_iff hy hU hyi hui, ef, Option.isNone_iff_eq_none]
        refine w_lcO rfl (by cases a <;> cases c <;> rfl) ?_
        refine lcO_ok (ds := (lvF y.length f).map dO) (fun k acc S => acc = (idx k g).map (fun k => .int (k : Nat)) ∧ S = [some (.dat (.tuple (y.map dS))), some (.dat (.list (U.map dN))), some (.dat (.list (gs.map PyData.int))), some (.dat (.bool ev)), some (.own ((lvF y.length f).map dO)), none, some (.dat (.int (r + 1 : Nat))), b, none]) ?_ (by rw [List.length_map, lvF_len]; omega) ?_ ?_ ⟨rfl, rfl⟩
        · rintro k acc S ⟨_, rfl⟩
          rfl
        · rintro k d acc S hk ⟨rfl, rfl⟩
          rw [List.getElem?_map] at hk
          obtain ⟨o, ho, rfl⟩ := Option.map_eq_some_iff.mp hk
          have hkn : k < y.length := by
            have := (List.getElem?_eq_some_iff.mp ho).1
            rw [lvF_len] at this
            exact this
          rw [lvF_get hkn] at ho
          cases ho
          unfold itO
          rw [if_pos rfl]
          walk_at "wv"
          rw [isNone_dO]
          have hyk : y[k]? = some y[k] := List.getElem?_eq_getElem hkn
          have huk : U[k]? = some (U[k]'(by rw [hU.len]; exact hkn)) := List.getElem?_eq_getElem _
          have gk : g k = ((f k).isNone && joinB (lvF y.length f) y[k] (U[k]'(by rw [hU.len]; exact hkn)) ev) := by
            show ((f k).isNone && joinB (lvF y.length f) ((y[k]?).getD []) ((U[k]?).getD []) ev) = _
            rw [hyk, huk]
            rfl
          cases e : (f k).isNone with
          | false =>
            walk_at "wv"
            rw [idx_succ, gk, e]
            exact ⟨by simp, by first | trivial | rfl⟩
          | true =>
            walk_at "wv"
            refine okTo_eq (a := dS y[k]) (ixD_nat (by rw [List.getElem?_map, hyk]; rfl)) ?_
            walk_at "wv"
            refine okTo_eq (a := dN (U[k]'(by rw [hU.len]; exact hkn))) (ixD_nat (by rw [List.getElem?_map, huk]; rfl)) ?_
            walk_at "wv"
            obtain ⟨z1, z2⟩ := hU.lt k _ _ hyk huk
            refine ⟨rfl, joins_ok (lv := lvF y.length f) (fun c hc => by rw [lvF_len]; exact hy.cho _ (List.getElem_mem hkn) c hc) z2 z1 ⟨rfl, ?_⟩⟩
            walk_at "wv"
            rw [idx_succ, gk, e, Bool.true_and]
            cases joinB (lvF y.length f) y[k] (U[k]'(by rw [hU.len]; exact hkn)) ev with
            | true =>
              walk_at "wv"
              exact ⟨by simp, by first | trivial | rfl⟩
            | false =>
              walk_at "wv"
              exact ⟨by simp, by first | trivial | rfl⟩
        · rintro acc S ⟨rfl, rfl⟩
          rw [List.length_map, lvF_len]
          walk_at "wv"
          refine ⟨_, rfl, ?_⟩
          refine loop_ok (fun i S => ∃ (f2 : Nat → Option Nat) (a : Option PyData), S = [some (.dat (.tuple (y.map dS))), some (.dat (.list (U.map dN))), some (.dat (.list (gs.map PyData.int))), some (.dat (.bool ev)), some (.own ((lvF y.length f2).map dO)), a.map SV.dat, some (.dat (.int (r + 1 : Nat))), some (.dat (.list ((idx y.length g).map fun k => .int (k : Nat)))), c.map SV.dat] ∧
            ∀ x, f2 x = if x ∈ (idx y.length g).take i then some (r + 1) else f x) ?_ ?_ ⟨f, a, rfl, fun x => rfl⟩
          · rintro i d S hi ⟨f2, a, rfl, hf2⟩
            rw [List.getElem?_map] at hi
            obtain ⟨x, hx, rfl⟩ := Option.map_eq_some_iff.mp hi
            have hxn := (mem_idx.mp (List.mem_of_getElem? hx)).1
            walk_at "wv"
            refine ⟨x, by rw [List.length_map, lvF_len]; exact ixN_nat hxn, ?_⟩
            walk_at "wv"
            refine ⟨_, some (.int (x : Nat)), by rw [set_lvF]; rfl, fun z => ?_⟩
            rw [List.take_add_one, hx, hf2 z]
            by_cases e : z = x
            · simp [e]
            · simp [e]
          · rintro S ⟨f2, a, rfl, hf2⟩
            rw [List.length_map, List.take_length] at hf2
            have ef : ∀ i, i < y.length → f2 i = nextF g f r i := fun i hi => by
              rw [hf2 i]
              unfold nextF
              by_cases e : g i = true
              · rw [if_pos e, if_pos (mem_idx.mpr ⟨hi, e⟩)]
              · rw [if_neg e, if_neg fun z => e (mem_idx.mp z).2]
            rw [lvF_congr ef]
            exact ⟨_, msr_next I (fun i hi z => ((hgI i hi).mp z).1) q', _, r + 1, a, c, _, rfl, I.next hgI, rfl⟩
      · simp only [q, Bool.false_eq_true, if_false]
        have q' : ¬ ∃ i, i < y.length ∧ f i = some r := fun z => q (inD_dO.mpr z)
        walk_at "wv"
        exact h f fun i hi => I.done (fun i t => by have := hg _ t; omega) (fun s k u => us_lt hU u) q' hi
end Bo

/-! ### the four sets -/
namespace Bo
open PySem L2
local macro_rules | `(tactic| walk_at "wv1") => `(tactic| (first
  | with_reducible refine w_seq ?_
  | with_reducible refine w_asg ?_
  | ((with_reducible refine w_var (d := ?wd) ?wh ?wq); (case wh => exact rfl))
  | with_reducible refine w_c ?_
  | with_reducible refine w_op ?_
  | with_reducible refine w_un ?_
  | with_reducible refine w_and ?_
  | with_reducible refine w_or ?_
  | with_reducible refine w_not ?_
  | with_reducible refine w_toB ?_
  | with_reducible refine w_toI ?_
  | with_reducible refine w_tst ?_
  | with_reducible refine w_tnot ?_
  | with_reducible refine w_tand ?_
  | with_reducible refine w_tor ?_
  | with_reducible refine w_tru ?_
  | with_reducible refine w_if ?_
  | with_reducible refine w_chain ?_
  | with_reducible refine w_nil ?_
  | with_reducible refine w_cons ?_
  | with_reducible refine w_tup ?_
  | with_reducible refine w_lst ?_
  | with_reducible refine w_lstF ?_
  | with_reducible refine w_call ?_
  | with_reducible refine w_callP ?_
  | with_reducible refine w_callL ?_
  | ((with_reducible refine w_own (ds := ?wd) ?wh ?wq); (case wh => exact rfl))
  | with_reducible refine w_callB ?_
  | ((with_reducible refine w_callS (ns := ?wd) ?wh ?wq); (case wh => exact rfl))
  | with_reducible refine w_consO ?_
  | with_reducible refine w_fr ?_
  | with_reducible refine w_lenO ?_
  | with_reducible refine w_tupleO ?_
  | with_reducible refine w_listO ?_
  | with_reducible refine w_ixO ?_
  | with_reducible refine w_inO ?_
  | with_reducible refine w_truO ?_
  | with_reducible refine w_app ?_
  | with_reducible refine w_setI ?_
  | with_reducible refine w_sl ?_
  | with_reducible refine w_noPart ?_
  | with_reducible refine w_part ?_
  | with_reducible refine w_iter ?_
  | with_reducible refine w_iterT ?_
  | with_reducible refine w_range1 ?_
  | with_reducible refine w_listRg ?_
  | with_reducible refine w_enumK ?_
  | with_reducible refine w_zipK ?_
  | with_reducible refine w_repF ?_
  | with_reducible refine w_lc ?_
  | with_reducible refine w_yes ?_
  | with_reducible refine w_next ?_
  | with_reducible refine w_ret ?_
  | with_reducible refine w_retN ?_
  | with_reducible refine w_drop ?_
  | with_reducible refine w_aName ?_
  | with_reducible refine w_aTup rfl ?_
  | with_reducible refine w_aNil ?_
  | with_reducible refine w_aCons ?_
  | with_reducible refine w_ifS ?_
  | with_reducible refine w_ownS ?_
  | ((with_reducible refine w_frz (ds := ?wd) ?wh ?wq); (case wh => exact rfl))
  | with_reducible refine w_for ?_
  | ((with_reducible refine w_aug (a := ?wd) ?wh ?wq); (case wh => exact rfl))
  | with_reducible refine w_gI ?_
  | with_reducible refine w_gIB ?_
  | with_reducible refine w_gIC ?_
  | with_reducible refine w_gEqI ?_
  | with_reducible refine w_gNeI ?_
  | with_reducible refine w_gIxL ?_
  | with_reducible refine w_gIxT ?_
  | with_reducible refine w_gCat ?_
  | with_reducible refine w_gCatT ?_
  | with_reducible refine w_isN ?_
  | with_reducible refine w_notN ?_
  | with_reducible refine w_gInL ?_
  | with_reducible refine w_gLenL ?_
  | with_reducible refine w_gLenT ?_
  | with_reducible refine w_gIntI ?_
  | with_reducible refine w_gTuple ?_
  | with_reducible refine w_gBools ?_
  | with_reducible refine w_gInts ?_
  | with_reducible refine w_gNeD ?_
  | with_reducible refine w_gEqD ?_
  | with_reducible refine w_gRevL ?_
  | with_reducible refine w_gSlL ?_
  | with_reducible refine w_gSlT ?_
  | with_reducible refine w_itT ?_
  | with_reducible refine w_itF ?_
  | with_reducible refine w_itTT ?_
  | with_reducible refine w_itFT ?_
  | with_reducible refine w_gList ?_
  | with_reducible refine w_gSortI ?_
  | with_reducible refine w_range2 ?_
  | ((with_reducible refine w_lcO (ds := ?wd) ?wh ?wq ?wr); (case wh => exact rfl); (case wq => exact rfl))
  | with_reducible refine w_aUnl rfl ?_
  | with_reducible refine w_listF ?_
  | with_reducible refine w_brk ?_
  | with_reducible refine w_cnt ?_
  | with_reducible refine w_neg ?_
  | with_reducible refine w_gIntB ?_
  | simp only [wipeS, backS, List.set_cons_zero, List.set_cons_succ, List.getElem?_cons_zero, List.getElem?_cons_succ, Option.join_some, Option.join_none, Bool.not_true, Bool.not_false]))
local macro_rules | `(tactic| walk_at "wv") => `(tactic| ((repeat (walk_at "wv1"; try dsimp only)); try simp only [List.set_cons_zero, List.set_cons_succ]))
local macro_rules | `(tactic| walk_at "st") => `(tactic| simp only [startS, List.map_cons, List.map_nil, List.length_cons, List.length_nil, Nat.reduceAdd, Nat.reduceSub, List.replicate_succ, List.replicate_zero, List.cons_append, List.nil_append])

open Classical in
noncomputable def idxP (n : Nat) (P : Nat → Prop) : List Nat := idx n fun i => decide (P i)
theorem mem_idxP {n i : Nat} {P : Nat → Prop} : i ∈ idxP n P ↔ i < n ∧ P i := by
  unfold idxP
  rw [mem_idx]
  simp
theorem idx_idxP {n : Nat} {p : Nat → Bool} {P : Nat → Prop} (h : ∀ i, i < n → (p i = true ↔ P i)) : idx n p = idxP n P := by
  classical
  refine idx_congr fun i hi => ?_
  by_cases c : P i
  · rw [(h i hi).mpr c, decide_eq_true c]
  · have : p i = false := by
      cases e : p i with
      | false => rfl
      | true => exact absurd ((h i hi).mp e) c
    rw [this, decide_eq_false c]
theorem idx_len {n : Nat} {p : Nat → Bool} : (idx n p).length ≤ n := by
  unfold idx
  exact Nat.le_trans (List.length_filter_le _ _) (by rw [List.length_range]; exact Nat.le_refl _)
theorem usable_uok {y : List (List Cho)} {al tg : List Int} (hy : YOk y) : UOk y (usable y al tg) where
  len := usable_len
  lt := fun i s u h1 h2 => by
    rw [usable_get h1] at h2
    cases h2
    have := hy.st s (List.mem_of_getElem? h1)
    split
    · rw [List.length_range]
      exact ⟨this, fun x hx => List.mem_range.mp hx⟩
    · exact ⟨Nat.zero_le _, fun x hx => nomatch hx⟩
theorem us_usable {y : List (List Cho)} {al tg : List Int} {i k : Nat} : Us (usable y al tg) i k ↔ ∃ s, y[i]? = some s ∧ k < s.length ∧ ((i : Nat) : Int) ∈ al ∧ ((i : Nat) : Int) ∉ tg := by
  constructor
  · rintro ⟨u, h1, h2⟩
    have hi : i < y.length := by
      have := (List.getElem?_eq_some_iff.mp h1).1
      rw [usable_len] at this
      exact this
    have e := List.getElem?_eq_getElem hi
    rw [usable_get e] at h1
    cases h1
    refine ⟨_, e, ?_⟩
    split at h2
    · rename_i c
      unfold onWay at c
      rw [Bool.and_eq_true] at c
      exact ⟨List.mem_range.mp h2, of_decide_eq_true c.1, by simpa using c.2⟩
    · cases h2
  · rintro ⟨s, h1, h2, h3, h4⟩
    refine ⟨_, usable_get h1, ?_⟩
    have c : onWay al tg i = true := by
      unfold onWay
      rw [decide_eq_true h3, decide_eq_false h4]
      rfl
    rw [if_pos c]
    exact List.mem_range.mpr h2
abbrev Uy (y : List (List Cho)) (al tg : List Int) : Nat → Nat → Prop := Us (usable y al tg)
structure TOk (y : List (List Cho)) (tg : List Int) : Prop where
  mem : ∀ x ∈ tg, 0 ≤ x ∧ x < (y.length : Int)
  len : tg.length ≤ 1000
theorem possible_ok {y : List (List Cho)} {al tg : List Int} {k : PyData → Prop} (hy : YOk y) (ht : TOk y tg) (h : k (dN (idxP y.length (Rch (Edge y) (Uy y al tg) (Gs tg))))) : (den_possible [dY y, dL al, dL tg]).okTo k := by
  have hl := hy.len
  unfold den_possible body_possible
  refine w_denP ?_
  walk_at "st"
  walk_at "wv"
  refine ⟨rfl, choices_on_way_ok (by omega) hy.st ?_⟩
  walk_at "wv"
  refine ⟨rfl, levels_ok hy (usable_uok hy) ht.mem ht.len fun f hf => ?_⟩
  walk_at "wv"
  refine ⟨rfl, found_states_ok (by rw [lvF_len]; omega) ?_⟩
  rw [lvF_len, idx_idxP (P := Rch (Edge y) (Uy y al tg) (Gs tg)) fun i hi => ?_]
  · exact h
  · rw [fnd_lvF]
    have := hf i hi
    unfold Gl at this
    simp only [Bool.false_eq_true, if_false] at this
    unfold Fn
    rw [this]
    exact ⟨fun z => z.2, fun z => ⟨hi, z⟩⟩
theorem none_lc {a b c d e : Option SV} {lv : List (Option Nat)} : lcF (aTup 2 (aCons (aName 5) (aCons (aName 6) aNil))) (vTst (vOp (fun d e => R.when (isNone e = true) (.ok (.bool (isNone d)))) (vVar 6) (vC .none))) (vVar 5) [5, 6] (enumD (lv.map dO)) [a, b, c, d, e, none, none]
    = .ok ((idx lv.length fun i => !fnd lv i).map (fun k => .int (k : Nat)), [a, b, c, d, e, none, none]) := by
  rw [lc_pure (fun d => match d with
    | .tuple [_, z] => isNone z
    | _ => false) (fun d => match d with
    | .tuple [z, _] => z
    | _ => .none) fun d hd => ?_, enum_filter (fun i => !fnd lv i)]
  · rw [List.length_map]
  · intro i d hd
    rw [List.getElem?_map] at hd
    obtain ⟨o, h1, rfl⟩ := Option.map_eq_some_iff.mp hd
    refine ⟨?_, rfl⟩
    show isNone (dO o) = _
    unfold fnd
    rw [isNone_dO, h1]
    cases o <;> rfl
  · obtain ⟨i, hi⟩ := List.getElem?_of_mem hd
    have hlt : i < lv.length := by
      have := (List.getElem?_eq_some_iff.mp hi).1
      rw [enumD_len, List.length_map] at this
      exact this
    rw [enumD_get (d := dO lv[i]) (by rw [List.getElem?_map, List.getElem?_eq_getElem hlt]; rfl)] at hi
    cases hi
    exact ⟨_, rfl, rfl, fun _ => rfl, rfl⟩
theorem avoidable_ok {y : List (List Cho)} {al tg : List Int} {k : PyData → Prop} (hy : YOk y) (ht : TOk y tg) (h : k (dN (idxP y.length (Avo (Edge y) (Uy y al tg) (Gs tg) y.length)))) : (den_avoidable [dY y, dL al, dL tg]).okTo k := by
  have hl := hy.len
  unfold den_avoidable body_avoidable
  refine w_denP ?_
  walk_at "st"
  walk_at "wv"
  refine ⟨rfl, choices_on_way_ok (by omega) hy.st ?_⟩
  walk_at "wv"
  refine ⟨rfl, levels_ok hy (usable_uok hy) ht.mem ht.len fun f hf => ?_⟩
  walk_at "wv"
  refine ⟨_, _, rfl, rfl, ⟨rfl, by rw [enumD_len, List.length_map, lvF_len]; omega⟩, okTo_eq none_lc ?_⟩
  walk_at "wv"
  rw [lvF_len, idx_idxP (P := Avo (Edge y) (Uy y al tg) (Gs tg) y.length) fun i hi => ?_]
  · exact h
  · have := hf i hi
    unfold Gl at this
    simp only [if_true] at this
    have e : fnd (lvF y.length f) i = (f i).isSome := by
      unfold fnd
      rw [lvF_get hi]
      rfl
    rw [e]
    unfold Avo
    rw [← this]
    cases (f i).isSome <;> simp [hi]
theorem dN_dL (l : List Nat) : dN l = dL (l.map fun k => ((k : Nat) : Int)) := by
  unfold dN dL
  rw [List.map_map]
  rfl
theorem gs_map {l : List Nat} {i : Nat} : Gs (l.map fun k => ((k : Nat) : Int)) i ↔ i ∈ l := by
  unfold Gs
  rw [List.mem_map]
  exact ⟨fun ⟨j, h, e⟩ => by rw [← Int.ofNat_inj.mp e]; exact h, fun h => ⟨i, h, rfl⟩⟩
theorem certain_ok {y : List (List Cho)} {al tg : List Int} {k : PyData → Prop} (hy : YOk y) (ht : TOk y tg) (h : k (dN (idxP y.length (Cer (Edge y) (Uy y al tg) (Gs tg) y.length)))) : (den_certain [dY y, dL al, dL tg]).okTo k := by
  have hl := hy.len
  unfold den_certain body_certain
  refine w_denP ?_
  walk_at "st"
  walk_at "wv"
  refine ⟨rfl, choices_on_way_ok (by omega) hy.st ?_⟩
  walk_at "wv"
  refine ⟨rfl, avoidable_ok hy ht ?_⟩
  walk_at "wv"
  rw [dN_dL]
  refine ⟨rfl, levels_ok hy (usable_uok hy) (fun x hx => ?_) (by rw [List.length_map]; exact Nat.le_trans idx_len (by omega)) fun f hf => ?_⟩
  · obtain ⟨j, hj, rfl⟩ := List.mem_map.mp hx
    have := (mem_idxP.mp hj).1
    omega
  walk_at "wv"
  refine ⟨_, _, rfl, rfl, ⟨rfl, by rw [enumD_len, List.length_map, lvF_len]; omega⟩, okTo_eq none_lc ?_⟩
  walk_at "wv"
  rw [lvF_len, idx_idxP (P := Cer (Edge y) (Uy y al tg) (Gs tg) y.length) fun i hi => ?_]
  · exact h
  · have := hf i hi
    unfold Gl at this
    simp only [Bool.false_eq_true, if_false] at this
    have e : fnd (lvF y.length f) i = (f i).isSome := by
      unfold fnd
      rw [lvF_get hi]
      rfl
    have eg : Gs ((idxP y.length (Avo (Edge y) (Uy y al tg) (Gs tg) y.length)).map fun k => ((k : Nat) : Int)) = Avo (Edge y) (Uy y al tg) (Gs tg) y.length := by
      funext j
      rw [gs_map, mem_idxP]
      exact propext ⟨fun z => z.2, fun z => ⟨z.1, z⟩⟩
    rw [eg] at this
    rw [e]
    unfold Cer
    rw [← this]
    cases (f i).isSome <;> simp [hi]
end Bo

/-! ### attainable: choices are given up -/
namespace Bo
open PySem L2
local macro_rules | `(tactic| walk_at "wv1") => `(tactic| (first
  | with_reducible refine w_seq ?_
  | with_reducible refine w_asg ?_
  | ((with_reducible refine w_var (d := ?wd) ?wh ?wq); (case wh => exact rfl))
  | with_reducible refine w_c ?_
  | with_reducible refine w_op ?_
  | with_reducible refine w_un ?_
  | with_reducible refine w_and ?_
  | with_reducible refine w_or ?_
  | with_reducible refine w_not ?_
  | with_reducible refine w_toB ?_
  | with_reducible refine w_toI ?_
  | with_reducible refine w_tst ?_
  | with_reducible refine w_tnot ?_
  | with_reducible refine w_tand ?_
  | with_reducible refine w_tor ?_
  | with_reducible refine w_tru ?_
  | with_reducible refine w_if ?_
  | with_reducible refine w_chain ?_
  | with_reducible refine w_nil ?_
  | with_reducible refine w_cons ?_
  | with_reducible refine w_tup ?_
  | with_reducible refine w_lst ?_
  | with_reducible refine w_lstF ?_
  | with_reducible refine w_call ?_
  | with_reducible refine w_callP ?_
  | with_reducible refine w_callL ?_
  | ((with_reducible refine w_own (ds := ?wd) ?wh ?wq); (case wh => exact rfl))
  | with_reducible refine w_callB ?_
  | ((with_reducible refine w_callS (ns := ?wd) ?wh ?wq); (case wh => exact rfl))
  | with_reducible refine w_consO ?_
  | with_reducible refine w_fr ?_
  | with_reducible refine w_lenO ?_
  | with_reducible refine w_tupleO ?_
  | with_reducible refine w_listO ?_
  | with_reducible refine w_ixO ?_
  | with_reducible refine w_inO ?_
  | with_reducible refine w_truO ?_
  | with_reducible refine w_app ?_
  | with_reducible refine w_setI ?_
  | with_reducible refine w_sl ?_
  | with_reducible refine w_noPart ?_
  | with_reducible refine w_part ?_
  | with_reducible refine w_iter ?_
  | with_reducible refine w_iterT ?_
  | with_reducible refine w_range1 ?_
  | with_reducible refine w_listRg ?_
  | with_reducible refine w_enumK ?_
  | with_reducible refine w_zipK ?_
  | with_reducible refine w_repF ?_
  | with_reducible refine w_lc ?_
  | with_reducible refine w_yes ?_
  | with_reducible refine w_next ?_
  | with_reducible refine w_ret ?_
  | with_reducible refine w_retN ?_
  | with_reducible refine w_drop ?_
  | with_reducible refine w_aName ?_
  | with_reducible refine w_aTup rfl ?_
  | with_reducible refine w_aNil ?_
  | with_reducible refine w_aCons ?_
  | with_reducible refine w_ifS ?_
  | with_reducible refine w_ownS ?_
  | ((with_reducible refine w_frz (ds := ?wd) ?wh ?wq); (case wh => exact rfl))
  | with_reducible refine w_for ?_
  | ((with_reducible refine w_aug (a := ?wd) ?wh ?wq); (case wh => exact rfl))
  | with_reducible refine w_gI ?_
  | with_reducible refine w_gIB ?_
  | with_reducible refine w_gIC ?_
  | with_reducible refine w_gEqI ?_
  | with_reducible refine w_gNeI ?_
  | with_reducible refine w_gIxL ?_
  | with_reducible refine w_gIxT ?_
  | with_reducible refine w_gCat ?_
  | with_reducible refine w_gCatT ?_
  | with_reducible refine w_isN ?_
  | with_reducible refine w_notN ?_
  | with_reducible refine w_gInL ?_
  | with_reducible refine w_gLenL ?_
  | with_reducible refine w_gLenT ?_
  | with_reducible refine w_gIntI ?_
  | with_reducible refine w_gTuple ?_
  | with_reducible refine w_gBools ?_
  | with_reducible refine w_gInts ?_
  | with_reducible refine w_gNeD ?_
  | with_reducible refine w_gEqD ?_
  | with_reducible refine w_gRevL ?_
  | with_reducible refine w_gSlL ?_
  | with_reducible refine w_gSlT ?_
  | with_reducible refine w_itT ?_
  | with_reducible refine w_itF ?_
  | with_reducible refine w_itTT ?_
  | with_reducible refine w_itFT ?_
  | with_reducible refine w_gList ?_
  | with_reducible refine w_gSortI ?_
  | with_reducible refine w_range2 ?_
  | ((with_reducible refine w_lcO (ds := ?wd) ?wh ?wq ?wr); (case wh => exact rfl); (case wq => exact rfl))
  | with_reducible refine w_aUnl rfl ?_
  | with_reducible refine w_listF ?_
  | with_reducible refine w_brk ?_
  | with_reducible refine w_cnt ?_
  | with_reducible refine w_neg ?_
  | with_reducible refine w_gIntB ?_
  | simp only [wipeS, backS, List.set_cons_zero, List.set_cons_succ, List.getElem?_cons_zero, List.getElem?_cons_succ, Option.join_some, Option.join_none, Bool.not_true, Bool.not_false]))
local macro_rules | `(tactic| walk_at "wv") => `(tactic| ((repeat (walk_at "wv1"; try dsimp only)); try simp only [List.set_cons_zero, List.set_cons_succ]))
local macro_rules | `(tactic| walk_at "st") => `(tactic| simp only [startS, List.map_cons, List.map_nil, List.length_cons, List.length_nil, Nat.reduceAdd, Nat.reduceSub, List.replicate_succ, List.replicate_zero, List.cons_append, List.nil_append])

def keepU (lv : List (Option Nat)) (s : List Cho) (u : List Nat) : List Nat := u.filter fun k => match s[k]? with
  | some c => stayC lv c
  | none => false
def keepL (lv : List (Option Nat)) (y : List (List Cho)) (U : List (List Nat)) : List (List Nat) := List.zipWith (keepU lv) y U
def total (U : List (List Nat)) : Nat := (U.map List.length).sum
section
variable {lv : List (Option Nat)} {y : List (List Cho)} {U : List (List Nat)}
theorem keepL_get {i : Nat} {s : List Cho} {u : List Nat} (h1 : y[i]? = some s) (h2 : U[i]? = some u) : (keepL lv y U)[i]? = some (keepU lv s u) := by
  unfold keepL
  rw [List.getElem?_zipWith, h1, h2]
theorem keepL_len (h : U.length = y.length) : (keepL lv y U).length = y.length := by
  unfold keepL
  rw [List.length_zipWith, h, Nat.min_self]
theorem filter_same {α : Type} {p : α → Bool} : ∀ {l : List α}, (l.filter p).length = l.length → l.filter p = l
  | [], _ => rfl
  | a :: l, h => by
    by_cases c : p a = true
    · rw [List.filter_cons_of_pos c] at h ⊢
      rw [filter_same (by simpa using h)]
    · rw [List.filter_cons_of_neg c, List.length_cons] at h
      have := List.length_filter_le p l
      omega
theorem total_keep : ∀ {y : List (List Cho)} {U : List (List Nat)}, U.length = y.length → total (keepL lv y U) ≤ total U ∧ (total (keepL lv y U) = total U → keepL lv y U = U)
  | [], [], _ => ⟨Nat.le_refl _, fun _ => rfl⟩
  | s :: y, u :: U, h => by
    obtain ⟨h1, h2⟩ := total_keep (y := y) (U := U) (by simpa using h)
    have h3 : (keepU lv s u).length ≤ u.length := List.length_filter_le _ _
    have e1 : total (keepL lv (s :: y) (u :: U)) = (keepU lv s u).length + total (keepL lv y U) := rfl
    have e2 : total (u :: U) = u.length + total U := rfl
    rw [e1, e2]
    refine ⟨by omega, fun q => ?_⟩
    show keepU lv s u :: keepL lv y U = u :: U
    have e3 : (keepU lv s u).length = u.length := by omega
    have e4 : keepU lv s u = u := filter_same (p := fun k => match s[k]? with
      | some c => stayC lv c
      | none => false) e3
    rw [h2 (by omega), e4]
theorem us_keep (hy : YOk y) (hU : UOk y U) {i k : Nat} : Us (keepL lv y U) i k ↔ Us U i k ∧ ∀ j, Edge y i k j → fnd lv j = true := by
  have main : ∀ (s : List Cho) (u : List Nat), y[i]? = some s → U[i]? = some u → (k ∈ keepU lv s u ↔ k ∈ u ∧ ∀ j, Edge y i k j → fnd lv j = true) := fun s u h1 h2 => by
    unfold keepU
    rw [List.mem_filter]
    refine and_congr_right fun hk => ?_
    have hlt := (hU.lt i s u h1 h2).2 k hk
    rw [List.getElem?_eq_getElem hlt]
    exact stay_iff hy h1 (List.getElem?_eq_getElem hlt)
  constructor
  · rintro ⟨v, h1, h2⟩
    have hi : i < y.length := by
      have := (List.getElem?_eq_some_iff.mp h1).1
      rw [keepL_len hU.len] at this
      exact this
    have e1 := List.getElem?_eq_getElem hi
    have e2 : U[i]? = some (U[i]'(by rw [hU.len]; exact hi)) := List.getElem?_eq_getElem _
    rw [keepL_get e1 e2] at h1
    cases h1
    obtain ⟨q1, q2⟩ := (main _ _ e1 e2).mp h2
    exact ⟨⟨_, e2, q1⟩, q2⟩
  · rintro ⟨⟨u, h1, h2⟩, h3⟩
    have hi : i < y.length := us_lt hU ⟨u, h1, h2⟩
    have e1 := List.getElem?_eq_getElem hi
    exact ⟨_, keepL_get e1 h1, (main _ _ e1 h1).mpr ⟨h2, h3⟩⟩
theorem keep_uok (hU : UOk y U) : UOk y (keepL lv y U) where
  len := keepL_len hU.len
  lt := fun i s u h1 h2 => by
    have hi := (List.getElem?_eq_some_iff.mp h1).1
    have e2 : U[i]? = some (U[i]'(by rw [hU.len]; exact hi)) := List.getElem?_eq_getElem _
    rw [keepL_get h1 e2] at h2
    cases h2
    obtain ⟨q1, q2⟩ := hU.lt i s _ h1 e2
    exact ⟨Nat.le_trans (List.length_filter_le _ _) q1, fun x hx => q2 x (List.mem_filter.mp hx).1⟩
theorem total_le (hy : YOk y) (hU : UOk y U) : total U ≤ 20000 := by
  have gen : ∀ {U : List (List Nat)}, (∀ u ∈ U, u.length ≤ 1000) → total U ≤ 1000 * U.length := fun {U} => by
    induction U with
    | nil => exact fun _ => Nat.zero_le _
    | cons u U ih =>
      intro h
      have h1 := h u List.mem_cons_self
      have h2 := ih fun v hv => h v (List.mem_cons_of_mem _ hv)
      have e2 : total (u :: U) = u.length + total U := rfl
      rw [e2, List.length_cons]
      omega
  have := gen (U := U) fun u hu => by
    obtain ⟨i, hi⟩ := List.getElem?_of_mem hu
    have hl := (List.getElem?_eq_some_iff.mp hi).1
    rw [hU.len] at hl
    exact (hU.lt i _ u (List.getElem?_eq_getElem hl) hi).1
  have h2 := hy.len
  have h3 := hU.len
  omega
theorem eqv_ints : ∀ ns ms : List Nat, PyData.eqvAll (ns.map fun k => PyData.int (k : Nat)) (ms.map fun k => PyData.int (k : Nat)) = decide (ns = ms)
  | [], [] => by simp [PyData.eqvAll]
  | [], _ :: _ => by simp [PyData.eqvAll]
  | _ :: _, [] => by simp [PyData.eqvAll]
  | a :: r, b :: t => by
    simp only [List.map_cons, PyData.eqvAll, PyData.eqv, eqv_ints r t]
    by_cases h : a = b <;> by_cases h' : r = t <;> simp [h, h']
    omega
theorem eqv_dN (a b : List Nat) : PyData.eqv (dN a) (dN b) = decide (a = b) := by
  unfold dN
  simp only [PyData.eqv]
  exact eqv_ints a b
theorem eqv_dNs : ∀ A B : List (List Nat), PyData.eqvAll (A.map dN) (B.map dN) = decide (A = B)
  | [], [] => by simp [PyData.eqvAll]
  | [], _ :: _ => by simp [PyData.eqvAll]
  | _ :: _, [] => by simp [PyData.eqvAll]
  | a :: r, b :: t => by
    rw [List.map_cons, List.map_cons, PyData.eqvAll, eqv_dN, eqv_dNs r t]
    by_cases h : a = b <;> by_cases h' : r = t <;> simp [h, h']
theorem eqv_dU (A B : List (List Nat)) : PyData.eqv (.list (A.map dN)) (.list (B.map dN)) = decide (A = B) := by
  simp only [PyData.eqv]
  exact eqv_dNs A B
theorem dU_shaped (A : List (List Nat)) : SeqAt.shaped (.list (A.map dN)) = true := by
  have h1 : PyData.canLayAll0 (A.map dN) = true := by
    induction A with
    | nil => rfl
    | cons a A ih =>
      rw [List.map_cons, PyData.canLayAll0, ih]
      simp [dN, PyData.canLay0, ints_canLay]
  have h2 : PyData.depthAll (A.map dN) ≤ 1 := by
    induction A with
    | nil => exact Nat.zero_le _
    | cons a A ih =>
      rw [List.map_cons, PyData.depthAll]
      have : PyData.depth (dN a) = 1 := by simp [dN, PyData.depth, ints_depth]
      rw [this]
      exact Nat.max_le.mpr ⟨Nat.le_refl _, ih (by
        rw [List.map_cons, PyData.canLayAll0, Bool.and_eq_true] at h1
        exact h1.2)⟩
  unfold SeqAt.shaped
  simp [PyData.canLay0, PyData.depth, h1]
  omega
end
theorem attainable_ok {y : List (List Cho)} {al tg : List Int} {k : PyData → Prop} (hy : YOk y) (ht : TOk y tg) (h : k (dN (idxP y.length (Att (Edge y) (Uy y al tg) (Gs tg))))) : (den_attainable [dY y, dL al, dL tg]).okTo k := by
  have hl := hy.len
  unfold den_attainable body_attainable
  refine w_denP ?_
  walk_at "st"
  walk_at "wv"
  refine ⟨rfl, choices_on_way_ok (by omega) hy.st ?_⟩
  walk_at "wv"
  have t0 := total_le hy (usable_uok (al := al) (tg := tg) hy)
  refine while_ok (m := total (usable y al tg)) (fun m S => ∃ (U : List (List Nat)) (a b c d : Option SV) (e : Option PyData), S = [some (.dat (dY y)), some (.dat (dL al)), some (.dat (dL tg)), some (.dat (dU U)), a, b, c, d, e.map SV.dat] ∧
      UOk y U ∧ (∀ s k, Us U s k → Uy y al tg s k) ∧ (∀ V : Nat → Nat → Prop, (∀ s k, V s k → Uy y al tg s k) → Stab (Edge y) V (Gs tg) → ∀ s k, V s k → Us U s k) ∧ m = total U) ?_ (by unfold fuel; omega) ⟨usable y al tg, none, none, none, none, none, rfl, usable_uok hy, fun _ _ z => z, fun V h1 _ => h1, rfl⟩
  rintro m S ⟨U, a, b, c, d, e, rfl, hU, hsub, hmax, rfl⟩
  walk_at "wv"
  refine ⟨rfl, levels_ok hy hU ht.mem ht.len fun f hf => ?_⟩
  unfold Gl at hf
  simp only [Bool.false_eq_true, if_false] at hf
  walk_at "wv"
  refine ⟨by decide, ?_⟩
  walk_at "wv"
  refine ⟨_, _, _, _, rfl, rfl, rfl, ?_⟩
  refine loop_ok (fun i S => ∃ (c d : Option SV) (e : Option PyData), S = [some (.dat (dY y)), some (.dat (dL al)), some (.dat (dL tg)), some (.dat (dU U)), some (.dat (dV (lvF y.length f))), some (.own (((keepL (lvF y.length f) y U).take i).map dN)), c, d, e.map SV.dat]) ?_ ?_ ⟨c, d, e, rfl⟩
  · rintro i dd S hi ⟨c, d, e, rfl⟩
    have hin : i < y.length := by
      have := (List.getElem?_eq_some_iff.mp hi).1
      unfold zipD at this
      rw [List.length_map, List.length_zip, List.length_map, List.length_map, hU.len, Nat.min_self] at this
      exact this
    have e1 : y[i]? = some y[i] := List.getElem?_eq_getElem hin
    have e2 : U[i]? = some (U[i]'(by rw [hU.len]; exact hin)) := List.getElem?_eq_getElem _
    generalize y[i] = s at e1
    generalize U[i]'(by rw [hU.len]; exact hin) = u at e2
    obtain ⟨u1, u2⟩ := hU.lt i s u e1 e2
    have hs := hy.cho s (List.mem_of_getElem? e1)
    have ed : dd = .tuple [dS s, dN u] := by
      unfold zipD at hi
      rw [List.getElem?_map, (List.getElem?_zip_eq_some (z := (dS s, dN u))).mpr ⟨by rw [List.getElem?_map, e1]; rfl, by rw [List.getElem?_map, e2]; rfl⟩] at hi
      exact (Option.some.inj hi).symm
    subst ed
    walk_at "wv"
    refine ⟨_, rfl, ⟨by cases e <;> rfl, by rw [List.length_map]; omega⟩, ?_⟩
    walk_at "wv"
    refine lc_ok (fun j acc S => acc = ((u.take j).filter fun k => match s[k]? with
      | some c => stayC (lvF y.length f) c
      | none => false).map (fun k => .int (k : Nat)) ∧ S = [some (.dat (dY y)), some (.dat (dL al)), some (.dat (dL tg)), some (.dat (dU U)), some (.dat (dV (lvF y.length f))), some (.own (((keepL (lvF y.length f) y U).take i).map dN)), some (.dat (dS s)), some (.dat (dN u)), none]) ?_ ?_ ⟨rfl, rfl⟩
    · rintro j dj acc S hj ⟨rfl, rfl⟩
      rw [List.getElem?_map] at hj
      obtain ⟨x, hx, rfl⟩ := Option.map_eq_some_iff.mp hj
      have hxs := u2 x (List.mem_of_getElem? hx)
      walk_at "wv"
      refine okTo_eq (a := dC s[x]) (ixD_nat (by rw [List.getElem?_map, List.getElem?_eq_getElem hxs]; rfl)) ?_
      walk_at "wv"
      refine ⟨rfl, stays_ok (by rw [lvF_len]; exact hs _ (List.getElem_mem hxs)) ?_⟩
      walk_at "wv"
      rw [List.take_add_one, hx, Option.toList_some, List.filter_append]
      cases q : stayC (lvF y.length f) s[x] with
      | true =>
        walk_at "wv"
        rw [List.filter_cons_of_pos (by rw [List.getElem?_eq_getElem hxs]; exact q)]
        exact ⟨by simp, by first | trivial | rfl⟩
      | false =>
        walk_at "wv"
        rw [List.filter_cons_of_neg (by rw [List.getElem?_eq_getElem hxs]; simp [q])]
        exact ⟨by simp, by first | trivial | rfl⟩
    · rintro acc S ⟨rfl, rfl⟩
      rw [List.length_map, List.take_length]
      walk_at "wv"
      refine ⟨by rw [List.length_map, List.length_take]; omega, some (.dat (dS s)), some (.dat (dN u)), e, ?_⟩
      rw [List.take_add_one, keepL_get e1 e2, Option.toList_some, List.map_append]
      rfl
  · rintro S ⟨c, d, e, rfl⟩
    have el : (zipD (y.map dS) (U.map dN)).length = (keepL (lvF y.length f) y U).length := by
      unfold zipD
      rw [List.length_map, List.length_zip, List.length_map, List.length_map, hU.len, Nat.min_self, keepL_len hU.len]
    rw [el, List.take_length]
    walk_at "wv"
    refine ⟨⟨dU_shaped _, dU_shaped _⟩, ?_⟩
    rw [dU, eqv_dU]
    have fe : ∀ i, i < y.length → fnd (lvF y.length f) i = (f i).isSome := fun i hi => by
      unfold fnd
      rw [lvF_get hi]
      rfl
    have ek : ∀ s k, Us (keepL (lvF y.length f) y U) s k ↔ Us U s k ∧ ∀ j, Edge y s k j → Rch (Edge y) (Us U) (Gs tg) j := fun s k => by
      rw [us_keep hy hU]
      refine and_congr_right fun _ => forall_congr' fun j => imp_congr_right fun ej => ?_
      rw [fe j (edge_lt hy ej), hf j (edge_lt hy ej)]
    by_cases q : keepL (lvF y.length f) y U = U
    · rw [decide_eq_true q]
      walk_at "wv"
      refine ⟨rfl, found_states_ok (by rw [lvF_len]; omega) ?_⟩
      walk_at "wv"
      rw [lvF_len, idx_idxP (P := Att (Edge y) (Uy y al tg) (Gs tg)) fun i hi => ?_]
      · exact h
      · rw [fe i hi, hf i hi]
        refine ⟨fun z => ⟨Us U, hsub, fun s k u j ej => ?_, z⟩, fun ⟨V, h1, h2, h3⟩ => rch_mono (fun s k v => .inr (hmax V h1 h2 s k v)) (fun _ _ _ _ z => z) (fun _ z => z) h3⟩
        rw [← q] at u
        exact ((ek s k).mp u).2 j ej
    · rw [decide_eq_false q]
      walk_at "wv"
      obtain ⟨t1, t2⟩ := total_keep (lv := lvF y.length f) (y := y) (U := U) hU.len
      refine ⟨_, Nat.lt_of_le_of_ne t1 fun z => q (t2 z), keepL (lvF y.length f) y U, _, _, c, d, e, rfl, keep_uok hU, fun s k z => hsub s k ((ek s k).mp z).1, fun V h1 h2 s k v => ?_, rfl⟩
      exact (ek s k).mpr ⟨hmax V h1 h2 s k v, fun j ej => rch_mono (fun s k v => .inr (hmax V h1 h2 s k v)) (fun _ _ _ _ z => z) (fun _ z => z) (h2 s k v j ej)⟩
end Bo

/-! ### of lists and systems -/
namespace Bo
open PySem L2
theorem inD_nat {l : List Nat} {x : Nat} : inD (.int (x : Nat)) (l.map fun k => PyData.int (k : Nat)) = decide (x ∈ l) := by
  have := inD_int (l := l.map fun k => ((k : Nat) : Int)) (i := (x : Nat))
  rw [List.map_map] at this
  refine this.trans ?_
  by_cases c : x ∈ l
  · rw [decide_eq_true c, decide_eq_true (List.mem_map.mpr ⟨x, c, rfl⟩)]
  · rw [decide_eq_false c, decide_eq_false fun z => ?_]
    obtain ⟨y, h1, h2⟩ := List.mem_map.mp z
    exact c (Int.ofNat_inj.mp h2 ▸ h1)
theorem flat_nats (l : List Nat) : (l.map fun k => PyData.int (k : Nat)).all flatD = true := by
  rw [List.all_map]
  exact List.all_eq_true.mpr fun x _ => rfl
theorem yok_sys {q b : Nat} {y : List (List Cho)} (h : SysOk q b y) (hq : q ≤ 1000) (hb : b ≤ 1000) : YOk y where
  len := h.len
  st := fun s hs => Nat.le_trans (h.st s hs).2 hq
  cho := fun s hs c hc => ⟨Nat.le_trans (h.cho s hs c hc).len hb, fun e he => ⟨((h.cho s hs c hc).ends e he).1, ((h.cho s hs c hc).ends e he).2.1⟩⟩
theorem us_bound {y : List (List Cho)} {al tg : List Int} {i k : Nat} (h : Uy y al tg i k) : i < y.length := by
  obtain ⟨s, h1, _⟩ := us_usable.mp h
  exact (List.getElem?_eq_some_iff.mp h1).1
theorem idxP_congr {n : Nat} {P Q : Nat → Prop} (h : ∀ i, i < n → (P i ↔ Q i)) : idxP n P = idxP n Q := by
  classical
  unfold idxP
  refine idx_congr fun i hi => ?_
  have := h i hi
  by_cases c : P i
  · rw [decide_eq_true c, decide_eq_true (this.mp c)]
  · rw [decide_eq_false c, decide_eq_false fun q => c (this.mpr q)]
theorem idxP_halves {n : Nat} {P Q : Nat → Prop} (h : ∀ i, i < n → (Q i ↔ ¬ P i)) : (((idxP n P).map fun k => ((k : Nat) : Int)) ++ ((idxP n Q).map fun k => ((k : Nat) : Int))).mergeSort (fun a b => decide (a ≤ b)) = (List.range n).map fun k => ((k : Nat) : Int) := by
  classical
  refine ints_uniq (((List.mergeSort_perm _ _).trans ?_)) (ints_sorted _) ?_
  · rw [← List.map_append]
    refine List.Perm.map _ ?_
    have e : idxP n Q = (List.range n).filter fun i => !decide (P i) := by
      unfold idxP idx
      refine List.filter_congr fun i hi => ?_
      have := h i (List.mem_range.mp hi)
      by_cases c : P i
      · rw [decide_eq_true c, decide_eq_false fun q => this.mp q c]
        rfl
      · rw [decide_eq_false c, decide_eq_true (this.mpr c)]
        rfl
    rw [e]
    exact List.filter_append_perm _ _
  · refine List.pairwise_map.mpr ((List.pairwise_lt_range (n := n)).imp fun h => ?_)
    omega
theorem cut_to {α : Type} (l : List α) (i : Nat) (h : i ≤ l.length) : cutD l none (some (i : Int)) = l.take i := by
  unfold cutD
  rw [HT.sIx_none, HT.sIx_nat, List.drop_zero, Nat.sub_zero, Nat.min_eq_left h]
theorem cut_from {α : Type} (l : List α) (i : Nat) (h : i ≤ l.length) : cutD l (some (i : Int)) none = l.drop i := by
  unfold cutD
  rw [HT.sIx_none, HT.sIx_nat, Nat.min_eq_left h]
  exact List.take_of_length_le (by rw [List.length_drop]; exact Nat.le_refl _)
theorem w_denS {N : Nat} {fs : VS} {ns : List Int} {kD : PyData → Prop} (h : (fs (some (.scr ns) :: List.replicate (N - 1) none)).okTo fun fl => match fl with
    | .nx _ => kD .none
    | .rt d _ => kD d
    | _ => False) : (denS N fs ns).okTo kD := by
  unfold denS endP
  simp only [okTo_bind]
  refine h.mono fun fl q => ?_
  cases fl <;> first | exact q | exact q.elim
theorem w_listF {fa : VE} {S : SS} {kA : List PyData × SS → Prop} (h : (fa S).okTo fun p => ∃ ds, itemsD p.1 = some ds ∧ kA (ds, p.2)) : (vListF fa S).okTo kA := by
  unfold vListF
  rw [okTo_bind]
  refine h.mono fun p ⟨ds, e, q⟩ => ?_
  rw [e]
  exact q
end Bo

/-! ### the mathematics of fractions (as in the older texts of ours) -/
namespace Bo
open PySem L2
/-! ### lowest terms -/
def rN (n d : Int) : Int := (if d < 0 then -n else n) / (Int.gcd n d : Int)
def rD (n d : Int) : Int := (d.natAbs : Int) / (Int.gcd n d : Int)
theorem gcd_pos {n d : Int} (h : d ≠ 0) : (0 : Int) < (Int.gcd n d : Int) := by
  have : 0 < Int.gcd n d := Int.gcd_pos_iff.mpr (.inr h)
  omega
theorem fdiv_of {n g m : Int} (hg : g ≠ 0) (e : n = g * m) : n.fdiv g = m := by
  rw [e]
  exact Int.mul_fdiv_cancel_left m hg
theorem ediv_of {n g m : Int} (hg : g ≠ 0) (e : n = g * m) : n / g = m := by
  rw [e]
  exact Int.mul_ediv_cancel_left m hg
theorem rN_pos {n d : Int} (h : 0 < d) : n.fdiv (Int.gcd n d : Int) = rN n d := by
  have hg := gcd_pos (n := n) (d := d) (by omega)
  obtain ⟨m, e⟩ := Int.gcd_dvd_left (a := n) (b := d)
  unfold rN
  rw [if_neg (by omega), fdiv_of (by omega) e, ediv_of (by omega) e]
theorem rN_neg {n d : Int} (h : d < 0) : n.fdiv (-(Int.gcd n d : Int)) = rN n d := by
  have hg := gcd_pos (n := n) (d := d) (by omega)
  obtain ⟨m, e⟩ := Int.gcd_dvd_left (a := n) (b := d)
  unfold rN
  rw [if_pos h, fdiv_of (m := -m) (by omega) (by rw [Int.neg_mul_neg]; exact e), ediv_of (m := -m) (by omega) (by rw [Int.mul_neg, ← e])]
theorem rD_pos {n d : Int} (h : 0 < d) : d.fdiv (Int.gcd n d : Int) = rD n d := by
  have hg := gcd_pos (n := n) (d := d) (by omega)
  obtain ⟨m, e⟩ := Int.gcd_dvd_right (a := n) (b := d)
  unfold rD
  have ha : (d.natAbs : Int) = d := by omega
  rw [ha, fdiv_of (by omega) e, ediv_of (by omega) e]
theorem rD_neg {n d : Int} (h : d < 0) : d.fdiv (-(Int.gcd n d : Int)) = rD n d := by
  have hg := gcd_pos (n := n) (d := d) (by omega)
  obtain ⟨m, e⟩ := Int.gcd_dvd_right (a := n) (b := d)
  unfold rD
  have ha : (d.natAbs : Int) = -d := by omega
  rw [ha, fdiv_of (m := -m) (by omega) (by rw [Int.neg_mul_neg]; exact e), ediv_of (m := -m) (by omega) (by rw [Int.mul_neg, ← e])]
theorem gcd_le {n d : Int} (h : d ≠ 0) : Int.gcd n d ≤ d.natAbs := Int.gcd_le_natAbs_right n h
theorem gcd_div {n d g m : Int} (h : d ≠ 0) (hb : d.natAbs < 2 ^ 8000) (e : g.natAbs = Int.gcd n d) : CDivX m g := by
  have hg := gcd_pos (n := n) h
  refine ⟨by omega, Nat.lt_of_lt_of_le (PySem.Flt.log2_lt_of (by decide : 0 < 8000) ?_) (by decide)⟩
  rw [e]
  exact Nat.lt_of_le_of_lt (gcd_le h) hb
theorem rD_pos' {n d : Int} (h : d ≠ 0) : 0 < rD n d := by
  have hg := gcd_pos (n := n) h
  have hl := gcd_le (n := n) h
  unfold rD
  exact Int.ediv_pos_of_pos_of_dvd (by omega) (by omega) (by
    have := Int.gcd_dvd_right (a := n) (b := d)
    exact (Int.dvd_natAbs).mpr this)
theorem div_le_abs (a : Int) {g : Int} (hg : 0 < g) : (a / g).natAbs ≤ a.natAbs := by
  obtain ⟨k, rfl⟩ : ∃ k : Nat, g = k := ⟨g.toNat, by omega⟩
  exact Int.natAbs_ediv_le_natAbs a k
theorem rN_le {n d : Int} (h : d ≠ 0) : (rN n d).natAbs ≤ n.natAbs := by
  have hg := gcd_pos (n := n) h
  unfold rN
  refine Nat.le_trans (div_le_abs _ hg) ?_
  split <;> omega
theorem rD_le {n d : Int} (h : d ≠ 0) : (rD n d).natAbs ≤ d.natAbs := by
  have hg := gcd_pos (n := n) h
  unfold rD
  refine Nat.le_trans (div_le_abs _ hg) ?_
  omega
/-- lowest terms are kept by a common factor -/
theorem rN_scale {n d c : Int} (_ : d ≠ 0) (hc : 0 < c) : rN (n * c) (d * c) = rN n d := by
  have e : (Int.gcd (n * c) (d * c) : Int) = (Int.gcd n d : Int) * c := by
    rw [Int.gcd_mul_right]
    have : (c.natAbs : Int) = c := by omega
    rw [Int.natCast_mul, this]
  unfold rN
  rw [e]
  by_cases h : d < 0
  · rw [if_pos h, if_pos (Int.mul_neg_of_neg_of_pos h hc), ← Int.neg_mul]
    exact Int.mul_ediv_mul_of_pos_left _ _ hc
  · rw [if_neg h, if_neg (by have := Int.mul_nonneg (Int.not_lt.mp h) (Int.le_of_lt hc); omega)]
    exact Int.mul_ediv_mul_of_pos_left _ _ hc
theorem rD_scale {n d c : Int} (_ : d ≠ 0) (hc : 0 < c) : rD (n * c) (d * c) = rD n d := by
  have e : (Int.gcd (n * c) (d * c) : Int) = (Int.gcd n d : Int) * c := by
    rw [Int.gcd_mul_right]
    have : (c.natAbs : Int) = c := by omega
    rw [Int.natCast_mul, this]
  unfold rD
  have e2 : ((d * c).natAbs : Int) = (d.natAbs : Int) * c := by
    rw [Int.natAbs_mul]
    have : (c.natAbs : Int) = c := by omega
    rw [Int.natCast_mul, this]
  rw [e, e2]
  exact Int.mul_ediv_mul_of_pos_left _ _ hc
/-! ### Euclid's way as the law walks it -/
/-- behind i steps: the divisor is kept, the product falls -/
structure Eu (g : Nat) (P : Nat) (i : Nat) (a b : Int) : Prop where
  a0 : 0 ≤ a
  b0 : 0 < b
  gc : Int.gcd a b = g
  pr : 0 < i → a < b
  fall : a.toNat * b.toNat * 2 ^ (i - 1) ≤ P
theorem gcd_mod0 (a b : Int) : Int.gcd (b % a) a = Int.gcd a b := by
  have e : b % a = b - a * (b / a) := Int.emod_def b a
  refine Nat.dvd_antisymm ?_ ?_
  · have h1 := Int.gcd_dvd_left (a := b % a) (b := a)
    have h2 := Int.gcd_dvd_right (a := b % a) (b := a)
    have h3 : ((Int.gcd (b % a) a : Nat) : Int) ∣ b := by
      have h4 := Int.dvd_add h1 (Int.dvd_trans h2 (Int.dvd_mul_right a (b / a)))
      rw [Int.emod_add_mul_ediv] at h4
      exact h4
    exact Int.dvd_gcd h2 h3
  · have h1 := Int.gcd_dvd_left (a := a) (b := b)
    have h2 := Int.gcd_dvd_right (a := a) (b := b)
    have h3 : ((Int.gcd a b : Nat) : Int) ∣ b % a := by
      rw [e]
      exact Int.dvd_sub h2 (Int.dvd_trans h1 (Int.dvd_mul_right a _))
    exact Int.dvd_gcd h3 h1
theorem Eu.step {g P i : Nat} {a b : Int} (e : Eu g P i a b) (h : a ≠ 0) : Eu g P (i + 1) (b.fmod a) a := by
  obtain ⟨a0, b0, gc, pr, fall⟩ := e
  have ha : 0 < a := by omega
  have em : b.fmod a = b % a := Int.fmod_eq_emod_of_nonneg b (by omega)
  rw [em]
  have m0 := Int.emod_nonneg b h
  have m1 := Int.emod_lt_of_pos b ha
  refine ⟨m0, ha, ?_, fun _ => m1, ?_⟩
  · rw [← gc]
    exact gcd_mod0 a b
  · show (b % a).toNat * a.toNat * 2 ^ i ≤ P
    refine Nat.le_trans ?_ fall
    cases i with
    | zero =>
      show (b % a).toNat * a.toNat * 1 ≤ a.toNat * b.toNat * 1
      rw [Nat.mul_one, Nat.mul_one, Nat.mul_comm]
      have hle : b % a ≤ b := by
        by_cases hb : b < a
        · rw [Int.emod_eq_of_lt (by omega) hb]
          exact Int.le_refl _
        · omega
      exact Nat.mul_le_mul_left _ (by omega)
    | succ j =>
      have hab := pr (by omega)
      have hq : a + b % a ≤ b := by
        have h1 := Int.mul_ediv_add_emod b a
        have h2 : 1 ≤ b / a := Int.le_ediv_of_mul_le ha (by omega)
        have h3 : a * 1 ≤ a * (b / a) := Int.mul_le_mul_of_nonneg_left h2 (by omega)
        omega
      have h2 : 2 * (b % a).toNat ≤ b.toNat := by omega
      show (b % a).toNat * a.toNat * 2 ^ (j + 1) ≤ a.toNat * b.toNat * 2 ^ j
      rw [Nat.pow_succ, ← Nat.mul_assoc, Nat.mul_right_comm _ _ 2]
      refine Nat.mul_le_mul_right _ ?_
      rw [Nat.mul_comm ((b % a).toNat * a.toNat) 2, ← Nat.mul_assoc, Nat.mul_comm (2 * (b % a).toNat)]
      exact Nat.mul_le_mul_left _ h2
theorem Eu.done {g P i : Nat} {a b : Int} (e : Eu g P i a b) (h : P < 2 ^ (i - 1)) : a = 0 := by
  obtain ⟨a0, b0, gc, pr, fall⟩ := e
  by_cases ha : a = 0
  · exact ha
  · exfalso
    have h1 : 1 ≤ a.toNat * b.toNat := Nat.mul_pos (by omega) (by omega)
    have h2 := Nat.mul_le_mul_right (2 ^ (i - 1)) h1
    omega
theorem Eu.zero {g P i : Nat} {a b : Int} (e : Eu g P i a b) (h : a = 0) : b = (g : Int) := by
  obtain ⟨a0, b0, gc, pr, fall⟩ := e
  subst h
  rw [Int.gcd_zero_left] at gc
  omega

/-! ### fractions as rationals -/
theorem rN_rat {n d : Int} (h : d ≠ 0) : rN n d = (Rat.divInt n d).num := by
  rw [Rat.num_divInt, Int.gcd_comm]
  unfold rN
  by_cases c : d < 0
  · rw [if_pos c, Int.sign_eq_neg_one_of_neg c, Int.neg_one_mul]
  · rw [if_neg c, Int.sign_eq_one_of_pos (by omega), Int.one_mul]
theorem rD_rat {n d : Int} (h : d ≠ 0) : rD n d = ((Rat.divInt n d).den : Int) := by
  rw [Rat.den_divInt, if_neg h, Int.gcd_comm]
  unfold rD
  rw [Int.natCast_ediv]
def Fq (q : Rat) : List V := [.int q.num, .int (q.den : Int)]
def Bq (b : Nat) (q : Rat) : Prop := q.num.natAbs < 2 ^ b ∧ ((q.den : Int)).natAbs < 2 ^ b
theorem den_ne (q : Rat) : (q.den : Int) ≠ 0 := by
  have := q.den_nz
  omega
theorem fq_ratio {n d : Int} (h : d ≠ 0) : ([.int (rN n d), .int (rD n d)] : List V) = Fq (Rat.divInt n d) := by
  unfold Fq
  rw [rN_rat h, rD_rat h]
theorem q_plus (q r : Rat) : Rat.divInt (q.num * r.den + r.num * q.den) (q.den * r.den) = q + r := by
  conv => rhs; rw [← Rat.num_divInt_den q, ← Rat.num_divInt_den r, Rat.divInt_add_divInt _ _ (den_ne q) (den_ne r)]
theorem q_minus (q r : Rat) : Rat.divInt (q.num * r.den - r.num * q.den) (q.den * r.den) = q - r := by
  conv => rhs; rw [← Rat.num_divInt_den q, ← Rat.num_divInt_den r, Rat.divInt_sub_divInt _ _ (den_ne q) (den_ne r)]
theorem q_times (q r : Rat) : Rat.divInt (q.num * r.num) (q.den * r.den) = q * r := by
  conv => rhs; rw [← Rat.num_divInt_den q, ← Rat.num_divInt_den r, Rat.divInt_mul_divInt]
theorem divInt_eq {n d : Int} : Rat.divInt n d = (n : Rat) / (d : Rat) := Rat.divInt_eq_div n d
theorem num_den (q : Rat) : (q.num : Rat) / ((q.den : Int) : Rat) = q := by
  rw [← divInt_eq, Rat.num_divInt_den]
theorem q_over (q r : Rat) : Rat.divInt (q.num * r.den) (q.den * r.num) = q / r := by
  conv => rhs; rw [← Rat.num_divInt_den q, ← Rat.num_divInt_den r, Rat.div_def, Rat.inv_divInt, Rat.divInt_mul_divInt]
theorem num_ne {q : Rat} (h : q ≠ 0) : q.num ≠ 0 := fun e => h (Rat.num_eq_zero.mp e)

end Bo

/-! ### fractions: what their defs are worth -/
namespace Bo
open PySem L2
noncomputable section
def body_l_ratio : VS :=
    (vSeq (vIfS (vTst (vOp (gIB fun i j => decide (i < j)) (vVar 1) (vC (.int 0)))) (vSeq (vAsg (vOp (gI fun i j => i - j) (vC (.int 0)) (vVar 0)) (aName 0))
    (vAsg (vOp (gI fun i j => i - j) (vC (.int 0)) (vVar 1)) (aName 1))) vNext)
    (vSeq (vAsg (vCall gAbs (vCons (vVar 0) vNil)) (aName 2))
    (vSeq (vAsg (vVar 1) (aName 3))
    (vSeq (vFor (vRange1 (vCons (vC (.int 2000)) vNil)) (aName 4) (vSeq (vIfS (vTst (vOp gEq (vVar 2) (vC (.int 0)))) vBrk vNext)
    (vSeq (vAsg (vOp (gIC cMod Int.fmod) (vCall gInt (vCons (vVar 3) vNil)) (vVar 2)) (aName 5))
    (vSeq (vAsg (vVar 2) (aName 3))
    (vAsg (vVar 5) (aName 2))))))
    (vRet (vTup (vCons (vOp (gIC cFdiv Int.fdiv) (vVar 0) (vVar 3)) (vCons (vOp (gIC cFdiv Int.fdiv) (vVar 1) (vVar 3)) vNil))))))))
def den_l_ratio := denP 6 body_l_ratio
def body_ratio : VS :=
    (vSeq (vAsg (vCall gGcd (vCons (vVar 0) (vCons (vVar 1) vNil))) (aName 2))
    (vSeq (vIfS (vTst (vOp (gIB fun i j => decide (i < j)) (vVar 1) (vC (.int 0)))) (vAsg (vUn gNeg (vVar 2)) (aName 2)) vNext)
    (vRet (vTup (vCons (vOp (gIC cFdiv Int.fdiv) (vVar 0) (vVar 2)) (vCons (vOp (gIC cFdiv Int.fdiv) (vVar 1) (vVar 2)) vNil))))))
def den_ratio := denP 3 body_ratio
def body_plus : VS :=
    (vRet (vCallP 2 den_ratio (vCons (vOp (gI fun i j => i + j) (vOp (gIC cMul fun i j => i * j) (vOp gIxT (vVar 0) (vC (.int 0))) (vOp gIxT (vVar 1) (vC (.int 1)))) (vOp (gIC cMul fun i j => i * j) (vOp gIxT (vVar 1) (vC (.int 0))) (vOp gIxT (vVar 0) (vC (.int 1))))) (vCons (vOp (gIC cMul fun i j => i * j) (vOp gIxT (vVar 0) (vC (.int 1))) (vOp gIxT (vVar 1) (vC (.int 1)))) vNil))))
def den_plus := denP 2 body_plus
def body_minus : VS :=
    (vRet (vCallP 2 den_ratio (vCons (vOp (gI fun i j => i - j) (vOp (gIC cMul fun i j => i * j) (vOp gIxT (vVar 0) (vC (.int 0))) (vOp gIxT (vVar 1) (vC (.int 1)))) (vOp (gIC cMul fun i j => i * j) (vOp gIxT (vVar 1) (vC (.int 0))) (vOp gIxT (vVar 0) (vC (.int 1))))) (vCons (vOp (gIC cMul fun i j => i * j) (vOp gIxT (vVar 0) (vC (.int 1))) (vOp gIxT (vVar 1) (vC (.int 1)))) vNil))))
def den_minus := denP 2 body_minus
def body_times : VS :=
    (vRet (vCallP 2 den_ratio (vCons (vOp (gIC cMul fun i j => i * j) (vOp gIxT (vVar 0) (vC (.int 0))) (vOp gIxT (vVar 1) (vC (.int 0)))) (vCons (vOp (gIC cMul fun i j => i * j) (vOp gIxT (vVar 0) (vC (.int 1))) (vOp gIxT (vVar 1) (vC (.int 1)))) vNil))))
def den_times := denP 2 body_times
def body_over : VS :=
    (vRet (vCallP 2 den_ratio (vCons (vOp (gIC cMul fun i j => i * j) (vOp gIxT (vVar 0) (vC (.int 0))) (vOp gIxT (vVar 1) (vC (.int 1)))) (vCons (vOp (gIC cMul fun i j => i * j) (vOp gIxT (vVar 0) (vC (.int 1))) (vOp gIxT (vVar 1) (vC (.int 0)))) vNil))))
def den_over := denP 2 body_over
def body_is_less : VS :=
    (vRet (vOp (gIB fun i j => decide (i < j)) (vOp (gIC cMul fun i j => i * j) (vOp gIxT (vVar 0) (vC (.int 0))) (vOp gIxT (vVar 1) (vC (.int 1)))) (vOp (gIC cMul fun i j => i * j) (vOp gIxT (vVar 1) (vC (.int 0))) (vOp gIxT (vVar 0) (vC (.int 1))))))
def den_is_less := denP 2 body_is_less
def body_l_plus : VS :=
    (vRet (vCallP 2 den_l_ratio (vCons (vOp (gI fun i j => i + j) (vOp (gIC cMul fun i j => i * j) (vOp gIxT (vVar 0) (vC (.int 0))) (vOp gIxT (vVar 1) (vC (.int 1)))) (vOp (gIC cMul fun i j => i * j) (vOp gIxT (vVar 1) (vC (.int 0))) (vOp gIxT (vVar 0) (vC (.int 1))))) (vCons (vOp (gIC cMul fun i j => i * j) (vOp gIxT (vVar 0) (vC (.int 1))) (vOp gIxT (vVar 1) (vC (.int 1)))) vNil))))
def den_l_plus := denP 2 body_l_plus
def body_l_times : VS :=
    (vRet (vCallP 2 den_l_ratio (vCons (vOp (gIC cMul fun i j => i * j) (vOp gIxT (vVar 0) (vC (.int 0))) (vOp gIxT (vVar 1) (vC (.int 0)))) (vCons (vOp (gIC cMul fun i j => i * j) (vOp gIxT (vVar 0) (vC (.int 1))) (vOp gIxT (vVar 1) (vC (.int 1)))) vNil))))
def den_l_times := denP 2 body_l_times
def body_l_over : VS :=
    (vRet (vCallP 2 den_l_ratio (vCons (vOp (gIC cMul fun i j => i * j) (vOp gIxT (vVar 0) (vC (.int 0))) (vOp gIxT (vVar 1) (vC (.int 1)))) (vCons (vOp (gIC cMul fun i j => i * j) (vOp gIxT (vVar 0) (vC (.int 1))) (vOp gIxT (vVar 1) (vC (.int 0)))) vNil))))
def den_l_over := denP 2 body_l_over
end
end Bo

/-! ### fractions: what their defs answer -/
namespace Bo
open PySem L2
theorem w_neg {a : Int} {kD : PyData → Prop} (q : kD (.int (-a))) : (gNeg (.int a)).okTo kD := q
theorem w_brk {S : SS} {kS : FL → Prop} (q : kS (.bk S)) : (vBrk S).okTo kS := q
theorem w_cnt {S : SS} {kS : FL → Prop} (q : kS (.ct S)) : (vCnt S).okTo kS := q
local macro_rules | `(tactic| walk_at "wv1") => `(tactic| (first
  | with_reducible refine w_seq ?_
  | with_reducible refine w_asg ?_
  | ((with_reducible refine w_var (d := ?wd) ?wh ?wq); (case wh => exact rfl))
  | with_reducible refine w_c ?_
  | with_reducible refine w_op ?_
  | with_reducible refine w_un ?_
  | with_reducible refine w_and ?_
  | with_reducible refine w_or ?_
  | with_reducible refine w_not ?_
  | with_reducible refine w_toB ?_
  | with_reducible refine w_toI ?_
  | with_reducible refine w_tst ?_
  | with_reducible refine w_tnot ?_
  | with_reducible refine w_tand ?_
  | with_reducible refine w_tor ?_
  | with_reducible refine w_tru ?_
  | with_reducible refine w_if ?_
  | with_reducible refine w_chain ?_
  | with_reducible refine w_nil ?_
  | with_reducible refine w_cons ?_
  | with_reducible refine w_tup ?_
  | with_reducible refine w_lst ?_
  | with_reducible refine w_lstF ?_
  | with_reducible refine w_call ?_
  | with_reducible refine w_callP ?_
  | with_reducible refine w_callL ?_
  | ((with_reducible refine w_own (ds := ?wd) ?wh ?wq); (case wh => exact rfl))
  | with_reducible refine w_callB ?_
  | ((with_reducible refine w_callS (ns := ?wd) ?wh ?wq); (case wh => exact rfl))
  | with_reducible refine w_consO ?_
  | with_reducible refine w_fr ?_
  | with_reducible refine w_lenO ?_
  | with_reducible refine w_tupleO ?_
  | with_reducible refine w_listO ?_
  | with_reducible refine w_ixO ?_
  | with_reducible refine w_inO ?_
  | with_reducible refine w_truO ?_
  | with_reducible refine w_app ?_
  | with_reducible refine w_setI ?_
  | with_reducible refine w_sl ?_
  | with_reducible refine w_noPart ?_
  | with_reducible refine w_part ?_
  | with_reducible refine w_iter ?_
  | with_reducible refine w_iterT ?_
  | with_reducible refine w_range1 ?_
  | with_reducible refine w_listRg ?_
  | with_reducible refine w_enumK ?_
  | with_reducible refine w_zipK ?_
  | with_reducible refine w_repF ?_
  | with_reducible refine w_lc ?_
  | with_reducible refine w_yes ?_
  | with_reducible refine w_next ?_
  | with_reducible refine w_ret ?_
  | with_reducible refine w_retN ?_
  | with_reducible refine w_drop ?_
  | with_reducible refine w_aName ?_
  | with_reducible refine w_aTup rfl ?_
  | with_reducible refine w_aNil ?_
  | with_reducible refine w_aCons ?_
  | with_reducible refine w_ifS ?_
  | with_reducible refine w_ownS ?_
  | ((with_reducible refine w_frz (ds := ?wd) ?wh ?wq); (case wh => exact rfl))
  | with_reducible refine w_for ?_
  | ((with_reducible refine w_aug (a := ?wd) ?wh ?wq); (case wh => exact rfl))
  | with_reducible refine w_gI ?_
  | with_reducible refine w_gIB ?_
  | with_reducible refine w_gIC ?_
  | with_reducible refine w_gEqI ?_
  | with_reducible refine w_gNeI ?_
  | with_reducible refine w_gIxL ?_
  | with_reducible refine w_gIxT ?_
  | with_reducible refine w_gCat ?_
  | with_reducible refine w_gCatT ?_
  | with_reducible refine w_isN ?_
  | with_reducible refine w_notN ?_
  | with_reducible refine w_gInL ?_
  | with_reducible refine w_gLenL ?_
  | with_reducible refine w_gLenT ?_
  | with_reducible refine w_gIntI ?_
  | with_reducible refine w_gTuple ?_
  | with_reducible refine w_gBools ?_
  | with_reducible refine w_gInts ?_
  | with_reducible refine w_gNeD ?_
  | with_reducible refine w_gEqD ?_
  | with_reducible refine w_gRevL ?_
  | with_reducible refine w_gSlL ?_
  | with_reducible refine w_gSlT ?_
  | with_reducible refine w_itT ?_
  | with_reducible refine w_itF ?_
  | with_reducible refine w_itTT ?_
  | with_reducible refine w_itFT ?_
  | with_reducible refine w_gList ?_
  | with_reducible refine w_gSortI ?_
  | with_reducible refine w_range2 ?_
  | ((with_reducible refine w_lcO (ds := ?wd) ?wh ?wq ?wr); (case wh => exact rfl); (case wq => exact rfl))
  | with_reducible refine w_aUnl rfl ?_
  | with_reducible refine w_listF ?_
  | with_reducible refine w_brk ?_
  | with_reducible refine w_cnt ?_
  | with_reducible refine w_neg ?_
  | with_reducible refine w_gIntB ?_
  | simp only [wipeS, backS, List.set_cons_zero, List.set_cons_succ, List.getElem?_cons_zero, List.getElem?_cons_succ, Option.join_some, Option.join_none, Bool.not_true, Bool.not_false]))
local macro_rules | `(tactic| walk_at "wv") => `(tactic| ((repeat (walk_at "wv1"; try dsimp only)); try simp only [List.set_cons_zero, List.set_cons_succ]))
local macro_rules | `(tactic| walk_at "st") => `(tactic| simp only [startS, List.map_cons, List.map_nil, List.length_cons, List.length_nil, Nat.reduceAdd, Nat.reduceSub, List.replicate_succ, List.replicate_zero, List.cons_append, List.nil_append])

@[irreducible] def dQ (q : Rat) : PyData := .tuple [.int q.num, .int (q.den : Int)]
theorem cFdiv_wide {n d g m : Int} (h : d ≠ 0) (hb : d.natAbs < 2 ^ 8000) (e : g.natAbs = Int.gcd n d) : cFdiv m g = true := by
  have hg := gcd_pos (n := n) h
  refine decide_eq_true ⟨by omega, Nat.lt_of_le_of_lt (by rw [e]; exact gcd_le h) (Nat.lt_of_lt_of_le hb (Nat.pow_le_pow_right (by decide) (by decide)))⟩
theorem dq_of {n d : Int} (h : d ≠ 0) : PyData.tuple [.int (rN n d), .int (rD n d)] = dQ (Rat.divInt n d) := by
  unfold dQ
  rw [rN_rat h, rD_rat h]
theorem ratio_ok {n d : Int} {k : PyData → Prop} (h : d ≠ 0) (hb : d.natAbs < 2 ^ 8000) (q : k (dQ (Rat.divInt n d))) : (den_ratio [.int n, .int d]).okTo k := by
  rw [← dq_of h] at q
  unfold den_ratio body_ratio
  refine w_denP ?_
  walk_at "st"
  walk_at "wv"
  refine okTo_eq (a := .int ((Int.gcd n d : Nat) : Int)) rfl ?_
  walk_at "wv"
  by_cases c : d < 0
  · rw [decide_eq_true c]
    walk_at "wv"
    refine ⟨cFdiv_wide h hb (by rw [Int.natAbs_neg, Int.natAbs_natCast]), ?_⟩
    walk_at "wv"
    refine ⟨cFdiv_wide h hb (by rw [Int.natAbs_neg, Int.natAbs_natCast]), ?_⟩
    walk_at "wv"
    refine ⟨by simp, ?_⟩
    rw [rN_neg c, rD_neg c]
    exact q
  · have c' : 0 < d := by omega
    rw [decide_eq_false c]
    walk_at "wv"
    refine ⟨cFdiv_wide h hb (Int.natAbs_natCast _), ?_⟩
    walk_at "wv"
    refine ⟨cFdiv_wide h hb (Int.natAbs_natCast _), ?_⟩
    walk_at "wv"
    refine ⟨by simp, ?_⟩
    rw [rN_pos c', rD_pos c']
    exact q
theorem big_prod {x y : Nat} (hx : x < 2 ^ 900) (hy : y < 2 ^ 900) : x * y < 2 ^ (1999 : Nat) := by
  have h1 : x * y < 2 ^ (900 + 900) := by
    rw [Nat.pow_add]
    exact Nat.mul_lt_mul'' hx hy
  exact Nat.lt_of_lt_of_le h1 (Nat.pow_le_pow_right (by decide) (by decide))
theorem l_ratio_ok {n d : Int} {k : PyData → Prop} (h : d ≠ 0) (hn : n.natAbs < 2 ^ 900) (hb : d.natAbs < 2 ^ 900) (q : k (dQ (Rat.divInt n d))) : (den_l_ratio [.int n, .int d]).okTo k := by
  rw [← dq_of h] at q
  have hb8 : d.natAbs < 2 ^ 8000 := Nat.lt_of_lt_of_le hb (Nat.pow_le_pow_right (by decide) (by decide))
  unfold den_l_ratio body_l_ratio
  refine w_denP ?_
  walk_at "st"
  walk_at "wv"
  have rest : ∀ (m e : Int), 0 < e → m.natAbs = n.natAbs → e.natAbs = d.natAbs → m / (Int.gcd n d : Int) = rN n d → e / (Int.gcd n d : Int) = rD n d →
      ((vSeq (vAsg (vCall gAbs (vCons (vVar 0) vNil)) (aName 2))
    (vSeq (vAsg (vVar 1) (aName 3))
    (vSeq (vFor (vRange1 (vCons (vC (.int 2000)) vNil)) (aName 4) (vSeq (vIfS (vTst (vOp gEq (vVar 2) (vC (.int 0)))) vBrk vNext)
    (vSeq (vAsg (vOp (gIC cMod Int.fmod) (vCall gInt (vCons (vVar 3) vNil)) (vVar 2)) (aName 5))
    (vSeq (vAsg (vVar 2) (aName 3))
    (vAsg (vVar 5) (aName 2))))))
    (vRet (vTup (vCons (vOp (gIC cFdiv Int.fdiv) (vVar 0) (vVar 3)) (vCons (vOp (gIC cFdiv Int.fdiv) (vVar 1) (vVar 3)) vNil))))))) [some (.dat (.int m)), some (.dat (.int e)), none, none, none, none]).okTo fun fl => match fl with
        | .nx _ => k .none
        | .rt d _ => k d
        | _ => False := fun m e he hm hed e1 e2 => by
    have eg : Int.gcd n d = Int.gcd m e := by
      show Nat.gcd n.natAbs d.natAbs = Nat.gcd m.natAbs e.natAbs
      rw [hm, hed]
    walk_at "wv"
    refine okTo_eq (a := .int (m.natAbs : Int)) (by
      show R.ok (PyData.int (if m < 0 then -m else m)) = _
      congr 2
      split <;> omega) ?_
    walk_at "wv"
    refine ⟨2000, rfl, by decide, ?_⟩
    refine loop_ok (fun i S => ∃ (a b : Int) (v4 v5 : Option SV), Eu (Int.gcd n d) (n.natAbs * d.natAbs) i a b ∧ S = [some (.dat (.int m)), some (.dat (.int e)), some (.dat (.int a)), some (.dat (.int b)), v4, v5]) ?_ ?_
      ⟨m.natAbs, e, none, none, ⟨by omega, he, by rw [eg]; show Nat.gcd (m.natAbs : Int).natAbs e.natAbs = _; rw [Int.natAbs_natCast]; rfl, fun z => absurd z (by decide), by
        show (m.natAbs : Int).toNat * e.toNat * 1 ≤ _
        rw [Nat.mul_one]
        have q1 : (m.natAbs : Int).toNat = n.natAbs := by omega
        have q2 : e.toNat = d.natAbs := by omega
        rw [q1, q2]
        exact Nat.le_refl _⟩, rfl⟩
    · rintro i di S hi ⟨a, b, v4, v5, hE, rfl⟩
      walk_at "wv"
      by_cases c : a = 0
      · rw [decide_eq_true c]
        have hb2 := hE.zero c
        subst hb2
        walk_at "wv"
        refine ⟨cFdiv_wide h hb8 (Int.natAbs_natCast _), ?_⟩
        walk_at "wv"
        refine ⟨cFdiv_wide h hb8 (Int.natAbs_natCast _), ?_⟩
        walk_at "wv"
        refine ⟨by simp, ?_⟩
        rw [Int.fdiv_eq_ediv_of_nonneg _ (by omega), Int.fdiv_eq_ediv_of_nonneg _ (by omega), e1, e2]
        exact q
      · rw [decide_eq_false c]
        walk_at "wv"
        refine ⟨cMod_ok c, ?_⟩
        walk_at "wv"
        exact ⟨_, _, _, _, hE.step c, rfl⟩
    · rintro S ⟨a, b, v4, v5, hE, rfl⟩
      rw [rangeD_len] at hE
      have c := hE.done (big_prod hn hb)
      have hb2 := hE.zero c
      subst hb2
      walk_at "wv"
      refine ⟨cFdiv_wide h hb8 (Int.natAbs_natCast _), ?_⟩
      walk_at "wv"
      refine ⟨cFdiv_wide h hb8 (Int.natAbs_natCast _), ?_⟩
      walk_at "wv"
      refine ⟨by simp, ?_⟩
      rw [Int.fdiv_eq_ediv_of_nonneg _ (by omega), Int.fdiv_eq_ediv_of_nonneg _ (by omega), e1, e2]
      exact q
  by_cases c : d < 0
  · rw [decide_eq_true c]
    walk_at "wv"
    refine rest (0 - n) (0 - d) (by omega) (by omega) (by omega) ?_ ?_
    · unfold rN
      rw [if_pos c, Int.zero_sub]
    · unfold rD
      have : (d.natAbs : Int) = 0 - d := by omega
      rw [this]
  · rw [decide_eq_false c]
    refine w_itFT ?_
    refine w_next ?_
    refine rest n d (by omega) rfl rfl ?_ ?_
    · unfold rN
      rw [if_neg c]
    · unfold rD
      have : (d.natAbs : Int) = d := by omega
      rw [this]
end Bo

/-! ### the sum of fractions (as in VfE, without k04's own) -/
namespace Bo
open PySem L2
local macro_rules | `(tactic| walk_at "wv1") => `(tactic| (first
  | with_reducible refine w_seq ?_
  | with_reducible refine w_asg ?_
  | ((with_reducible refine w_var (d := ?wd) ?wh ?wq); (case wh => exact rfl))
  | with_reducible refine w_c ?_
  | with_reducible refine w_op ?_
  | with_reducible refine w_un ?_
  | with_reducible refine w_and ?_
  | with_reducible refine w_or ?_
  | with_reducible refine w_not ?_
  | with_reducible refine w_toB ?_
  | with_reducible refine w_toI ?_
  | with_reducible refine w_tst ?_
  | with_reducible refine w_tnot ?_
  | with_reducible refine w_tand ?_
  | with_reducible refine w_tor ?_
  | with_reducible refine w_tru ?_
  | with_reducible refine w_if ?_
  | with_reducible refine w_chain ?_
  | with_reducible refine w_nil ?_
  | with_reducible refine w_cons ?_
  | with_reducible refine w_tup ?_
  | with_reducible refine w_lst ?_
  | with_reducible refine w_lstF ?_
  | with_reducible refine w_call ?_
  | with_reducible refine w_callP ?_
  | with_reducible refine w_callL ?_
  | ((with_reducible refine w_own (ds := ?wd) ?wh ?wq); (case wh => exact rfl))
  | with_reducible refine w_callB ?_
  | ((with_reducible refine w_callS (ns := ?wd) ?wh ?wq); (case wh => exact rfl))
  | with_reducible refine w_consO ?_
  | with_reducible refine w_fr ?_
  | with_reducible refine w_lenO ?_
  | with_reducible refine w_tupleO ?_
  | with_reducible refine w_listO ?_
  | with_reducible refine w_ixO ?_
  | with_reducible refine w_inO ?_
  | with_reducible refine w_truO ?_
  | with_reducible refine w_app ?_
  | with_reducible refine w_setI ?_
  | with_reducible refine w_sl ?_
  | with_reducible refine w_noPart ?_
  | with_reducible refine w_part ?_
  | with_reducible refine w_iter ?_
  | with_reducible refine w_iterT ?_
  | with_reducible refine w_range1 ?_
  | with_reducible refine w_listRg ?_
  | with_reducible refine w_enumK ?_
  | with_reducible refine w_zipK ?_
  | with_reducible refine w_repF ?_
  | with_reducible refine w_lc ?_
  | with_reducible refine w_yes ?_
  | with_reducible refine w_next ?_
  | with_reducible refine w_ret ?_
  | with_reducible refine w_retN ?_
  | with_reducible refine w_drop ?_
  | with_reducible refine w_aName ?_
  | with_reducible refine w_aTup rfl ?_
  | with_reducible refine w_aNil ?_
  | with_reducible refine w_aCons ?_
  | with_reducible refine w_ifS ?_
  | with_reducible refine w_ownS ?_
  | ((with_reducible refine w_frz (ds := ?wd) ?wh ?wq); (case wh => exact rfl))
  | with_reducible refine w_for ?_
  | ((with_reducible refine w_aug (a := ?wd) ?wh ?wq); (case wh => exact rfl))
  | with_reducible refine w_gI ?_
  | with_reducible refine w_gIB ?_
  | with_reducible refine w_gIC ?_
  | with_reducible refine w_gEqI ?_
  | with_reducible refine w_gNeI ?_
  | with_reducible refine w_gIxL ?_
  | with_reducible refine w_gIxT ?_
  | with_reducible refine w_gCat ?_
  | with_reducible refine w_gCatT ?_
  | with_reducible refine w_isN ?_
  | with_reducible refine w_notN ?_
  | with_reducible refine w_gInL ?_
  | with_reducible refine w_gLenL ?_
  | with_reducible refine w_gLenT ?_
  | with_reducible refine w_gIntI ?_
  | with_reducible refine w_gTuple ?_
  | with_reducible refine w_gBools ?_
  | with_reducible refine w_gInts ?_
  | with_reducible refine w_gNeD ?_
  | with_reducible refine w_gEqD ?_
  | with_reducible refine w_gRevL ?_
  | with_reducible refine w_gSlL ?_
  | with_reducible refine w_gSlT ?_
  | with_reducible refine w_itT ?_
  | with_reducible refine w_itF ?_
  | with_reducible refine w_itTT ?_
  | with_reducible refine w_itFT ?_
  | with_reducible refine w_gList ?_
  | with_reducible refine w_gSortI ?_
  | with_reducible refine w_range2 ?_
  | ((with_reducible refine w_lcO (ds := ?wd) ?wh ?wq ?wr); (case wh => exact rfl); (case wq => exact rfl))
  | with_reducible refine w_aUnl rfl ?_
  | with_reducible refine w_listF ?_
  | with_reducible refine w_brk ?_
  | with_reducible refine w_cnt ?_
  | with_reducible refine w_neg ?_
  | with_reducible refine w_gIntB ?_
  | simp only [wipeS, backS, List.set_cons_zero, List.set_cons_succ, List.getElem?_cons_zero, List.getElem?_cons_succ, Option.join_some, Option.join_none, Bool.not_true, Bool.not_false]))
local macro_rules | `(tactic| walk_at "wv") => `(tactic| ((repeat (walk_at "wv1"; try dsimp only)); try simp only [List.set_cons_zero, List.set_cons_succ]))
local macro_rules | `(tactic| walk_at "st") => `(tactic| simp only [startS, List.map_cons, List.map_nil, List.length_cons, List.length_nil, Nat.reduceAdd, Nat.reduceSub, List.replicate_succ, List.replicate_zero, List.cons_append, List.nil_append])

def Bq4 (q : Rat) : Prop := q.num.natAbs < 2 ^ 3000 ∧ q.den < 2 ^ 3000
theorem mul_lt3 {a b : Nat} (h : a < 2 ^ 3000) (g : b < 2 ^ 3000) : a * b < 2 ^ 8000 := by
  have : a * b < 2 ^ (3000 + 3000) := by
    rw [Nat.pow_add]
    exact Nat.mul_lt_mul'' h g
  exact Nat.lt_of_lt_of_le this (Nat.pow_le_pow_right (by decide) (by decide))
theorem cMul3 {i j : Int} (h : i.natAbs < 2 ^ 3000) (g : j.natAbs < 2 ^ 3000) : cMul i j = true := decide_eq_true ⟨Nat.lt_of_lt_of_le h (Nat.pow_le_pow_right (by decide) (by decide)), Nat.lt_of_lt_of_le g (Nat.pow_le_pow_right (by decide) (by decide))⟩
theorem dq_n (q : Rat) : gIxT (dQ q) (.int 0) = .ok (.int q.num) := by
  unfold dQ
  exact ixD_nat (ds := [.int q.num, .int (q.den : Int)]) (j := 0) rfl
theorem dq_d (q : Rat) : gIxT (dQ q) (.int 1) = .ok (.int (q.den : Int)) := by
  unfold dQ
  exact ixD_nat (ds := [.int q.num, .int (q.den : Int)]) (j := 1) rfl
theorem plus_ok {q r : Rat} {k : PyData → Prop} (hq : Bq4 q) (hr : Bq4 r) (h : k (dQ (q + r))) : (den_plus [dQ q, dQ r]).okTo k := by
  have d1 := den_ne q
  have d2 := den_ne r
  have m3 : ∀ i j : Int, i.natAbs < 2 ^ 3000 → j.natAbs < 2 ^ 3000 → cMul i j = true := fun i j a b => cMul3 a b
  unfold den_plus body_plus
  generalize cMul = cm at m3 ⊢
  refine w_denP ?_
  walk_at "st"
  walk_at "wv"
  rw [dq_n q]
  refine okTo_ok.mpr ?_
  walk_at "wv"
  rw [dq_d r]
  refine okTo_ok.mpr ?_
  walk_at "wv"
  refine ⟨m3 _ _ hq.1 (by rw [Int.natAbs_natCast]; exact hr.2), ?_⟩
  walk_at "wv"
  rw [dq_n r]
  refine okTo_ok.mpr ?_
  walk_at "wv"
  rw [dq_d q]
  refine okTo_ok.mpr ?_
  walk_at "wv"
  refine ⟨m3 _ _ hr.1 (by rw [Int.natAbs_natCast]; exact hq.2), ?_⟩
  walk_at "wv"
  rw [dq_d q]
  refine okTo_ok.mpr ?_
  walk_at "wv"
  rw [dq_d r]
  refine okTo_ok.mpr ?_
  walk_at "wv"
  refine ⟨m3 _ _ (by rw [Int.natAbs_natCast]; exact hq.2) (by rw [Int.natAbs_natCast]; exact hr.2), ?_⟩
  walk_at "wv"
  refine ⟨rfl, ratio_ok (Int.mul_ne_zero d1 d2) (by rw [Int.natAbs_mul, Int.natAbs_natCast, Int.natAbs_natCast]; exact mul_lt3 hq.2 hr.2) ?_⟩
  rw [q_plus]
  exact h
theorem ok_of {x : R PyData} {d : PyData} (h : x.okTo fun z => z = d) : x = .ok d := by
  cases x with
  | ok a => exact congrArg R.ok h
  | _ => exact h.elim
theorem plus_eq {q r : Rat} (hq : Bq4 q) (hr : Bq4 r) : den_plus [dQ q, dQ r] = .ok (dQ (q + r)) := ok_of (plus_ok hq hr rfl)
end Bo

/-! ### determinants by their first column, and what the elimination without rests needs of them -/
namespace Bo
abbrev Row := Nat → Rat
/-- the signed sum over the rows: the number of the row at c, times what f says of the others -/
def wlk (f : List Row → Rat) (c : Nat) : List Row → List Row → Rat
  | _, [] => 0
  | p, r :: q => r c * f (p ++ q) - wlk f c (p ++ [r]) q
def lap : List Nat → List Row → Rat
  | [], _ => 1
  | c :: cs, rs => wlk (lap cs) c [] rs
def rAdd (x y : Row) (a : Rat) : Row := fun j => x j + a * y j
/-- f of n rows is linear in each -/
def Lin (n : Nat) (f : List Row → Rat) : Prop := ∀ p q x y a, p.length + q.length + 1 = n → f (p ++ rAdd x y a :: q) = f (p ++ x :: q) + a * f (p ++ y :: q)
theorem wlk_left {f : List Row → Rat} {n c : Nat} {x y : Row} {a : Rat} (h : Lin n f) : ∀ (q p s : List Row), p.length + s.length + q.length = n → wlk f c (p ++ rAdd x y a :: s) q = wlk f c (p ++ x :: s) q + a * wlk f c (p ++ y :: s) q
  | [], p, s, _ => by simp only [wlk]; grind
  | r :: q, p, s, hn => by
    have hn' : p.length + s.length + (q.length + 1) = n := hn
    have ih := wlk_left (c := c) (x := x) (y := y) (a := a) h q p (s ++ [r]) (by rw [List.length_append, List.length_singleton]; omega)
    have e := h p (s ++ q) x y a (by rw [List.length_append]; omega)
    simp only [wlk, List.append_assoc, List.cons_append, List.singleton_append, List.nil_append] at ih e ⊢
    rw [ih, e]
    grind
theorem wlk_lin {f : List Row → Rat} {n c : Nat} {x y : Row} {a : Rat} (h : Lin n f) : ∀ (p s q : List Row), s.length + p.length + q.length = n → wlk f c s (p ++ rAdd x y a :: q) = wlk f c s (p ++ x :: q) + a * wlk f c s (p ++ y :: q)
  | [], s, q, hn => by
    have hn' : s.length + 0 + q.length = n := hn
    have e := wlk_left (c := c) (x := x) (y := y) (a := a) h q s [] (by rw [List.length_nil]; omega)
    simp only [wlk, List.nil_append]
    rw [e]
    simp only [rAdd]
    grind
  | r :: p, s, q, hn => by
    have hn' : s.length + (p.length + 1) + q.length = n := hn
    have ih := wlk_lin (c := c) (x := x) (y := y) (a := a) h p (s ++ [r]) q (by rw [List.length_append, List.length_singleton]; omega)
    have e := h (s ++ p) q x y a (by rw [List.length_append]; omega)
    simp only [wlk, List.cons_append, List.append_assoc] at ih e ⊢
    rw [ih, e]
    grind
theorem lap_lin : ∀ cs : List Nat, Lin cs.length (lap cs)
  | [] => fun p q x y a h => by simp only [List.length_nil] at h; omega
  | c :: cs => fun p q x y a h => wlk_lin (lap_lin cs) p [] q (by simp only [List.length_cons, List.length_nil] at h ⊢; omega)
/-- f of n rows is 0 where two neighbours are the same -/
def Alt (n : Nat) (f : List Row → Rat) : Prop := ∀ p q x, p.length + q.length + 2 = n → f (p ++ x :: x :: q) = 0
theorem wlk_pair {f : List Row → Rat} {n c : Nat} {x : Row} (h : Alt n f) : ∀ (q p s : List Row), p.length + s.length + q.length + 1 = n → wlk f c (p ++ x :: x :: s) q = 0
  | [], p, s, _ => rfl
  | r :: q, p, s, hn => by
    have hn' : p.length + s.length + (q.length + 1) + 1 = n := hn
    have ih := wlk_pair (c := c) (x := x) h q p (s ++ [r]) (by rw [List.length_append, List.length_singleton]; omega)
    have e := h p (s ++ q) x (by rw [List.length_append]; omega)
    simp only [wlk, List.append_assoc, List.cons_append, List.singleton_append, List.nil_append] at ih e ⊢
    rw [ih, e]
    grind
theorem wlk_alt {f : List Row → Rat} {n c : Nat} {x : Row} (h : Alt n f) : ∀ (p s q : List Row), s.length + p.length + q.length + 1 = n → wlk f c s (p ++ x :: x :: q) = 0
  | [], s, q, hn => by
    have hn' : s.length + 0 + q.length + 1 = n := hn
    have e := wlk_pair (c := c) (x := x) h q s [] (by rw [List.length_nil]; omega)
    simp only [wlk, List.nil_append, List.append_assoc, List.cons_append] at e ⊢
    rw [e]
    grind
  | r :: p, s, q, hn => by
    have hn' : s.length + (p.length + 1) + q.length + 1 = n := hn
    have ih := wlk_alt (c := c) (x := x) h p (s ++ [r]) q (by rw [List.length_append, List.length_singleton]; omega)
    have e := h (s ++ p) q x (by rw [List.length_append]; omega)
    simp only [wlk, List.cons_append, List.append_assoc] at ih e ⊢
    rw [ih, e]
    grind
theorem lap_alt : ∀ cs : List Nat, Alt cs.length (lap cs)
  | [] => fun p q x h => by simp only [List.length_nil] at h; omega
  | [c] => fun p q x h => by
    simp only [List.length_cons, List.length_nil] at h
    obtain rfl : p = [] := List.length_eq_zero_iff.mp (by omega)
    obtain rfl : q = [] := List.length_eq_zero_iff.mp (by omega)
    simp [lap, wlk]
    grind
  | c :: d :: cs => fun p q x h => wlk_alt (lap_alt (d :: cs)) p [] q (by simp only [List.length_cons, List.length_nil] at h ⊢; omega)
/-- neighbours changed round -/
theorem swap_ {n : Nat} {f : List Row → Rat} (l : Lin n f) (h : Alt n f) (p q : List Row) (x y : Row) (hn : p.length + q.length + 2 = n) : f (p ++ x :: y :: q) = - f (p ++ y :: x :: q) := by
  have e0 := h p q (rAdd x y 1) hn
  have e1 := l p (rAdd x y 1 :: q) x y 1 (by rw [List.length_cons]; omega)
  have e2 := l (p ++ [x]) q x y 1 (by rw [List.length_append, List.length_singleton]; omega)
  have e3 := l (p ++ [y]) q x y 1 (by rw [List.length_append, List.length_singleton]; omega)
  have e4 := h p q x hn
  have e5 := h p q y hn
  simp only [List.append_assoc, List.singleton_append, List.cons_append, List.nil_append] at e2 e3
  grind
/-- the same row at two places -/
theorem twice_ {n : Nat} {f : List Row → Rat} (l : Lin n f) (h : Alt n f) (x : Row) : ∀ (m p q : List Row), p.length + m.length + q.length + 2 = n → f (p ++ x :: (m ++ x :: q)) = 0
  | [], p, q, hn => h p q x (by rw [List.length_nil] at hn; omega)
  | y :: m, p, q, hn => by
    have hn' : p.length + (m.length + 1) + q.length + 2 = n := hn
    have e := swap_ l h p (m ++ x :: q) x y (by rw [List.length_append, List.length_cons]; omega)
    have ih := twice_ l h x m (p ++ [y]) q (by rw [List.length_append, List.length_singleton]; omega)
    simp only [List.append_assoc, List.singleton_append, List.cons_append, List.nil_append] at ih e ⊢
    rw [e, ih]
    grind
/-- what rows of rs add up to -/
inductive Spn (rs : List Row) : Row → Prop where
  | zero : Spn rs fun _ => 0
  | add {z r : Row} (a : Rat) : r ∈ rs → Spn rs z → Spn rs (rAdd z r a)
theorem Lin.nil_ {n : Nat} {f : List Row → Rat} (l : Lin n f) {p : List Row} (hn : p.length + 1 = n) : f (p ++ [fun _ => 0]) = 0 := by
  have e := l p [] (fun _ => 0) (fun _ => 0) 1 (by rw [List.length_nil]; omega)
  have z : rAdd (fun _ => 0) (fun _ => 0) 1 = fun _ => (0 : Rat) := by
    funext j
    simp only [rAdd]
    grind
  rw [z] at e
  grind
/-- a last row that is made of the others -/
theorem sp_zero {n : Nat} {f : List Row → Rat} (l : Lin n f) (h : Alt n f) {rs : List Row} {z : Row} (hn : rs.length + 1 = n) (s : Spn rs z) : f (rs ++ [z]) = 0 := by
  induction s with
  | zero => exact l.nil_ hn
  | @add z r a hr _ ih =>
    rw [l rs [] _ _ a (by rw [List.length_nil]; omega), ih]
    obtain ⟨p, q, rfl⟩ := List.append_of_mem hr
    have e := twice_ l h r q p [] (by rw [List.length_append, List.length_cons] at hn; rw [List.length_nil]; omega)
    rw [List.append_assoc, List.cons_append, e]
    grind
/-- made of rs, told of the last row: it may be taken off -/
theorem sp_off {n : Nat} {f : List Row → Rat} (l : Lin n f) (h : Alt n f) {rs : List Row} {x z : Row} (hn : rs.length + 1 = n) (s : Spn rs z) : f (rs ++ [rAdd x z 1]) = f (rs ++ [x]) := by
  rw [l rs [] x z 1 (by rw [List.length_nil]; omega), sp_zero l h hn s]
  grind
/-- a last row that is 0 in all but the last column -/
theorem wlk_last {f g : List Row → Rat} {c : Nat} {y : Row} {v : Rat} (h0 : y c = 0) : ∀ (q s : List Row), (∀ p, p.length + 1 = s.length + q.length → f (p ++ [y]) = g p * v) → wlk f c s (q ++ [y]) = wlk g c s q * v
  | [], s, _ => by
    simp only [wlk, List.nil_append, h0]
    grind
  | r :: q, s, h => by
    have ih := wlk_last (f := f) (g := g) (v := v) h0 q (s ++ [r]) fun p hp => h p (by rw [List.length_append, List.length_singleton] at hp; rw [List.length_cons]; omega)
    have e := h (s ++ q) (by rw [List.length_append, List.length_cons]; omega)
    simp only [wlk, List.cons_append, List.append_assoc] at ih e ⊢
    rw [ih, e]
    grind
theorem lap_last {j : Nat} {y : Row} : ∀ (cs : List Nat) (rs : List Row), rs.length = cs.length → (∀ c ∈ cs, y c = 0) → lap (cs ++ [j]) (rs ++ [y]) = lap cs rs * y j
  | [], rs, hl, _ => by
    obtain rfl := List.length_eq_zero_iff.mp hl
    simp only [lap, List.nil_append, wlk]
    grind
  | c :: cs, rs, hl, h => by
    show wlk (lap (cs ++ [j])) c [] (rs ++ [y]) = wlk (lap cs) c [] rs * y j
    refine wlk_last (h c List.mem_cons_self) rs [] fun p hp => lap_last cs p (by rw [List.length_cons] at hl; rw [List.length_nil] at hp; omega) fun d hd => h d (List.mem_cons_of_mem c hd)
/-- x, cleared of the columns cs by rs -/
structure Clr (cs : List Nat) (rs : List Row) (x y : Row) : Prop where
  sp : ∃ z, Spn rs z ∧ x = rAdd y z 1
  out : ∀ c ∈ cs, y c = 0
theorem Clr.val {cs : List Nat} {rs : List Row} {x y : Row} (k : Clr cs rs x y) (hl : rs.length = cs.length) (j : Nat) : lap (cs ++ [j]) (rs ++ [x]) = lap cs rs * y j := by
  obtain ⟨z, s, rfl⟩ := k.sp
  have n1 : rs.length + 1 = (cs ++ [j]).length := by rw [List.length_append, List.length_singleton, hl]
  rw [sp_off (lap_lin _) (lap_alt _) n1 s]
  exact lap_last cs rs hl k.out
theorem Spn.more {rs : List Row} {r z : Row} (s : Spn rs z) : Spn (rs ++ [r]) z := by
  induction s with
  | zero => exact .zero
  | add a h _ ih => exact .add a (List.mem_append_left _ h) ih
theorem Spn.plus {rs : List Row} {w z : Row} (a : Rat) (s : Spn rs w) (t : Spn rs z) : Spn rs (rAdd w z a) := by
  induction t with
  | zero =>
    have e : rAdd w (fun _ => 0) a = w := by
      funext j
      simp only [rAdd]
      grind
    rw [e]
    exact s
  | @add z r b h _ ih =>
    have e : rAdd w (rAdd z r b) a = rAdd (rAdd w z a) r (a * b) := by
      funext j
      simp only [rAdd]
      grind
    rw [e]
    exact .add _ h ih
/-- one more column cleared -/
theorem Clr.step {cs : List Nat} {rs : List Row} {x y r s : Row} {c : Nat} (k : Clr cs rs x y) (p : Clr cs rs r s) (h : s c ≠ 0) : Clr (cs ++ [c]) (rs ++ [r]) x (rAdd y s (-(y c / s c))) := by
  obtain ⟨⟨z, hz, ex⟩, hy⟩ := k
  obtain ⟨⟨w, hw, er⟩, hs⟩ := p
  refine ⟨⟨rAdd (rAdd z w (-(y c / s c))) r (y c / s c), .add _ (List.mem_append_right _ List.mem_cons_self) (.plus _ hz.more hw.more), ?_⟩, fun d hd => ?_⟩
  · funext j
    rw [ex, er]
    simp only [rAdd]
    grind
  · rcases List.mem_append.mp hd with q | q
    · simp only [rAdd, hy d q, hs d q]
      grind
    · obtain rfl := List.mem_singleton.mp q
      simp only [rAdd]
      grind
/-- the step of the elimination: what the numbers' products come to -/
theorem lap_step {cs : List Nat} {rs : List Row} {x y r s : Row} {c : Nat} (k : Clr cs rs x y) (p : Clr cs rs r s) (hl : rs.length = cs.length) (h : lap (cs ++ [c]) (rs ++ [r]) ≠ 0) (j : Nat) :
    lap (cs ++ [c]) (rs ++ [r]) * lap (cs ++ [j]) (rs ++ [x]) - lap (cs ++ [c]) (rs ++ [x]) * lap (cs ++ [j]) (rs ++ [r]) = lap cs rs * lap (cs ++ [c] ++ [j]) (rs ++ [r] ++ [x]) := by
  have e1 := p.val hl c
  have hs : s c ≠ 0 := fun z => h (by rw [e1, z]; grind)
  have k' := k.step p hs
  rw [k'.val (by rw [List.length_append, List.length_append, hl]; rfl) j, e1, k.val hl, k.val hl, p.val hl]
  simp only [rAdd]
  grind
/-! whole numbers -/
abbrev RowZ := Nat → Int
def wlkZ (f : List RowZ → Int) (c : Nat) : List RowZ → List RowZ → Int
  | _, [] => 0
  | p, r :: q => r c * f (p ++ q) - wlkZ f c (p ++ [r]) q
def lapZ : List Nat → List RowZ → Int
  | [], _ => 1
  | c :: cs, rs => wlkZ (lapZ cs) c [] rs
def rQ (r : RowZ) : Row := fun j => (r j : Rat)
theorem wlkZ_cast {f : List RowZ → Int} {g : List Row → Rat} {c : Nat} (h : ∀ rs, g (rs.map rQ) = (f rs : Rat)) : ∀ (q p : List RowZ), wlk g c (p.map rQ) (q.map rQ) = (wlkZ f c p q : Rat)
  | [], p => rfl
  | r :: q, p => by
    have ih := wlkZ_cast (c := c) h q (p ++ [r])
    have e := h (p ++ q)
    simp only [List.map_append, List.map_cons, List.map_nil] at ih e
    show rQ r c * g (p.map rQ ++ q.map rQ) - wlk g c (p.map rQ ++ [rQ r]) (q.map rQ) = _
    rw [e, ih]
    simp only [wlkZ, rQ]
    rw [Rat.intCast_sub, Rat.intCast_mul]
theorem lapZ_cast : ∀ (cs : List Nat) (rs : List RowZ), lap cs (rs.map rQ) = (lapZ cs rs : Rat)
  | [], _ => rfl
  | c :: cs, rs => wlkZ_cast (lapZ_cast cs) rs []
/-- the products' difference is the number before, times a whole number -/
theorem lapZ_step {cs : List Nat} {rs : List RowZ} {x r : RowZ} {y s : Row} {c : Nat} (k : Clr cs (rs.map rQ) (rQ x) y) (p : Clr cs (rs.map rQ) (rQ r) s) (hl : rs.length = cs.length) (h : lapZ (cs ++ [c]) (rs ++ [r]) ≠ 0) (j : Nat) :
    lapZ (cs ++ [c]) (rs ++ [r]) * lapZ (cs ++ [j]) (rs ++ [x]) - lapZ (cs ++ [c]) (rs ++ [x]) * lapZ (cs ++ [j]) (rs ++ [r]) = lapZ cs rs * lapZ (cs ++ [c] ++ [j]) (rs ++ [r] ++ [x]) := by
  have hq : lap (cs ++ [c]) (rs.map rQ ++ [rQ r]) ≠ 0 := by
    rw [show rs.map rQ ++ [rQ r] = (rs ++ [r]).map rQ by simp, lapZ_cast]
    exact fun z => h (by exact_mod_cast z)
  have e := lap_step k p (by rw [List.length_map, hl]) hq j
  rw [show rs.map rQ ++ [rQ r] ++ [rQ x] = (rs ++ [r] ++ [x]).map rQ by simp, show rs.map rQ ++ [rQ r] = (rs ++ [r]).map rQ by simp, show rs.map rQ ++ [rQ x] = (rs ++ [x]).map rQ by simp] at e
  simp only [lapZ_cast] at e
  exact_mod_cast e
end Bo

/-! ### what the elimination finds: pivots, solutions, that nothing rests -/
namespace Bo
/-- a sum over columns -/
def sm (u : Nat → Rat) (r : Row) : List Nat → Rat
  | [] => 0
  | c :: cs => u c * r c + sm u r cs
theorem sm_add {u : Nat → Rat} {x y : Row} {a : Rat} : ∀ cs : List Nat, sm u (rAdd x y a) cs = sm u x cs + a * sm u y cs
  | [] => by simp only [sm]; grind
  | c :: cs => by
    simp only [sm, sm_add cs, rAdd]
    grind
theorem sm_app {u : Nat → Rat} {x : Row} : ∀ cs ds : List Nat, sm u x (cs ++ ds) = sm u x cs + sm u x ds
  | [], ds => by simp only [sm, List.nil_append]; grind
  | c :: cs, ds => by
    simp only [sm, List.cons_append, sm_app cs ds]
    grind
theorem sm_zero {u : Nat → Rat} {x : Row} : ∀ cs : List Nat, (∀ c ∈ cs, x c = 0) → sm u x cs = 0
  | [], _ => rfl
  | c :: cs, h => by
    simp only [sm, h c List.mem_cons_self, sm_zero cs fun d hd => h d (List.mem_cons_of_mem c hd)]
    grind
theorem sm_mix {u v w : Nat → Rat} {t : Rat} {x : Row} : ∀ cs : List Nat, (∀ c ∈ cs, w c = u c - t * v c) → sm w x cs = sm u x cs - t * sm v x cs
  | [], _ => by simp only [sm]; grind
  | c :: cs, h => by
    simp only [sm, h c List.mem_cons_self, sm_mix (x := x) cs fun d hd => h d (List.mem_cons_of_mem c hd)]
    grind
/-- the number at j is what u makes of those at cs -/
def Is (cs : List Nat) (u : Nat → Rat) (j : Nat) (x : Row) : Prop := x j = sm u x cs
theorem Is.add {cs : List Nat} {u : Nat → Rat} {j : Nat} {x y : Row} (h : Is cs u j x) (g : Is cs u j y) (a : Rat) : Is cs u j (rAdd x y a) := by
  unfold Is at *
  rw [sm_add, ← h, ← g]
  rfl
theorem Is.sp {cs : List Nat} {u : Nat → Rat} {j : Nat} {rs : List Row} {z : Row} (h : ∀ r ∈ rs, Is cs u j r) (s : Spn rs z) : Is cs u j z := by
  induction s with
  | zero => exact (sm_zero cs fun _ _ => rfl).symm
  | add a hr _ ih => exact ih.add (h _ hr) a
/-- pivots, one after another -/
inductive Elim : List Nat → List Row → Prop where
  | nil : Elim [] []
  | step {cs : List Nat} {rs : List Row} {r s : Row} {c : Nat} : Elim cs rs → Clr cs rs r s → s c ≠ 0 → c ∉ cs → Elim (cs ++ [c]) (rs ++ [r])
theorem Elim.len {cs : List Nat} {rs : List Row} (e : Elim cs rs) : rs.length = cs.length := by
  induction e with
  | nil => rfl
  | step _ _ _ _ ih => rw [List.length_append, List.length_append, ih]; rfl
theorem Elim.clr {cs : List Nat} {rs : List Row} (e : Elim cs rs) : ∀ x : Row, ∃ y, Clr cs rs x y := by
  induction e with
  | nil => exact fun x => ⟨x, ⟨fun _ => 0, .zero, by funext j; simp only [rAdd]; grind⟩, fun _ h => nomatch h⟩
  | step _ p h _ ih => exact fun x => let ⟨y, k⟩ := ih x; ⟨_, k.step p h⟩
theorem Elim.ne {cs : List Nat} {rs : List Row} (e : Elim cs rs) : lap cs rs ≠ 0 := by
  induction e with
  | nil => exact (by decide : (1 : Rat) ≠ 0)
  | step e p h _ ih =>
    rw [p.val e.len]
    intro z
    rcases Rat.mul_eq_zero.mp z with q | q
    · exact ih q
    · exact h q
theorem Elim.sol {cs : List Nat} {rs : List Row} (e : Elim cs rs) : ∀ j : Nat, ∃ u, ∀ r ∈ rs, Is cs u j r := by
  induction e with
  | nil => exact fun j => ⟨fun _ => 0, fun _ h => nomatch h⟩
  | @step cs rs r s c e p h hc ih =>
    intro j
    obtain ⟨u, hu⟩ := ih j
    obtain ⟨v, hv⟩ := ih c
    refine ⟨fun d => if d = c then s j / s c else u d - s j / s c * v d, ?_⟩
    have mix : ∀ x : Row, sm (fun d => if d = c then s j / s c else u d - s j / s c * v d) x cs = sm u x cs - s j / s c * sm v x cs := fun x => sm_mix cs fun d hd => if_neg fun (z : d = c) => hc (z ▸ hd)
    have old : ∀ x ∈ rs, Is (cs ++ [c]) (fun d => if d = c then s j / s c else u d - s j / s c * v d) j x := fun x hx => by
      have e1 : x j = sm u x cs := hu x hx
      have e2 : x c = sm v x cs := hv x hx
      show x j = _
      rw [sm_app, mix, ← e1, ← e2]
      simp only [sm, if_true]
      grind
    intro x hx
    rcases List.mem_append.mp hx with q | q
    · exact old x q
    · obtain rfl := List.mem_singleton.mp q
      obtain ⟨⟨z, sz, ez⟩, out⟩ := p
      rw [ez]
      refine Is.add ?_ (Is.sp old sz) 1
      show s j = _
      rw [sm_app, sm_zero cs out]
      simp only [sm, if_true]
      grind
/-- a row cleared by rows for which u makes j: its number at j is that of the row, less what u makes -/
theorem Clr.gap {cs : List Nat} {rs : List Row} {x y : Row} {u : Nat → Rat} {j : Nat} (k : Clr cs rs x y) (h : ∀ r ∈ rs, Is cs u j r) : x j - sm u x cs = y j := by
  obtain ⟨⟨z, sz, ez⟩, out⟩ := k
  have e : z j = sm u z cs := Is.sp h sz
  rw [ez, sm_add, sm_zero cs out, ← e]
  simp only [rAdd]
  grind
def unit (l : Nat) : RowZ := fun j => if j = l then 1 else 0
theorem sm_unit {u : Nat → Rat} {l : Nat} : ∀ cs : List Nat, cs.Nodup → l ∈ cs → sm u (rQ (unit l)) cs = u l
  | c :: cs, nd, h => by
    have nd' := List.nodup_cons.mp nd
    by_cases q : c = l
    · subst q
      have z : sm u (rQ (unit c)) cs = 0 := sm_zero cs fun d hd => by
        have : d ≠ c := fun e => nd'.1 (e ▸ hd)
        simp only [rQ, unit, if_neg this]
        rfl
      simp only [sm, z, rQ, unit, if_true]
      grind
    · have hl : l ∈ cs := (List.mem_cons.mp h).resolve_left fun e => q e.symm
      simp only [sm, sm_unit cs nd'.2 hl, rQ, unit, if_neg q]
      grind
theorem Elim.nodup {cs : List Nat} {rs : List Row} (e : Elim cs rs) : cs.Nodup := by
  induction e with
  | nil => exact List.nodup_nil
  | step _ _ _ hc ih => exact List.nodup_append.mpr ⟨ih, List.nodup_cons.mpr ⟨(nomatch ·), List.nodup_nil⟩, fun a ha b hb => by rw [List.mem_singleton.mp hb]; exact fun z => hc (z ▸ ha)⟩
/-- the solutions, times the last leading number, are whole -/
theorem whole_sol {cs : List Nat} {rs : List RowZ} {u : Nat → Rat} {j l : Nat} (e : Elim cs (rs.map rQ)) (h : ∀ r ∈ rs.map rQ, Is cs u j r) (hl : l ∈ cs) (hj : j ∉ cs) : ∃ v : Int, (v : Rat) = (lapZ cs rs : Rat) * u l := by
  obtain ⟨y, k⟩ := e.clr (rQ (unit l))
  have g := k.gap h
  rw [sm_unit cs e.nodup hl] at g
  have z : rQ (unit l) j = 0 := by
    have : j ≠ l := fun q => hj (q ▸ hl)
    simp only [rQ, unit, if_neg this]
    rfl
  have w := k.val e.len j
  rw [show rs.map rQ ++ [rQ (unit l)] = (rs ++ [unit l]).map rQ by simp, lapZ_cast, lapZ_cast] at w
  refine ⟨- lapZ (cs ++ [j]) (rs ++ [unit l]), ?_⟩
  rw [Rat.intCast_neg, w]
  grind
end Bo

/-! ### the table of the elimination: each row of it is a row of determinants, so no division leaves a rest -/
namespace Bo
def bRow (s row : List Int) (b : Int) : List Int := (row.tail.zip s.tail).map fun p => Int.fdiv (s.headD 0 * p.1 - row.headD 0 * p.2) b
/-- the table's row of x behind k steps, with m columns in all -/
def tRow (m k : Nat) (rs : List RowZ) (x : RowZ) : List Int := (List.range' k (m - k)).map fun j => lapZ (List.range k ++ [j]) (rs ++ [x])
theorem tRow_cons {m k : Nat} {rs : List RowZ} {x : RowZ} (h : k < m) : tRow m k rs x = lapZ (List.range k ++ [k]) (rs ++ [x]) :: (List.range' (k + 1) (m - (k + 1))).map fun j => lapZ (List.range k ++ [j]) (rs ++ [x]) := by
  unfold tRow
  obtain ⟨d, e⟩ : ∃ d, m - k = d + 1 := ⟨m - k - 1, by omega⟩
  rw [e, List.range'_succ, List.map_cons, show m - (k + 1) = d by omega]
theorem tRow_zero {m : Nat} {x : RowZ} : tRow m 0 [] x = (List.range m).map x := by
  unfold tRow
  rw [Nat.sub_zero, ← List.range_eq_range']
  refine List.map_congr_left fun j _ => ?_
  simp [lapZ, wlkZ]
theorem zip_map2 {α : Type} {f g : α → Int} : ∀ l : List α, (l.map f).zip (l.map g) = l.map fun j => (f j, g j)
  | [] => rfl
  | a :: l => by rw [List.map_cons, List.map_cons, List.zip_cons_cons, zip_map2 l]; rfl
theorem bRow_t {m k : Nat} {rs : List RowZ} {r x : RowZ} (e : Elim (List.range k) (rs.map rQ)) (hk : k < m) (h : lapZ (List.range k ++ [k]) (rs ++ [r]) ≠ 0) :
    bRow (tRow m k rs r) (tRow m k rs x) (lapZ (List.range k) rs) = tRow m (k + 1) (rs ++ [r]) x := by
  have hb : lapZ (List.range k) rs ≠ 0 := fun z => e.ne (by rw [lapZ_cast, z]; rfl)
  obtain ⟨y, ky⟩ := e.clr (rQ x)
  obtain ⟨s, ks⟩ := e.clr (rQ r)
  unfold bRow
  rw [tRow_cons hk, tRow_cons hk, List.tail_cons, List.tail_cons, List.headD_cons, List.headD_cons, zip_map2, List.map_map]
  unfold tRow
  refine List.map_congr_left fun j _ => ?_
  have w := lapZ_step ky ks (by have := e.len; rwa [List.length_map] at this) h j
  show Int.fdiv _ _ = _
  rw [w, Int.mul_fdiv_cancel_left _ hb, List.range_succ]
/-- the first row whose first number is not 0 -/
def pick : List (List Int) → Option Nat
  | [] => none
  | r :: t => if r.headD 0 ≠ 0 then some 0 else (pick t).map (· + 1)
theorem pick_none : ∀ {t : List (List Int)}, pick t = none → ∀ r ∈ t, r.headD 0 = 0
  | [], _, _, h => nomatch h
  | r :: t, e, x, h => by
    unfold pick at e
    split at e
    · cases e
    · rename_i z
      have z' : r.headD 0 = 0 := Classical.not_not.mp z
      rcases List.mem_cons.mp h with q | q
      · rw [q]; exact z'
      · exact pick_none (Option.map_eq_none_iff.mp e) x q
theorem pick_some : ∀ {t : List (List Int)} {i : Nat}, pick t = some i → ∃ r, t[i]? = some r ∧ r.headD 0 ≠ 0
  | [], _, e => nomatch e
  | r :: t, i, e => by
    unfold pick at e
    split at e
    · rename_i z
      cases e
      exact ⟨r, rfl, z⟩
    · obtain ⟨j, hj, rfl⟩ := Option.map_eq_some_iff.mp e
      obtain ⟨q, a, b⟩ := pick_some (t := t) hj
      exact ⟨q, a, b⟩
theorem erase_map {α β : Type} (f : α → β) : ∀ (l : List α) (i : Nat), (l.map f).eraseIdx i = (l.eraseIdx i).map f
  | [], _ => rfl
  | _ :: _, 0 => rfl
  | a :: l, i + 1 => by
    show f a :: (l.map f).eraseIdx i = f a :: (l.eraseIdx i).map f
    rw [erase_map f l i]
theorem erase_perm {α : Type} : ∀ {l : List α} {i : Nat} {r : α}, l[i]? = some r → (r :: l.eraseIdx i).Perm l
  | [], _, _, h => nomatch h
  | a :: l, 0, r, h => by
    obtain rfl : a = r := Option.some.inj h
    exact List.Perm.refl _
  | a :: l, i + 1, r, h => (List.Perm.swap a r (l.eraseIdx i)).trans ((erase_perm (l := l) (i := i) h).cons a)
def bElim : Nat → List (List Int) → List (List Int) → Int → Option (List (List Int) × Int)
  | 0, _, st, b => some (st, b)
  | f + 1, t, st, b => if t = [] then some (st, b) else match pick t with
    | none => none
    | some i => bElim f ((t.eraseIdx i).map fun row => bRow (t.getD i []) row b) (st ++ [t.getD i []]) ((t.getD i []).headD 0)
/-- the steps that were kept -/
def stp (m : Nat) (rs : List RowZ) : List (List Int) := (List.range rs.length).map fun i => tRow m i (rs.take i) (rs.getD i fun _ => 0)
theorem stp_app {m : Nat} {rs : List RowZ} {r : RowZ} : stp m (rs ++ [r]) = stp m rs ++ [tRow m rs.length rs r] := by
  unfold stp
  rw [List.length_append, List.length_singleton, List.range_succ, List.map_append]
  congr 1
  · refine List.map_congr_left fun i hi => ?_
    have lt := List.mem_range.mp hi
    rw [List.take_append_of_le_length (Nat.le_of_lt lt)]
    congr 1
    rw [List.getD_eq_getElem?_getD, List.getD_eq_getElem?_getD, List.getElem?_append_left lt]
  · rw [List.map_singleton, List.take_left]
    congr 2
    rw [List.getD_eq_getElem?_getD, List.getElem?_append_right (Nat.le_refl _), Nat.sub_self]
    rfl
theorem bElim_ok {m : Nat} : ∀ (f : Nat) (xs rs : List RowZ), xs.length ≤ f → rs.length + xs.length < m → Elim (List.range rs.length) (rs.map rQ) →
    match bElim f (xs.map (tRow m rs.length rs)) (stp m rs) (lapZ (List.range rs.length) rs) with
    | some (st, b) => ∃ qs : List RowZ, qs.Perm (rs ++ xs) ∧ Elim (List.range qs.length) (qs.map rQ) ∧ st = stp m qs ∧ b = lapZ (List.range qs.length) qs
    | none => ∃ (k : Nat) (u : Nat → Rat), k < rs.length + xs.length ∧ ∀ x ∈ rs ++ xs, Is (List.range k) u k (rQ x)
  | 0, xs, rs, hf, hm, e => by
    obtain rfl := List.length_eq_zero_iff.mp (Nat.le_zero.mp hf)
    exact ⟨rs, by rw [List.append_nil], e, rfl, rfl⟩
  | f + 1, [], rs, hf, hm, e => ⟨rs, by rw [List.append_nil], e, rfl, rfl⟩
  | f + 1, x :: xs, rs, hf, hm, e => by
    have hm' : rs.length < m := by omega
    have hd : ∀ z : RowZ, (tRow m rs.length rs z).headD 0 = lapZ (List.range rs.length ++ [rs.length]) (rs ++ [z]) := fun z => by rw [tRow_cons hm']; rfl
    unfold bElim
    rw [if_neg (by simp)]
    cases hp : pick ((x :: xs).map (tRow m rs.length rs)) with
    | none =>
      have al := pick_none hp
      obtain ⟨u, hu⟩ := e.sol rs.length
      refine ⟨rs.length, u, by rw [List.length_cons]; omega, fun z hz => ?_⟩
      rcases List.mem_append.mp hz with q | q
      · exact hu _ (List.mem_map_of_mem q)
      · obtain ⟨y, k⟩ := e.clr (rQ z)
        have h0 := al _ (List.mem_map_of_mem q)
        rw [hd] at h0
        have v := k.val e.len rs.length
        rw [show rs.map rQ ++ [rQ z] = (rs ++ [z]).map rQ by simp, lapZ_cast, h0] at v
        have y0 : y rs.length = 0 := by
          rcases Rat.mul_eq_zero.mp v.symm with w | w
          · exact absurd w e.ne
          · exact w
        have g := k.gap hu
        rw [y0] at g
        show rQ z rs.length = _
        grind
    | some i =>
      obtain ⟨row, h1, h2⟩ := pick_some hp
      rw [List.getElem?_map] at h1
      obtain ⟨r, hr, rfl⟩ := Option.map_eq_some_iff.mp h1
      have gd : ((x :: xs).map (tRow m rs.length rs)).getD i [] = tRow m rs.length rs r := by
        rw [List.getD_eq_getElem?_getD, List.getElem?_map, hr]
        rfl
      rw [hd] at h2
      obtain ⟨s, ks⟩ := e.clr (rQ r)
      have v := ks.val e.len rs.length
      rw [show rs.map rQ ++ [rQ r] = (rs ++ [r]).map rQ by simp, lapZ_cast] at v
      have sne : s rs.length ≠ 0 := fun z => h2 (by
        rw [z] at v
        have v' : ((lapZ (List.range rs.length ++ [rs.length]) (rs ++ [r]) : Int) : Rat) = 0 := by rw [v]; grind
        exact_mod_cast v')
      have e' : Elim (List.range (rs ++ [r]).length) ((rs ++ [r]).map rQ) := by
        rw [List.length_append, List.length_singleton, List.range_succ, List.map_append]
        exact .step e ks sne (by simp)
      have li := (List.getElem?_eq_some_iff.mp hr).1
      have le : ((x :: xs).eraseIdx i).length + 1 = (x :: xs).length := by rw [List.length_eraseIdx_of_lt li]; omega
      have ih := bElim_ok (m := m) f ((x :: xs).eraseIdx i) (rs ++ [r]) (by omega) (by rw [List.length_append, List.length_singleton]; omega) e'
      have tb : (((x :: xs).map (tRow m rs.length rs)).eraseIdx i).map (fun row => bRow (tRow m rs.length rs r) row (lapZ (List.range rs.length) rs)) = ((x :: xs).eraseIdx i).map (tRow m (rs ++ [r]).length (rs ++ [r])) := by
        rw [erase_map, List.map_map]
        refine List.map_congr_left fun z _ => ?_
        show bRow _ (tRow m rs.length rs z) _ = _
        rw [bRow_t e hm' h2, List.length_append, List.length_singleton]
      have pm : (r :: (x :: xs).eraseIdx i).Perm (x :: xs) := erase_perm hr
      have pm2 : (rs ++ [r] ++ (x :: xs).eraseIdx i).Perm (rs ++ (x :: xs)) := by
        rw [List.append_assoc]
        exact List.Perm.append_left rs pm
      show (match bElim f _ _ _ with
        | some (st, b) => _
        | none => _)
      rw [gd, tb, hd, show lapZ (List.range rs.length ++ [rs.length]) (rs ++ [r]) = lapZ (List.range (rs ++ [r]).length) (rs ++ [r]) by rw [List.length_append, List.length_singleton, List.range_succ], ← stp_app]
      split at ih
      · rename_i st b hb
        obtain ⟨qs, q1, q2⟩ := ih
        exact ⟨qs, q1.trans pm2, q2⟩
      · rename_i hb
        obtain ⟨k, u, q1, q2⟩ := ih
        refine ⟨k, u, ?_, fun z hz => q2 z (pm2.mem_iff.mpr hz)⟩
        rw [List.length_append, List.length_singleton] at q1
        omega
end Bo

/-! ### the values, from the last step back to the first -/
namespace Bo
def bBack (b : Int) : List (List Int) → List Int → List Int
  | [], acc => acc
  | s :: ss, acc => bBack b ss (Int.fdiv (b * s.getLastD 0 - ((s.tail.zip acc).map fun p => p.1 * p.2).sum) (s.headD 0) :: acc)
theorem Elim.snoc {cs : List Nat} {rs : List Row} {c : Nat} {r : Row} (e : Elim (cs ++ [c]) (rs ++ [r])) : Elim cs rs := by
  generalize hc : cs ++ [c] = cs' at e
  generalize hr : rs ++ [r] = rs' at e
  cases e with
  | nil => simp at hc
  | step e' _ _ _ =>
    obtain ⟨h1, _⟩ := List.append_inj' hc rfl
    obtain ⟨h2, _⟩ := List.append_inj' hr rfl
    rw [h1, h2]
    exact e'
theorem Elim.cut {qs : List RowZ} : ∀ (d : Nat) (k : Nat), k + d = qs.length → Elim (List.range qs.length) (qs.map rQ) → Elim (List.range k) ((qs.take k).map rQ)
  | 0, k, h, e => by
    rw [← Nat.add_zero k, h, List.take_length]
    exact e
  | d + 1, k, h, e => by
    have ih := Elim.cut d (k + 1) (by omega) e
    have lt : k < qs.length := by omega
    rw [List.range_succ, List.take_add_one, List.getElem?_eq_getElem lt, Option.toList_some, List.map_append] at ih
    exact ih.snoc
theorem sum_cast {T v : Nat → Int} {u : Nat → Rat} {y : Row} {d b : Rat} : ∀ l : List Nat, (∀ j ∈ l, (T j : Rat) = d * y j ∧ (v j : Rat) = b * u j) → (((l.map fun j => T j * v j).sum : Int) : Rat) = d * b * sm u y l
  | [], _ => by simp only [sm]; simp
  | j :: l, h => by
    obtain ⟨h1, h2⟩ := h j List.mem_cons_self
    have ih := sum_cast l fun i hi => h i (List.mem_cons_of_mem j hi)
    rw [List.map_cons, List.sum_cons, Rat.intCast_add, Rat.intCast_mul, h1, h2, ih]
    simp only [sm]
    grind
theorem zip_cut {f v : Nat → Int} {a : List Nat} {z : Int} : ((a.map f ++ [z]).zip (a.map v)) = a.map fun j => (f j, v j) := by
  have e := List.zip_append (l₁ := a.map f) (r₁ := [z]) (l₂ := a.map v) (r₂ := []) (by rw [List.length_map, List.length_map])
  rw [List.append_nil] at e
  rw [e, zip_map2, List.zip_nil_right, List.append_nil]
theorem range'_snoc (k d : Nat) : List.range' k (d + 1) = List.range' k d ++ [k + d] := by
  rw [List.range'_concat, Nat.one_mul]
/-- one value -/
theorem back_step {n k : Nat} {qs : List RowZ} {r : RowZ} {u : Nat → Rat} {v : Nat → Int} {b : Int} (e : Elim (List.range k) ((qs.take k).map rQ)) (hr : qs[k]? = some r) (hn : k < n) (h : ∀ x ∈ qs.map rQ, Is (List.range n) u n x) (hv : ∀ l, l < n → (v l : Rat) = (b : Rat) * u l)
    (p0 : lapZ (List.range k ++ [k]) (qs.take k ++ [r]) ≠ 0) :
    Int.fdiv (b * (tRow (n + 1) k (qs.take k) r).getLastD 0 - (((tRow (n + 1) k (qs.take k) r).tail.zip ((List.range' (k + 1) (n - (k + 1))).map v)).map fun p => p.1 * p.2).sum) ((tRow (n + 1) k (qs.take k) r).headD 0) = v k := by
  obtain ⟨y, ky⟩ := e.clr (rQ r)
  let T : Nat → Int := fun j => lapZ (List.range k ++ [j]) (qs.take k ++ [r])
  have hT : ∀ j, (T j : Rat) = lap (List.range k) ((qs.take k).map rQ) * y j := fun j => by
    have w := ky.val e.len j
    rw [show (qs.take k).map rQ ++ [rQ r] = (qs.take k ++ [r]).map rQ by simp, lapZ_cast] at w
    exact w
  have sh : tRow (n + 1) k (qs.take k) r = T k :: ((List.range' (k + 1) (n - (k + 1))).map T ++ [T n]) := by
    rw [tRow_cons (by omega), show n + 1 - (k + 1) = (n - (k + 1)) + 1 by omega, range'_snoc, List.map_append, show k + 1 + (n - (k + 1)) = n by omega]
    rfl
  have la : (tRow (n + 1) k (qs.take k) r).getLastD 0 = T n := by
    rw [sh, ← List.cons_append, List.getLastD_eq_getLast?, List.getLast?_append]
    rfl
  rw [la, sh, List.tail_cons, List.headD_cons, zip_cut, List.map_map]
  have hy : Is (List.range n) u n y := by
    obtain ⟨⟨z, sz, ez⟩, _⟩ := ky
    have i1 : Is (List.range n) u n z := Is.sp (rs := (qs.take k).map rQ) (fun x hx => by
      obtain ⟨w, hw, rfl⟩ := List.mem_map.mp hx
      exact h _ (List.mem_map_of_mem (List.mem_of_mem_take hw))) sz
    have i2 : Is (List.range n) u n (rQ r) := h _ (List.mem_map_of_mem (List.mem_of_getElem? hr))
    have ey : y = rAdd (rQ r) z (-1) := by
      rw [ez]
      funext j
      simp only [rAdd]
      grind
    rw [ey]
    exact i2.add i1 (-1)
  have key : b * T n - ((List.range' (k + 1) (n - (k + 1))).map fun j => T j * v j).sum = T k * v k := by
    have cs := sum_cast (T := T) (v := v) (u := u) (y := y) (d := lap (List.range k) ((qs.take k).map rQ)) (b := (b : Rat)) (List.range' (k + 1) (n - (k + 1))) fun j hj => by
      have := List.mem_range'_1.mp hj
      exact ⟨hT j, hv j (by omega)⟩
    have sp : List.range n = List.range k ++ k :: List.range' (k + 1) (n - (k + 1)) := by
      rw [List.range_eq_range', List.range_eq_range', ← List.range'_succ, show n - (k + 1) + 1 = n - k by omega]
      have e := List.range'_append_1 (s := 0) (m := k) (n := n - k)
      rw [Nat.zero_add, show k + (n - k) = n by omega] at e
      exact e.symm
    have hy' : y n = sm u y (List.range n) := hy
    rw [sp, sm_app, sm_zero _ ky.out] at hy'
    simp only [sm] at hy'
    have g : ((b * T n - ((List.range' (k + 1) (n - (k + 1))).map fun j => T j * v j).sum : Int) : Rat) = ((T k * v k : Int) : Rat) := by
      rw [Rat.intCast_sub, Rat.intCast_mul, Rat.intCast_mul, cs, hT n, hT k, hv k hn, hy']
      grind
    exact_mod_cast g
  show Int.fdiv (b * T n - ((List.range' (k + 1) (n - (k + 1))).map fun j => T j * v j).sum) (T k) = v k
  rw [key, Int.mul_fdiv_cancel_left _ p0]
theorem back_ok {n : Nat} {qs : List RowZ} {u : Nat → Rat} {v : Nat → Int} {b : Int} (hq : qs.length = n) (e : Elim (List.range qs.length) (qs.map rQ)) (h : ∀ x ∈ qs.map rQ, Is (List.range n) u n x) (hv : ∀ l, l < n → (v l : Rat) = (b : Rat) * u l) :
    ∀ k, k ≤ n → bBack b ((stp (n + 1) qs).take k).reverse ((List.range' k (n - k)).map v) = (List.range n).map v
  | 0, _ => by
    rw [List.take_zero, List.range_eq_range', Nat.sub_zero]
    rfl
  | k + 1, hk => by
    have lt : k < qs.length := by omega
    have hr := List.getElem?_eq_getElem lt
    have ek : Elim (List.range k) ((qs.take k).map rQ) := Elim.cut (qs.length - k) k (by omega) e
    have ek1 := (Elim.cut (qs.length - (k + 1)) (k + 1) (by omega) e).ne
    rw [List.take_add_one, hr, Option.toList_some, lapZ_cast, List.range_succ] at ek1
    have p0 : lapZ (List.range k ++ [k]) (qs.take k ++ [qs[k]]) ≠ 0 := fun z => ek1 (by rw [z]; rfl)
    have st : (stp (n + 1) qs)[k]? = some (tRow (n + 1) k (qs.take k) qs[k]) := by
      unfold stp
      rw [List.getElem?_map, List.getElem?_range lt]
      show some (tRow (n + 1) k (qs.take k) (qs.getD k fun _ => 0)) = _
      rw [List.getD_eq_getElem?_getD, hr]
      rfl
    rw [List.take_add_one, st, Option.toList_some, List.reverse_append, List.reverse_singleton, List.singleton_append]
    unfold bBack
    rw [back_step ek hr (by omega) h hv p0]
    have ih := back_ok hq e h hv k (by omega)
    rw [show n - k = (n - (k + 1)) + 1 by omega, List.range'_succ, List.map_cons] at ih
    exact ih
end Bo

/-! ### rows and columns: no one solution exactly where the determinant is 0 -/
namespace Bo
theorem wlk_same {f g : List Row → Rat} {c : Nat} {F : Row → Row} (hF : ∀ r, F r c = r c) (h : ∀ rs, f (rs.map F) = g rs) : ∀ (q p : List Row), wlk f c (p.map F) (q.map F) = wlk g c p q
  | [], _ => rfl
  | r :: q, p => by
    have ih := wlk_same hF h q (p ++ [r])
    have e := h (p ++ q)
    simp only [List.map_append, List.map_cons, List.map_nil] at ih e
    show F r c * f (p.map F ++ q.map F) - wlk f c (p.map F ++ [F r]) (q.map F) = _
    rw [e, ih, hF]
    rfl
/-- only the numbers at cs matter -/
theorem lap_same {F : Row → Row} : ∀ (cs : List Nat), (∀ r, ∀ c ∈ cs, F r c = r c) → ∀ rs, lap cs (rs.map F) = lap cs rs
  | [], _, _ => rfl
  | c :: cs, h, rs => wlk_same (fun r => h r c List.mem_cons_self) (lap_same cs fun r d hd => h r d (List.mem_cons_of_mem c hd)) rs []
def only (cs : List Nat) (r : Row) : Row := fun c => if c ∈ cs then r c else 0
theorem lap_only {cs : List Nat} (rs : List Row) : lap cs (rs.map (only cs)) = lap cs rs := lap_same cs (fun r c hc => if_pos hc) rs
theorem wlk_scale {f g : List Row → Rat} {c : Nat} {s t : Rat} {F : Row → Row} (hF : ∀ r, F r c = s * r c) (h : ∀ rs, f (rs.map F) = t * g rs) : ∀ (q p : List Row), wlk f c (p.map F) (q.map F) = s * t * wlk g c p q
  | [], _ => by simp only [List.map_nil, wlk]; grind
  | r :: q, p => by
    have ih := wlk_scale hF h q (p ++ [r])
    have e := h (p ++ q)
    simp only [List.map_append, List.map_cons, List.map_nil] at ih e
    show F r c * f (p.map F ++ q.map F) - wlk f c (p.map F ++ [F r]) (q.map F) = s * t * (r c * g (p ++ q) - wlk g c (p ++ [r]) q)
    rw [e, ih, hF]
    grind
def prd (s : Nat → Rat) : List Nat → Rat
  | [] => 1
  | c :: cs => s c * prd s cs
theorem prd_ne {s : Nat → Rat} : ∀ cs : List Nat, (∀ c ∈ cs, s c ≠ 0) → prd s cs ≠ 0
  | [], _ => (by decide : (1 : Rat) ≠ 0)
  | c :: cs, h => fun z => by
    rcases Rat.mul_eq_zero.mp (show s c * prd s cs = 0 from z) with q | q
    · exact h c List.mem_cons_self q
    · exact prd_ne cs (fun d hd => h d (List.mem_cons_of_mem c hd)) q
theorem lap_scale {s : Nat → Rat} : ∀ (cs : List Nat) (rs : List Row), lap cs (rs.map fun r c => s c * r c) = prd s cs * lap cs rs
  | [], _ => by simp only [lap, prd]; grind
  | c :: cs, rs => wlk_scale (fun _ => rfl) (lap_scale cs) rs []
/-- a row made of those ahead of it -/
theorem sp_mid {n : Nat} {f : List Row → Rat} (l : Lin n f) (h : Alt n f) {p q : List Row} {z : Row} (hn : p.length + q.length + 1 = n) (s : Spn p z) : f (p ++ z :: q) = 0 := by
  induction s with
  | zero =>
    have e := l p q (fun _ => 0) (fun _ => 0) 1 hn
    have z : rAdd (fun _ => 0) (fun _ => 0) 1 = fun _ => (0 : Rat) := by
      funext j
      simp only [rAdd]
      grind
    rw [z] at e
    grind
  | @add z r a hr _ ih =>
    rw [l p q _ _ a hn, ih]
    obtain ⟨b, d, rfl⟩ := List.append_of_mem hr
    have e := twice_ l h r d b q (by rw [List.length_append, List.length_cons] at hn; omega)
    rw [List.append_assoc, List.cons_append, e]
    grind
theorem perm_zero {n : Nat} {f : List Row → Rat} (l : Lin n f) (h : Alt n f) {a b : List Row} (m : a.Perm b) : ∀ p : List Row, p.length + a.length = n → f (p ++ a) = 0 → f (p ++ b) = 0 := by
  induction m with
  | nil => exact fun _ _ z => z
  | cons x _ ih =>
    intro p hn z
    have e := ih (p ++ [x]) (by rw [List.length_append, List.length_singleton]; rw [List.length_cons] at hn; omega)
    simp only [List.append_assoc, List.singleton_append] at e
    exact e z
  | swap x y t =>
    intro p hn z
    have e := swap_ l h p t y x (by rw [List.length_cons, List.length_cons] at hn; omega)
    rw [z] at e
    grind
  | trans m1 m2 i1 i2 => exact fun p hn z => i2 p (by rw [← m1.length_eq]; exact hn) (i1 p hn z)
/-- the sum of the rows ahead, each times a number -/
def mix (u : Nat → Rat) : Nat → List Row → Row
  | _, [] => fun _ => 0
  | i, r :: rs => rAdd (mix u (i + 1) rs) r (u i)
theorem mix_sp {u : Nat → Rat} {all : List Row} : ∀ (rs : List Row) (i : Nat), (∀ r ∈ rs, r ∈ all) → Spn all (mix u i rs)
  | [], _, _ => .zero
  | r :: rs, i, h => .add _ (h r List.mem_cons_self) (mix_sp rs (i + 1) fun x hx => h x (List.mem_cons_of_mem r hx))
theorem mix_at {u : Nat → Rat} {R : Nat → Row} {c : Nat} : ∀ (d i : Nat), mix u i ((List.range' i d).map R) c = sm u (fun k => R k c) (List.range' i d)
  | 0, _ => rfl
  | d + 1, i => by
    rw [List.range'_succ]
    show mix u (i + 1) ((List.range' (i + 1) d).map R) c + u i * R i c = u i * R i c + sm u (fun k => R k c) (List.range' (i + 1) d)
    rw [mix_at d (i + 1)]
    grind
/-- if one of n rows is made of those ahead of it (at cs), the determinant is 0 -/
theorem dep_zero {n k : Nat} {R : Nat → Row} {u : Nat → Rat} {cs : List Nat} (hc : cs.length = n) (hk : k < n) (h : ∀ c ∈ cs, R k c = sm u (fun i => R i c) (List.range k)) : lap cs ((List.range n).map R) = 0 := by
  rw [← lap_only]
  obtain ⟨d, hd⟩ : ∃ d, n = k + (d + 1) := ⟨n - k - 1, by omega⟩
  have sp : List.range n = List.range k ++ k :: List.range' (k + 1) d := by
    rw [hd, List.range_eq_range', List.range_eq_range']
    have e := List.range'_append_1 (s := 0) (m := k) (n := d + 1)
    rw [Nat.zero_add, List.range'_succ] at e
    exact e.symm
  rw [sp, List.map_append, List.map_append, List.map_cons, List.map_cons]
  have eq : only cs (R k) = mix u 0 ((List.range' 0 k).map fun i => only cs (R i)) := by
    funext c
    rw [mix_at (R := fun i => only cs (R i))]
    by_cases hcc : c ∈ cs
    · show (if c ∈ cs then R k c else 0) = _
      rw [if_pos hcc, h c hcc, List.range_eq_range']
      congr 1
      funext i
      exact (if_pos hcc).symm
    · show (if c ∈ cs then R k c else 0) = _
      rw [if_neg hcc]
      have z : ∀ l : List Nat, sm u (fun i => only cs (R i) c) l = 0 := fun l => sm_zero l fun i _ => if_neg hcc
      exact (z _).symm
  rw [eq]
  have e0 : ((List.range k).map R).map (only cs) = (List.range' 0 k).map fun i => only cs (R i) := by
    rw [List.map_map, List.range_eq_range']
    rfl
  rw [e0]
  refine sp_mid (lap_lin cs) (lap_alt cs) ?_ (mix_sp _ 0 fun _ hr => hr)
  simp only [List.length_map, List.length_range']
  omega
end Bo

/-! ### the determinant by the first row, sizes, and when there is no one solution -/
namespace Bo
/-- signs in turn -/
def alts (F : Nat → Rat) : Nat → Rat
  | 0 => 0
  | k + 1 => alts F k + F k * (1 - 2 * ((k % 2 : Nat) : Rat))
theorem alts_shift (F : Nat → Rat) : ∀ n, alts F (n + 1) = F 0 - alts (fun k => F (k + 1)) n
  | 0 => by simp only [alts]; grind
  | n + 1 => by
    rw [alts, alts_shift F n]
    simp only [alts]
    have h : (((n + 1) % 2 : Nat) : Rat) = 1 - ((n % 2 : Nat) : Rat) := by
      rcases Nat.mod_two_eq_zero_or_one n with q | q
      · rw [q, show (n + 1) % 2 = 1 by omega]; simp; grind
      · rw [q, show (n + 1) % 2 = 0 by omega]; simp; grind
    rw [h]
    grind
theorem alts_same {F G : Nat → Rat} : ∀ n, (∀ k, k < n → F k = G k) → alts F n = alts G n
  | 0, _ => rfl
  | n + 1, h => by
    simp only [alts]
    rw [alts_same n fun k hk => h k (by omega), h n (by omega)]
theorem wlk_alts {f : List Row → Rat} {c : Nat} : ∀ (q p : List Row), wlk f c p q = alts (fun k => (q.getD k fun _ => 0) c * f (p ++ q.eraseIdx k)) q.length
  | [], _ => rfl
  | r :: q, p => by
    rw [List.length_cons, alts_shift]
    show r c * f (p ++ q) - wlk f c (p ++ [r]) q = r c * f (p ++ q) - _
    congr 1
    rw [wlk_alts q (p ++ [r])]
    refine alts_same _ fun k _ => ?_
    show _ = (q.getD k fun _ => 0) c * f (p ++ r :: q.eraseIdx k)
    rw [List.append_assoc]
    rfl
/-- by the first row: rows are lists -/
def ldet : Nat → List (List Rat) → Rat
  | 0, _ => 1
  | d + 1, rows => alts (fun k => (rows.headD []).getD k 0 * ldet d (rows.tail.map fun row => row.eraseIdx k)) (d + 1)
theorem ldet_lap : ∀ (d o : Nat) (cols : List Row), cols.length = d → ldet d ((List.range' o d).map fun i => cols.map fun r => r i) = lap (List.range' o d) cols
  | 0, _, _, _ => rfl
  | d + 1, o, cols, h => by
    rw [List.range'_succ]
    show ldet (d + 1) _ = wlk (lap (List.range' (o + 1) d)) o [] cols
    rw [wlk_alts, h]
    unfold ldet
    refine alts_same _ fun k hk => ?_
    rw [List.map_cons, List.headD_cons, List.tail_cons, List.map_map, List.nil_append]
    congr 1
    · rw [List.getD_eq_getElem?_getD, List.getD_eq_getElem?_getD, List.getElem?_map, List.getElem?_eq_getElem (show k < cols.length by omega)]
      rfl
    · rw [← ldet_lap d (o + 1) (cols.eraseIdx k) (by rw [List.length_eraseIdx_of_lt (by omega)]; omega)]
      congr 1
      refine List.map_congr_left fun i _ => ?_
      exact erase_map (fun r => r i) cols k
/-- how great a determinant can be -/
theorem wlkZ_bd {f : List RowZ → Int} {c B M : Nat} {P : RowZ → Prop} (hP : ∀ r, P r → (r c).natAbs ≤ B) (hf : ∀ rs, (∀ r ∈ rs, P r) → (f rs).natAbs ≤ M) : ∀ (q p : List RowZ), (∀ r ∈ p, P r) → (∀ r ∈ q, P r) → (wlkZ f c p q).natAbs ≤ q.length * (B * M)
  | [], _, _, _ => by simp [wlkZ]
  | r :: q, p, hp, hq => by
    have h1 := hP r (hq r List.mem_cons_self)
    have h2 := hf (p ++ q) fun x hx => (List.mem_append.mp hx).elim (hp x) fun z => hq x (List.mem_cons_of_mem r z)
    have h3 := wlkZ_bd hP hf q (p ++ [r]) (fun x hx => (List.mem_append.mp hx).elim (hp x) fun z => by rw [List.mem_singleton.mp z]; exact hq r List.mem_cons_self) fun x hx => hq x (List.mem_cons_of_mem r hx)
    have h4 : (r c * f (p ++ q)).natAbs ≤ B * M := by
      rw [Int.natAbs_mul]
      exact Nat.mul_le_mul h1 h2
    show (r c * f (p ++ q) - wlkZ f c (p ++ [r]) q).natAbs ≤ (q.length + 1) * (B * M)
    rw [Nat.succ_mul]
    omega
theorem wlkZ_len {f : List RowZ → Int} {c B M N : Nat} {P : RowZ → Prop} (hP : ∀ r, P r → (r c).natAbs ≤ B) (hf : ∀ rs, rs.length ≤ N → (∀ r ∈ rs, P r) → (f rs).natAbs ≤ M) : ∀ (q p : List RowZ), p.length + q.length ≤ N → (∀ r ∈ p, P r) → (∀ r ∈ q, P r) → (wlkZ f c p q).natAbs ≤ q.length * (B * M)
  | [], _, _, _, _ => by simp [wlkZ]
  | r :: q, p, hn, hp, hq => by
    rw [List.length_cons] at hn
    have h1 := hP r (hq r List.mem_cons_self)
    have h2 := hf (p ++ q) (by rw [List.length_append]; omega) fun x hx => (List.mem_append.mp hx).elim (hp x) fun z => hq x (List.mem_cons_of_mem r z)
    have h3 := wlkZ_len hP hf q (p ++ [r]) (by rw [List.length_append, List.length_singleton]; omega) (fun x hx => (List.mem_append.mp hx).elim (hp x) fun z => by rw [List.mem_singleton.mp z]; exact hq r List.mem_cons_self) fun x hx => hq x (List.mem_cons_of_mem r hx)
    have h4 : (r c * f (p ++ q)).natAbs ≤ B * M := by
      rw [Int.natAbs_mul]
      exact Nat.mul_le_mul h1 h2
    show (r c * f (p ++ q) - wlkZ f c (p ++ [r]) q).natAbs ≤ (q.length + 1) * (B * M)
    rw [Nat.succ_mul]
    omega
theorem lapZ_bd {B N : Nat} : ∀ (cs : List Nat) (rs : List RowZ), rs.length ≤ N → (∀ r ∈ rs, ∀ c, (r c).natAbs ≤ B) → (lapZ cs rs).natAbs ≤ (N * B) ^ cs.length
  | [], _, _, _ => Nat.le_refl 1
  | c :: cs, rs, hn, h => by
    have e := wlkZ_len (f := lapZ cs) (c := c) (B := B) (M := (N * B) ^ cs.length) (N := N) (P := fun r => ∀ c, (r c).natAbs ≤ B) (fun r hr => hr c) (fun rs hl hr => lapZ_bd cs rs hl hr) rs [] (by rw [List.length_nil, Nat.zero_add]; exact hn) (fun _ h => nomatch h) h
    show (wlkZ (lapZ cs) c [] rs).natAbs ≤ (N * B) ^ (cs.length + 1)
    refine Nat.le_trans e ?_
    rw [Nat.pow_succ, Nat.mul_comm ((N * B) ^ cs.length), Nat.mul_assoc]
    exact Nat.mul_le_mul_right _ hn
/-- the elimination of n whole rows -/
theorem elim_all (n : Nat) (A : List RowZ) (h : A.length = n) :
    (∃ qs : List RowZ, qs.Perm A ∧ Elim (List.range n) (qs.map rQ)) ∨ ∃ (k : Nat) (u : Nat → Rat), k < n ∧ ∀ x ∈ A, Is (List.range k) u k (rQ x) := by
  have w := bElim_ok (m := n + 1) n A [] (by omega) (by rw [List.length_nil]; omega) .nil
  split at w
  · obtain ⟨qs, p, e, _⟩ := w
    have l := p.length_eq
    rw [List.nil_append, h] at l
    rw [l] at e
    exact .inl ⟨qs, p, e⟩
  · obtain ⟨k, u, h1, h2⟩ := w
    rw [List.length_nil, Nat.zero_add, h] at h1
    exact .inr ⟨k, u, h1, h2⟩
/-- columns dependent: the determinant of the columns is 0 -/
theorem cols_zero {n : Nat} {A : Nat → RowZ} {k : Nat} {u : Nat → Rat} (hk : k < n) (h : ∀ i, i < n → Is (List.range k) u k (rQ (A i))) : lap (List.range n) ((List.range n).map fun k => rQ fun i => A i k) = 0 :=
  dep_zero (R := fun k => rQ fun i => A i k) (u := u) (by rw [List.length_range]) hk fun i hi => h i (List.mem_range.mp hi)
/-- pivots found: that of the columns is not 0 -/
theorem cols_ne {n : Nat} {A : Nat → RowZ} {qs : List RowZ} (p : qs.Perm ((List.range n).map A)) (e : Elim (List.range n) (qs.map rQ)) : lap (List.range n) ((List.range n).map fun k => rQ fun i => A i k) ≠ 0 := by
  intro z
  rcases elim_all n ((List.range n).map fun k => fun i => A i k) (by rw [List.length_map, List.length_range]) with ⟨ws, pw, ew⟩ | ⟨k, u, hk, hu⟩
  · have pm : (((List.range n).map fun k => fun i => A i k).map rQ).Perm (ws.map rQ) := (pw.map rQ).symm
    rw [List.map_map] at pm
    exact ew.ne (perm_zero (n := n) (by have := lap_lin (List.range n); rwa [List.length_range] at this) (by have := lap_alt (List.range n); rwa [List.length_range] at this) pm [] (by simp) z)
  · have z2 : lap (List.range n) ((List.range n).map fun i => rQ (A i)) = 0 :=
      dep_zero (R := fun i => rQ (A i)) (u := u) (by rw [List.length_range]) hk fun j hj => hu _ (List.mem_map.mpr ⟨j, hj, rfl⟩)
    have pm : (((List.range n).map A).map rQ).Perm (qs.map rQ) := (p.map rQ).symm
    rw [List.map_map] at pm
    exact e.ne (perm_zero (n := n) (by have := lap_lin (List.range n); rwa [List.length_range] at this) (by have := lap_alt (List.range n); rwa [List.length_range] at this) pm [] (by simp) z2)
end Bo

/-! ### fractions over one denominator: how great they can be -/
namespace Bo
/-- s times q is whole, and no greater than b -/
def Pd (s b : Nat) (q : Rat) : Prop := ∃ m : Int, q * (s : Rat) = (m : Rat) ∧ m.natAbs ≤ b
theorem Pd.zero (s b : Nat) : Pd s b 0 := ⟨0, by rw [Rat.zero_mul]; rfl, Nat.zero_le b⟩
theorem Pd.one : Pd 1 1 1 := ⟨1, by rw [Rat.one_mul]; rfl, Nat.le_refl 1⟩
theorem Pd.mono {s b c : Nat} {q : Rat} (h : Pd s b q) (l : b ≤ c) : Pd s c q :=
  let ⟨m, e, n⟩ := h
  ⟨m, e, Nat.le_trans n l⟩
theorem Pd.neg {s b : Nat} {q : Rat} (h : Pd s b q) : Pd s b (-q) := by
  obtain ⟨m, e, n⟩ := h
  refine ⟨-m, ?_, by omega⟩
  rw [Rat.neg_mul, e, Rat.intCast_neg]
theorem Pd.add {s b c : Nat} {q r : Rat} (h : Pd s b q) (g : Pd s c r) : Pd s (b + c) (q + r) := by
  obtain ⟨m, e, n⟩ := h
  obtain ⟨k, f, l⟩ := g
  refine ⟨m + k, ?_, by omega⟩
  rw [Rat.add_mul, e, f, Rat.intCast_add]
theorem Pd.mul {s t b c : Nat} {q r : Rat} (h : Pd s b q) (g : Pd t c r) : Pd (s * t) (b * c) (q * r) := by
  obtain ⟨m, e, n⟩ := h
  obtain ⟨k, f, l⟩ := g
  refine ⟨m * k, ?_, by rw [Int.natAbs_mul]; exact Nat.mul_le_mul n l⟩
  rw [Rat.natCast_mul, Rat.intCast_mul, ← e, ← f]
  grind
theorem Pd.scale {s t b : Nat} {q : Rat} (h : Pd s b q) : Pd (s * t) (b * t) q := by
  obtain ⟨m, e, n⟩ := h
  refine ⟨m * (t : Int), ?_, by rw [Int.natAbs_mul, Int.natAbs_natCast]; exact Nat.mul_le_mul_right t n⟩
  rw [Rat.natCast_mul, Rat.intCast_mul, ← e, Rat.intCast_natCast]
  grind
theorem Pd.of {m : Int} {s b : Nat} (hs : s ≠ 0) (h : m.natAbs ≤ b) : Pd s b (Rat.divInt m s) := by
  refine ⟨m, ?_, h⟩
  rw [Rat.divInt_eq_div, Rat.intCast_natCast]
  have : (s : Rat) ≠ 0 := by exact_mod_cast hs
  grind
theorem Pd.eq {s b : Nat} {q : Rat} (hs : s ≠ 0) (h : Pd s b q) : ∃ m : Int, q = Rat.divInt m s ∧ m.natAbs ≤ b := by
  obtain ⟨m, e, n⟩ := h
  refine ⟨m, ?_, n⟩
  rw [Rat.divInt_eq_div, Rat.intCast_natCast, ← e]
  have : (s : Rat) ≠ 0 := by exact_mod_cast hs
  grind
theorem alts_pd {F : Nat → Rat} {s b : Nat} : ∀ n, (∀ k, k < n → Pd s b (F k)) → Pd s (n * b) (alts F n)
  | 0, _ => by rw [Nat.zero_mul]; exact .zero s 0
  | n + 1, h => by
    have ih := alts_pd (F := F) n fun k hk => h k (by omega)
    have e : Pd s b (F n * (1 - 2 * ((n % 2 : Nat) : Rat))) := by
      rcases Nat.mod_two_eq_zero_or_one n with q | q
      · rw [q]
        have : F n * (1 - 2 * ((0 : Nat) : Rat)) = F n := by grind
        rw [this]
        exact h n (by omega)
      · rw [q]
        have : F n * (1 - 2 * ((1 : Nat) : Rat)) = - F n := by grind
        rw [this]
        exact (h n (by omega)).neg
    have := ih.add e
    rw [Nat.succ_mul]
    exact this
def dB (b : Nat) : Nat → Nat
  | 0 => 1
  | n + 1 => (n + 1) * (b * dB b n)
theorem mem_erase {α : Type} : ∀ {l : List α} {k : Nat} {x : α}, x ∈ l.eraseIdx k → x ∈ l := fun h => List.mem_of_mem_eraseIdx h
theorem ldet_pd {s b : Nat} : ∀ (n : Nat) (rows : List (List Rat)), rows.length = n → (∀ r ∈ rows, r.length = n) → (∀ r ∈ rows, ∀ q ∈ r, Pd s b q) → Pd (s ^ n) (dB b n) (ldet n rows)
  | 0, _, _, _, _ => .one
  | n + 1, rows, h1, h2, h3 => by
    cases rows with
    | nil => exact absurd h1 (by simp)
    | cons r rs =>
      refine alts_pd (n + 1) fun k hk => ?_
      rw [List.headD_cons, List.tail_cons, Nat.pow_succ, Nat.mul_comm (s ^ n)]
      have hr := h2 r List.mem_cons_self
      refine Pd.mul ?_ (ldet_pd n _ (by rw [List.length_map]; simpa using h1) ?_ ?_)
      · rw [List.getD_eq_getElem?_getD, List.getElem?_eq_getElem (show k < r.length by omega)]
        exact h3 r List.mem_cons_self _ (List.getElem_mem _)
      · intro x hx
        obtain ⟨y, hy, rfl⟩ := List.mem_map.mp hx
        have := h2 y (List.mem_cons_of_mem r hy)
        rw [List.length_eraseIdx_of_lt (by omega)]
        omega
      · intro x hx q hq
        obtain ⟨y, hy, rfl⟩ := List.mem_map.mp hx
        exact h3 y (List.mem_cons_of_mem r hy) q (List.mem_of_mem_eraseIdx hq)
end Bo

/-! ### more rules: [*xs, y], reversed(xs) -/
namespace Bo
open PySem L2
section
variable {K : PySem.W.Frag} {n : Nat} {C : Ct K n} {B : Hp}
theorem k_star (K : PySem.W.Frag) {X : Cx} (h : X.K = K) {e : Expr} {es : List Expr} {te : TE} {t : TA} {p : Pos} (he : PE X e te) (hr : PA X es t) (hs : starEach (.Starred e p :: es) X.env = (true, eval e X.env) :: starEach es X.env := by rfl) : PA X (.Starred e p :: es) (StX.tStar K te t) := h ▸ StX.pa_star he hr hs
def vStar (fa : VE) (fr : VA) : VA := fun S => (fa S).bind fun p => match itemsD p.1 with
  | some ds => (fr p.2).bind fun q => .ok (ds ++ q.1, q.2)
  | none => .bad
theorem s_star {ta : TE} {tr : TA} {fa : VE} {fr : VA} (ha : SE C ta fa) (hr : SA C tr fr) : SA C (StX.tStar K ta tr) (vStar fa fr) := by
  intro σ H B S Q R h
  unfold vStar at h
  rw [post_bind] at h
  refine ha σ H B S _ R (h.mono fun p h1 v H1 B1 R1 e1 d1 => ?_)
  split at h1
  · rename_i ds q
    obtain ⟨a, xs, rfl, sq, da⟩ := seq_of d1 q
    rw [post_bind] at h1
    refine ⟨a, xs, rfl, (seq_up R1.base.bh sq).symm, ?_⟩
    exact hr σ H1 B1 p.2 _ R1 (h1.mono fun q h2 w H2 B2 R2 e2 d2 => h2 _ H2 B2 R2 (e1.trans e2) (daa_app (daa_mono e2 da) d2))
  · exact h1.elim
theorem walks_rev {a : Addr} {xs : List V} {ds : List PyData} (s : B a = some (.lst xs)) (h : DaAll K B xs ds) : Walks C B (Itv K a xs.length) ds.reverse where
  go := fun i H hi e => by
    rw [List.length_reverse, ← daa_len h] at hi
    exact ⟨hi, xs, xs[xs.length - 1 - i], SqL.of (e _ _ s), List.getElem?_eq_getElem (by omega)⟩
  stop := fun H e => by
    rw [List.length_reverse, ← daa_len h]
    exact Nat.le_refl _
  yld := fun i H H' x d hd y C σ B1 S R e => by
    obtain ⟨rfl, y⟩ := y
    have hx := y xs (SqL.of (R.base.bh _ _ (e _ _ s)))
    obtain ⟨d', q1, q2⟩ := daa_at h hx
    have lt := (List.getElem?_eq_some_iff.mp hd).1
    rw [List.length_reverse] at lt
    rw [List.getElem?_reverse lt, ← daa_len h, q1] at hd
    cases hd
    exact ⟨B1, R, Same.refl _, da_mono e q2, fun _ _ z => z⟩
def vRevI (fa : VE) : VF := fun S => (fa S).bind fun p => match p.1 with
  | .list ds => .ok (ds.reverse, p.2)
  | _ => .bad
theorem i_rev {ta : TE} {fa : VE} (ha : SE C ta fa) : SI C (iRev K (tCons ta tNil)) (vRevI fa) := by
  intro σ H B S Rr R h
  replace h := post_bind.mp h
  refine ha σ H B S _ R (h.mono fun p h1 v H1 B1 R1 e1 d1 => ?_)
  obtain ⟨d, S1⟩ := p
  dsimp only at d1 h1 R1
  split at h1
  · cases d1 with
    | lst s a => exact ⟨_, _, rfl, SqL.of (R1.base.bh _ _ s), h1 _ H1 B1 R1 e1 (walks_rev s a)⟩
  · exact h1.elim
def smallI (i j : Int) : Prop := i.natAbs < 2 ^ 6000 ∧ j.natAbs < 2 ^ 6000
instance {i j : Int} : Decidable (smallI i j) := inferInstanceAs (Decidable (_ ∧ _))
def rLcm : List V → Hp → VK → Prop := fun vs H Q => ∃ i j : Int, vs = [.int i, .int j] ∧ smallI i j ∧ Q (.int ((Nat.lcm i.natAbs j.natAbs : Nat) : Int)) H
open PySem.W in
theorem cr_lcm {X : Cx} : CallR X (.builtin "math.lcm") rLcm := by
  rintro pins s σ H vs us Q I r ⟨i, j, rfl, ⟨hi, hj⟩, q⟩
  obtain ⟨t, u, rfl⟩ := Vals.int2 r
  have le : Nat.lcm i.natAbs j.natAbs < 2 ^ 12000 := by
    refine Nat.lt_of_le_of_lt (Nat.div_le_self _ _) ?_
    have : i.natAbs * j.natAbs < 2 ^ (6000 + 6000) := by
      rw [Nat.pow_add]
      exact Nat.mul_lt_mul'' hi hj
    exact this
  have lg : ∀ m : Nat, m < 2 ^ 12000 → Nat.log2 m < 12001 := fun m h => by
    by_cases z : m = 0
    · rw [z]; decide
    · exact Nat.lt_succ_of_lt ((Nat.log2_lt z).mpr h)
  have lg6 : ∀ m : Nat, m < 2 ^ 6000 → Nat.log2 m < 6001 := fun m h => by
    by_cases z : m = 0
    · rw [z]; decide
    · exact Nat.lt_succ_of_lt ((Nat.log2_lt z).mpr h)
  have p1 : (1 : Nat) < 2 ^ 6000 := Nat.one_lt_two_pow (by decide)
  have l0 := lg _ le
  have l1 := lg6 (max 1 i.natAbs) (Nat.max_lt.mpr ⟨p1, hi⟩)
  have l2 := lg6 (max i.natAbs j.natAbs) (Nat.max_lt.mpr ⟨hi, hj⟩)
  have sz : (((Nat.lcm 1 i.natAbs).lcm j.natAbs : Nat) : Int).natAbs.log2 < bitsLine := by
    rw [Nat.lcm_one_left, Int.natAbs_natCast]
    exact Nat.lt_trans l0 (by decide)
  refine call_function_meets MGF.kind_lcm MGF.plain_lcm MGF.entry_lcm (MGF.args_lcm _ _) (mg_run_lcm i t j u (by omega) (by omega) sz).meets ?_
  rw [Nat.lcm_one_left]
  exact ⟨.int _, H, I.tok _, ⟨_, rfl⟩, q⟩
def gLcm : List PyData → R PyData
  | [.int i, .int j] => R.when (smallI i j) (.ok (.int ((Nat.lcm i.natAbs j.natAbs : Nat) : Int)))
  | _ => .bad
theorem c_lcm : SCR C rLcm gLcm := by
  intro σ H B S xs ds Q R d h
  cases d with
  | nil => exact h.elim
  | cons h1 t =>
    cases t with
    | nil => cases h1 <;> exact h.elim
    | cons h2 t =>
      cases t with
      | cons h3 t => cases h1 <;> first | exact h.elim | (cases h2 <;> exact h.elim)
      | nil => cases h1 <;> first | exact h.elim | (cases h2 <;> first | exact h.elim | (obtain ⟨k, h⟩ := post_when.mp h; exact ⟨_, _, rfl, k, h _ H B R (Same.refl _) (.int _)⟩))
/-! isinstance(x, T), T a built-in class -/
def kindN : PyData → Option String
  | .bool _ => some "bool"
  | .int _ => some "int"
  | .str _ => some "str"
  | .list _ => some "list"
  | .tuple _ => some "tuple"
  | .none => some "NoneType"
  | _ => none
theorem tyx_da {v : V} {d : PyData} {a : String} {H : Hp} (h : Da K B v d) (e : Same B H) (q : kindN d = some a) : TyX K H v (.type a) := by
  cases h with
  | non => cases q; exact .base .non
  | bl b => cases q; exact .base (.bl b)
  | int i => cases q; exact .base (.int i)
  | str x => cases q; exact .base (.str x)
  | lst s _ => cases q; exact tyx_l (SqL.of (e _ _ s))
  | tup s _ => cases q; exact tyx_t (sm_t e s)
def vIsi (c : String) (fa : VE) : VE := fun S => (fa S).bind fun p => match (kindN p.1).bind fun a => kitB a c with
  | some b => .ok (.bool b, p.2)
  | none => .bad
theorem s_isi {c : String} {ta : TE} {fa : VE} (ha : SE C ta fa) : SE C (tCB (rIsi K) (tCons ta (tCons (tC (.ty c)) tNil))) (vIsi c fa) := by
  intro σ H B S Q R h
  unfold vIsi at h
  rw [post_bind] at h
  refine ha σ H B S _ R (h.mono fun p h1 v H1 B1 R1 e1 d1 => ?_)
  split at h1
  · rename_i b q
    obtain ⟨a, k, kb⟩ := Option.bind_eq_some_iff.mp q
    exact r_isi b (tyx_da d1 R1.base.bh k) kb (h1 _ H1 B1 R1 e1 (.bl b))
  · exact h1.elim
end
end Bo

/-! ### more rules: xs.index(x) -/
namespace Bo
open PySem L2
section
variable {K : PySem.W.Frag} {n : Nat} {C : Ct K n} {B : Hp}
def fiD (d : PyData) : List PyData → Option Nat
  | [] => none
  | e :: ds => if eqP e d = true then some 0 else (fiD d ds).map (· + 1)
def gIndex : PyData → PyData → R PyData
  | .list ds, d => R.when (flatD d = true ∧ ds.all flatD = true) (match fiD d ds with
    | some j => .ok (.int (j : Nat))
    | none => .bad)
  | _, _ => .bad
theorem fi_v {y : V} {d : PyData} (h : Da K B y d) (f : flatD d = true) : ∀ {xs : List V} {ds : List PyData} {j : Nat}, DaAll K B xs ds → ds.all flatD = true → fiD d ds = some j → (∃ z, xs[j]? = some z ∧ eqV z y = true) ∧ ∀ (m : Nat) (z' : V), m < j → xs[m]? = some z' → eqV z' y = false
  | _, _, j, .nil, _, e => nomatch e
  | x :: xs, e :: ds, j, .cons g t, q, w => by
    rw [List.all_cons, Bool.and_eq_true] at q
    have ev := eq_v g h q.1 f
    unfold fiD at w
    by_cases c : eqP e d = true
    · rw [if_pos c] at w
      cases w
      exact ⟨⟨x, rfl, by rw [ev, c]⟩, fun m z hm => absurd hm (Nat.not_lt_zero m)⟩
    · rw [if_neg c] at w
      obtain ⟨j', e', rfl⟩ := Option.map_eq_some_iff.mp w
      obtain ⟨⟨z, z1, z2⟩, z3⟩ := fi_v h f t q.2 e'
      refine ⟨⟨z, z1, z2⟩, fun m z' hm hz => ?_⟩
      cases m with
      | zero =>
        cases hz
        rw [ev]
        simpa using c
      | succ m => exact z3 m z' (by omega) hz
def vIndex (fa fb : VE) : VE := fun S => (fa S).bind fun p => match p.1 with
  | .list ds => (fb p.2).bind fun q => (gIndex (.list ds) q.1).bind fun z => .ok (z, q.2)
  | _ => .bad
theorem s_index {ta tb : TE} {fa fb : VE} (ha : SE C ta fa) (hb : SE C tb fb) : SE C (tBM K "list" (rIndex K) ta (tCons tb tNil)) (vIndex fa fb) := by
  intro σ H B S Q R h
  unfold vIndex at h
  rw [post_bind] at h
  refine ha σ H B S _ R (h.mono fun p h1 v H1 B1 R1 e1 d1 => ?_)
  obtain ⟨dd, S1⟩ := p
  dsimp only at d1 h1 R1
  split at h1
  · rename_i ds
    cases d1 with
    | lst s a =>
    rename_i ad xs
    refine ⟨.inl ⟨rfl, _, SqL.of (R1.base.bh _ _ s)⟩, ?_⟩
    rw [post_bind] at h1
    refine hb σ H1 B1 S1 _ R1 (h1.mono fun q h2 w H2 B2 R2 e2 d2 => ?_)
    rw [post_bind] at h2
    obtain ⟨k, h2⟩ := post_when.mp h2
    split at h2
    · rename_i j fj
      obtain ⟨⟨z, z1, z2⟩, z3⟩ := fi_v d2 k.1 (daa_mono e2 a) k.2 fj
      exact ⟨_, xs, w, j, z, rfl, rfl, SqL.of (R2.base.bh _ _ (e2 _ _ s)), flat_v d2 k.1, flats_v (daa_mono e2 a) k.2, z1, z2, z3, h2 _ H2 B2 R2 (e1.trans e2) (.int _)⟩
    · exact h2.elim
  · exact h1.elim
/-! dict(xs), xs a list of pairs; d.get(k, x) -/
def rDictP (K : PySem.W.Frag) : List V → Hp → VK → Prop := fun xs H Q => ∃ (a : Addr) (ps : List Addr) (kvs : List (Key × V)), xs = [.ref a] ∧ SqL K H a (ps.map V.ref) ∧ Paired (fun p kv => SqT K H p [kV kv.1, kv.2]) ps kvs ∧
  ∀ p, H p = none → Q (.ref p) (upd H p (.dK (mergeK [] kvs)))
theorem k_dictP (K : PySem.W.Frag) {X : Cx} (h : X.K = K) (hc : X.calm = true) : CallR X (.type "dict") (rDictP K) := by
  subst h
  exact call_dictP hc
def pairD : PyData → Option (Key × PyData)
  | .tuple [.int i, v] => some (.inl i, v)
  | .tuple [.str x, v] => some (.inr x, v)
  | _ => none
def pairsD : List PyData → Option (List (Key × PyData))
  | [] => some []
  | d :: ds => match pairD d, pairsD ds with
    | some k, some ks => some (k :: ks)
    | _, _ => none
def mergeD (kvs more : List (Key × PyData)) : List (Key × PyData) := more.foldl (fun acc kv => putD acc kv.1 kv.2) kvs
theorem dpks_merge : ∀ {more : List (Key × PyData)} {ws : List (Key × V)} {xs : List (Key × V)} {kvs : List (Key × PyData)}, DpKs K B xs more → DpKs K B ws kvs → DpKs K B (mergeK ws xs) (mergeD kvs more)
  | [], _, _, _, .nil, h => h
  | m :: more, ws, x :: xs, kvs, .cons a t, h => by
    show DpKs K B (mergeK (putK ws x.1 x.2) xs) (mergeD (putD kvs m.1 m.2) more)
    rw [a.1]
    exact dpks_merge t (dpks_put h a.2)
theorem pair_v {v : V} {d : PyData} {k : Key × PyData} {H : Hp} (e : Same B H) (h : Da K B v d) (q : pairD d = some k) : ∃ (p : Addr) (w : V), v = .ref p ∧ SqT K H p [kV k.1, w] ∧ Da K B w k.2 := by
  cases h <;> first | (cases q; done) | skip
  case tup p xs ds s a =>
    cases a with
    | nil => cases q
    | cons h1 t =>
      cases t with
      | nil => cases h1 <;> cases q
      | cons h2 t =>
        cases t with
        | cons h3 t => cases h1 <;> cases q
        | nil =>
          cases h1 <;> first | (cases q; done) | (cases q; exact ⟨_, _, rfl, sm_t e s, h2⟩)
theorem pairs_v {H : Hp} (e : Same B H) : ∀ {xs : List V} {ds : List PyData} {ks : List (Key × PyData)}, DaAll K B xs ds → pairsD ds = some ks → ∃ (ps : List Addr) (kvs : List (Key × V)), xs = ps.map V.ref ∧ Paired (fun p kv => SqT K H p [kV kv.1, kv.2]) ps kvs ∧ DpKs K B kvs ks
  | _, _, _, .nil, q => by
    cases q
    exact ⟨[], [], rfl, .nil, .nil⟩
  | _, _, _, .cons h t, q => by
    unfold pairsD at q
    split at q
    · rename_i k ks' q1 q2
      cases q
      obtain ⟨p, w, rfl, s, dw⟩ := pair_v e h q1
      obtain ⟨ps, kvs, rfl, pp, dd⟩ := pairs_v e t q2
      exact ⟨p :: ps, (k.1, w) :: kvs, rfl, .cons s pp, .cons ⟨rfl, dw⟩ dd⟩
    · cases q
def vDictL (i : Nat) (fa : VE) : VS := fun S => (fa S).bind fun p => match p.1 with
  | .list ds => match pairsD ds with
    | some kvs => .ok (.nx (p.2.set i (some (.dic (mergeD [] kvs)))))
    | none => .bad
  | _ => .bad
theorem st_dictL {i : Nat} {ta : TE} {fa : VE} (hi : n ≤ i) (ha : SE C ta fa) : SSt C (tAsg (tCB (rDictP K) (tCons ta tNil)) (gName i)) (vDictL i fa) := by
  intro σ H B S D R h
  unfold vDictL at h
  replace h := post_bind.mp h
  refine ha σ H B S _ R (h.mono fun p h1 v H1 B1 R1 e1 d1 => ?_)
  obtain ⟨dd, S1⟩ := p
  dsimp only at d1 h1 R1
  split at h1
  · rename_i ds
    split at h1
    · rename_i kvs q
      cases d1 with
      | lst s a =>
      obtain ⟨ps, ws, rfl, pp, dw⟩ := pairs_v R1.base.bh a q
      refine ⟨_, ps, ws, rfl, SqL.of (R1.base.bh _ _ s), pp, fun p hp => ?_⟩
      obtain ⟨R2, L⟩ := R1.newLoose (o := .dK (mergeK [] ws)) hp
      exact h1 _ _ B1 (R2.take hi rfl ⟨p, _, rfl, upd_same, L.b, dpks_merge dw .nil⟩ L.h0 L.no) e1
    · exact h1.elim
  · exact h1.elim
def valD (kvs : List (Key × PyData)) (k : Key) : Option PyData := (kvs.find? fun kv => decide (kv.1 = k)).map (·.2)
theorem dpks_val {k : Key} : ∀ {ws : List (Key × V)} {kvs : List (Key × PyData)}, DpKs K B ws kvs → (valV ws k = none ∧ valD kvs k = none) ∨ ∃ v d, valV ws k = some v ∧ valD kvs k = some d ∧ Da K B v d
  | _, _, .nil => .inl ⟨rfl, rfl⟩
  | w :: ws, kv :: kvs, .cons a t => by
    by_cases e : kv.1 = k
    · exact .inr ⟨w.2, kv.2, valV_pos (by rw [a.1, e]), by simp [valD, List.find?_cons, e], a.2⟩
    · have e' : ¬ w.1 = k := by rw [a.1]; exact e
      have ev : valD (kv :: kvs) k = valD kvs k := by simp [valD, List.find?_cons, e]
      rw [valV_neg e', ev]
      exact dpks_val t
def vGet2 (i : Nat) (fk fx : VE) : VE := fun S => (dicD S i).bind fun _ => (fk S).bind fun p => (keyD p.1).bind fun y => (fx p.2).bind fun q => (dicD q.2 i).bind fun kvs => .ok ((valD kvs y).getD q.1, q.2)
theorem s_get2 {i : Nat} {tk tx : TE} {fk fx : VE} (hk : SE C tk fk) (hx : SE C tx fx) : SE C (tDGet2 (tVar i) tk tx) (vGet2 i fk fx) := by
  intro σ H B S Q R h
  obtain ⟨ds0, a0, vs0, q1, q2, q3, q4, h⟩ := dic_of R (post_bind.mp h)
  refine ⟨_, q2, a0, rfl, .inl ⟨_, .inl q3⟩, ?_⟩
  replace h := post_bind.mp h
  refine hk σ H B S _ R (h.mono fun p h1 v H1 B1 R1 e1 d1 => ?_)
  obtain ⟨y, rfl, _, h1⟩ := key_of d1 (post_bind.mp h1)
  replace h1 := post_bind.mp h1
  refine hx σ H1 B1 p.2 _ R1 (h1.mono fun q h2 w H2 B2 R2 e2 d2 => ?_)
  obtain ⟨kvs, a, ws, p1, p2, p3, p4, h2⟩ := dic_of R2 (post_bind.mp h2)
  rw [q2] at p2
  cases p2
  refine ⟨_, DGet.k p3, ?_⟩
  rcases dpks_val (k := y) p4 with ⟨z1, z2⟩ | ⟨v', d', z1, z2, z3⟩
  · rw [z1]
    rw [z2] at h2
    exact h2 _ H2 B2 R2 (e1.trans e2) d2
  · rw [z1]
    rw [z2] at h2
    exact h2 _ H2 B2 R2 (e1.trans e2) z3
end
end Bo

/-! ### solve: the worth of its defs, as gen2 reads them -/
namespace Bo
open PySem L2
noncomputable section
def body_substituted : VS :=
    (vSeq (vAsg (vLst vNil) (aName 2))
    (vSeq (vFor (vRevI (vVar 0)) (aName 3) (vSeq (vAsg (vOp (gI fun i j => i - j) (vOp (gIC cMul fun i j => i * j) (vVar 1) (vOp gIxL (vVar 3) (vUn gNeg (vC (.int 1))))) (vCall (gInts fun ns => .int ns.sum) (vCons (vFr (vLc [6, 5] (vZipK .L .L (vCons (vSl gSlL (vVar 3) (vPart (vC (.int 1))) vNoPart) (vCons (vVar 2) vNil))) (aTup 2 (aCons (aName 6) (aCons (aName 5) aNil))) vYes (vOp (gIC cMul fun i j => i * j) (vVar 6) (vVar 5)))) vNil))) (aName 4))
    (vAsg (vOp gCat (vLst (vCons (vOp (gIC cFdiv Int.fdiv) (vVar 4) (vOp gIxL (vVar 3) (vC (.int 0)))) vNil)) (vVar 2)) (aName 2))))
    (vRet (vFr (vLc [5] (vIter (vVar 2)) (aName 5) vYes (vCallP 2 den_ratio (vCons (vVar 5) (vCons (vVar 1) vNil))))))))
def den_substituted := denP 7 body_substituted
def body_whole_row : VS :=
    (vSeq (vAsg (vC (.int 1)) (aName 1))
    (vSeq (vFor (vIter (vVar 0)) (aTup 2 (aCons (aName 2) (aCons (aName 3) aNil))) (vAsg (vCall gLcm (vCons (vVar 1) (vCons (vVar 3) vNil))) (aName 1)))
    (vRet (vFr (vLc [4, 3] (vIter (vVar 0)) (aTup 2 (aCons (aName 4) (aCons (aName 3) aNil))) vYes (vOp (gIC cMul fun i j => i * j) (vVar 4) (vOp (gIC cFdiv Int.fdiv) (vVar 1) (vVar 3))))))))
def den_whole_row := denP 5 body_whole_row
def body_first_with_unknown : VS :=
    (vSeq (vFor (vEnumK .L (vCons (vVar 0) vNil)) (aTup 2 (aCons (aName 1) (aCons (aName 2) aNil))) (vIfS (vTst (vOp gNe (vOp gIxL (vVar 2) (vC (.int 0))) (vC (.int 0)))) (vRet (vVar 1)) vNext))
    (vRet (vC .none)))
def den_first_with_unknown := denP 3 body_first_with_unknown
def body_without_unknown : VS :=
    (vRet (vFr (vLc [3, 4] (vZipK .L .L (vCons (vSl gSlL (vVar 0) (vPart (vC (.int 1))) vNoPart) (vCons (vSl gSlL (vVar 1) (vPart (vC (.int 1))) vNoPart) vNil))) (aTup 2 (aCons (aName 3) (aCons (aName 4) aNil))) vYes (vOp (gIC cFdiv Int.fdiv) (vOp (gI fun i j => i - j) (vOp (gIC cMul fun i j => i * j) (vOp gIxL (vVar 1) (vC (.int 0))) (vVar 3)) (vOp (gIC cMul fun i j => i * j) (vOp gIxL (vVar 0) (vC (.int 0))) (vVar 4))) (vVar 2)))))
def den_without_unknown := denP 5 body_without_unknown
def body_solve : VS :=
    (vSeq (vAsg (vFr (vLc [7, 8] (vZipK .L .L (vCons (vVar 0) (vCons (vVar 1) vNil))) (aTup 2 (aCons (aName 7) (aCons (aName 8) aNil))) vYes (vCallP 1 den_whole_row (vCons (vLst (vStar (vVar 7) (vCons (vVar 8) vNil))) vNil)))) (aName 2))
    (vSeq (vOwn 3 (vLstF vNil))
    (vSeq (vAsg (vC (.int 1)) (aName 4))
    (vSeq (vWhile (vTru (vVar 2)) (vSeq (vAsg (vCallP 1 den_first_with_unknown (vCons (vVar 2) vNil)) (aName 5))
    (vSeq (vIfS (vTst (vOp (fun d e => R.when (isNone e = true) (.ok (.bool (isNone d)))) (vVar 5) (vC .none))) (vRet (vC .none)) vNext)
    (vSeq (vAsg (vOp gIxL (vVar 2) (vVar 5)) (aName 6))
    (vSeq (vDrop (vApp 3 (vVar 6)))
    (vSeq (vAsg (vFr (vLc [7] (vIter (vOp gCat (vSl gSlL (vVar 2) vNoPart (vPart (vVar 5))) (vSl gSlL (vVar 2) (vPart (vOp (gI fun i j => i + j) (vVar 5) (vC (.int 1)))) vNoPart))) (aName 7) vYes (vCallP 3 den_without_unknown (vCons (vVar 7) (vCons (vVar 6) (vCons (vVar 4) vNil)))))) (aName 2))
    (vAsg (vOp gIxL (vVar 6) (vC (.int 0))) (aName 4))))))))
    (vFrz 3 (vRet (vCallP 2 den_substituted (vCons (vVar 3) (vCons (vVar 4) vNil)))))))))
def den_solve := denP 9 body_solve
end
end Bo

/-! ### k10: what its defs answer -/
namespace Bo
open PySem L2
local macro_rules | `(tactic| walk_at "wv1") => `(tactic| (first
  | with_reducible refine w_seq ?_
  | with_reducible refine w_asg ?_
  | ((with_reducible refine w_var (d := ?wd) ?wh ?wq); (case wh => exact rfl))
  | with_reducible refine w_c ?_
  | with_reducible refine w_op ?_
  | with_reducible refine w_un ?_
  | with_reducible refine w_and ?_
  | with_reducible refine w_or ?_
  | with_reducible refine w_not ?_
  | with_reducible refine w_toB ?_
  | with_reducible refine w_toI ?_
  | with_reducible refine w_tst ?_
  | with_reducible refine w_tnot ?_
  | with_reducible refine w_tand ?_
  | with_reducible refine w_tor ?_
  | with_reducible refine w_tru ?_
  | with_reducible refine w_if ?_
  | with_reducible refine w_chain ?_
  | with_reducible refine w_nil ?_
  | with_reducible refine w_cons ?_
  | with_reducible refine w_tup ?_
  | with_reducible refine w_lst ?_
  | with_reducible refine w_lstF ?_
  | with_reducible refine w_call ?_
  | with_reducible refine w_callP ?_
  | with_reducible refine w_callL ?_
  | ((with_reducible refine w_own (ds := ?wd) ?wh ?wq); (case wh => exact rfl))
  | with_reducible refine w_callB ?_
  | ((with_reducible refine w_callS (ns := ?wd) ?wh ?wq); (case wh => exact rfl))
  | with_reducible refine w_consO ?_
  | with_reducible refine w_fr ?_
  | with_reducible refine w_lenO ?_
  | with_reducible refine w_tupleO ?_
  | with_reducible refine w_listO ?_
  | with_reducible refine w_ixO ?_
  | with_reducible refine w_inO ?_
  | with_reducible refine w_truO ?_
  | with_reducible refine w_app ?_
  | with_reducible refine w_setI ?_
  | with_reducible refine w_sl ?_
  | with_reducible refine w_noPart ?_
  | with_reducible refine w_part ?_
  | with_reducible refine w_iter ?_
  | with_reducible refine w_iterT ?_
  | with_reducible refine w_range1 ?_
  | with_reducible refine w_listRg ?_
  | with_reducible refine w_enumK ?_
  | with_reducible refine w_zipK ?_
  | with_reducible refine w_repF ?_
  | with_reducible refine w_lc ?_
  | with_reducible refine w_yes ?_
  | with_reducible refine w_next ?_
  | with_reducible refine w_ret ?_
  | with_reducible refine w_retN ?_
  | with_reducible refine w_drop ?_
  | with_reducible refine w_aName ?_
  | with_reducible refine w_aTup rfl ?_
  | with_reducible refine w_aNil ?_
  | with_reducible refine w_aCons ?_
  | with_reducible refine w_ifS ?_
  | with_reducible refine w_ownS ?_
  | ((with_reducible refine w_frz (ds := ?wd) ?wh ?wq); (case wh => exact rfl))
  | with_reducible refine w_for ?_
  | ((with_reducible refine w_aug (a := ?wd) ?wh ?wq); (case wh => exact rfl))
  | with_reducible refine w_gI ?_
  | with_reducible refine w_gIB ?_
  | with_reducible refine w_gIC ?_
  | with_reducible refine w_gEqI ?_
  | with_reducible refine w_gNeI ?_
  | with_reducible refine w_gIxL ?_
  | with_reducible refine w_gIxT ?_
  | with_reducible refine w_gCat ?_
  | with_reducible refine w_gCatT ?_
  | with_reducible refine w_isN ?_
  | with_reducible refine w_notN ?_
  | with_reducible refine w_gInL ?_
  | with_reducible refine w_gLenL ?_
  | with_reducible refine w_gLenT ?_
  | with_reducible refine w_gIntI ?_
  | with_reducible refine w_gTuple ?_
  | with_reducible refine w_gBools ?_
  | with_reducible refine w_gInts ?_
  | with_reducible refine w_gNeD ?_
  | with_reducible refine w_gEqD ?_
  | with_reducible refine w_gRevL ?_
  | with_reducible refine w_gSlL ?_
  | with_reducible refine w_gSlT ?_
  | with_reducible refine w_itT ?_
  | with_reducible refine w_itF ?_
  | with_reducible refine w_itTT ?_
  | with_reducible refine w_itFT ?_
  | with_reducible refine w_gList ?_
  | with_reducible refine w_gSortI ?_
  | with_reducible refine w_range2 ?_
  | ((with_reducible refine w_lcO (ds := ?wd) ?wh ?wq ?wr); (case wh => exact rfl); (case wq => exact rfl))
  | with_reducible refine w_aUnl rfl ?_
  | with_reducible refine w_listF ?_
  | with_reducible refine w_brk ?_
  | with_reducible refine w_cnt ?_
  | with_reducible refine w_neg ?_
  | with_reducible refine w_gIntB ?_
  | simp only [wipeS, backS, List.set_cons_zero, List.set_cons_succ, List.getElem?_cons_zero, List.getElem?_cons_succ, Option.join_some, Option.join_none, Bool.not_true, Bool.not_false]))
local macro_rules | `(tactic| walk_at "wv") => `(tactic| ((repeat (walk_at "wv1"; try dsimp only)); try simp only [List.set_cons_zero, List.set_cons_succ]))
local macro_rules | `(tactic| walk_at "st") => `(tactic| simp only [startS, List.map_cons, List.map_nil, List.length_cons, List.length_nil, Nat.reduceAdd, Nat.reduceSub, List.replicate_succ, List.replicate_zero, List.cons_append, List.nil_append])

def iL (l : List Int) : PyData := .list (l.map .int)
theorem zip_ints : ∀ (a b : List Int), zipD (a.map .int) (b.map .int) = (a.zip b).map fun p => .tuple [.int p.1, .int p.2] := by
  intro a b
  unfold zipD
  rw [List.zip_map, List.map_map]
  rfl
theorem without_ok {r0 s0 b : Int} {row step : List Int} {k : PyData → Prop} (hl : row.length ≤ 1000) (hb : cFdiv 0 b = true) (h1 : ∀ x ∈ row, cMul s0 x = true) (h2 : ∀ x ∈ step, cMul r0 x = true) (h : k (iL (bRow (s0 :: step) (r0 :: row) b))) : (den_without_unknown [iL (r0 :: row), iL (s0 :: step), .int b]).okTo k := by
  unfold den_without_unknown body_without_unknown
  refine w_denP ?_
  walk_at "st"
  unfold iL
  walk_at "wv"
  have c1 : ∀ (x : Int) (l : List Int), cutD ((x :: l).map PyData.int) (some 1) none = l.map .int := fun x l => cut_from ((x :: l).map PyData.int) 1 (by simp)
  rw [c1, c1]
  refine ⟨_, _, _, _, rfl, rfl, rfl, ⟨rfl, by rw [zip_ints, List.length_map, List.length_zip]; omega⟩, ?_⟩
  rw [zip_ints]
  refine lc_ok (fun p acc Z => acc = ((row.zip step).take p).map (fun q => .int (Int.fdiv (s0 * q.1 - r0 * q.2) b)) ∧ Z = [some (SV.dat (PyData.list (List.map PyData.int (r0 :: row)))), some (SV.dat (PyData.list (List.map PyData.int (s0 :: step)))), some (SV.dat (PyData.int b)), none, none]) ?_ ?_ ⟨rfl, rfl⟩
  · rintro p dp acc Z hp ⟨rfl, rfl⟩
    rw [List.getElem?_map] at hp
    obtain ⟨q, hq, rfl⟩ := Option.map_eq_some_iff.mp hp
    have hm := List.mem_of_getElem? hq
    have m1 := h1 q.1 (List.of_mem_zip hm).1
    have m2 := h2 q.2 (List.of_mem_zip hm).2
    have hb' : ∀ i, cFdiv i b = true := fun _ => hb
    generalize cMul = cm at m1 m2 ⊢
    generalize cFdiv = cf at hb' ⊢
    walk_at "wv"
    refine okTo_eq (a := .int s0) (ixD_nat (ds := (s0 :: step).map PyData.int) (j := 0) rfl) ?_
    walk_at "wv"
    refine ⟨m1, ?_⟩
    walk_at "wv"
    refine okTo_eq (a := .int r0) (ixD_nat (ds := (r0 :: row).map PyData.int) (j := 0) rfl) ?_
    walk_at "wv"
    refine ⟨m2, ?_⟩
    walk_at "wv"
    refine ⟨hb' _, ?_⟩
    rw [List.take_add_one, hq, Option.toList_some, List.map_append]
    exact ⟨rfl, by first | trivial | rfl⟩
  rintro acc Z ⟨rfl, rfl⟩
  rw [List.length_map, List.take_length]
  unfold bRow iL at h
  rw [List.map_map] at h
  exact h
def optI : Option Nat → PyData
  | some i => .int (i : Nat)
  | none => .none
theorem pick_at : ∀ {t : List (List Int)} {i : Nat} {r : List Int}, t[i]? = some r → r.headD 0 ≠ 0 → (∀ j r', j < i → t[j]? = some r' → r'.headD 0 = 0) → pick t = some i
  | [], _, _, h, _, _ => nomatch h
  | a :: t, 0, r, h, g, _ => by
    obtain rfl : a = r := Option.some.inj h
    unfold pick
    rw [if_pos g]
  | a :: t, i + 1, r, h, g, k => by
    have z : a.headD 0 = 0 := k 0 a (by omega) rfl
    unfold pick
    rw [if_neg (by rw [z]; exact fun q => q rfl), pick_at (t := t) (i := i) h g fun j r' hj hr => k (j + 1) r' (by omega) hr]
    rfl
theorem pick_no : ∀ {t : List (List Int)}, (∀ r ∈ t, r.headD 0 = 0) → pick t = none
  | [], _ => rfl
  | a :: t, h => by
    unfold pick
    rw [if_neg (by rw [h a List.mem_cons_self]; exact fun q => q rfl), pick_no fun r hr => h r (List.mem_cons_of_mem a hr)]
    rfl
theorem first_ok {t : List (List Int)} {k : PyData → Prop} (hl : t.length ≤ 1000) (hn : ∀ r ∈ t, r ≠ []) (h : k (optI (pick t))) : (den_first_with_unknown [.list (t.map iL)]).okTo k := by
  unfold den_first_with_unknown body_first_with_unknown
  refine w_denP ?_
  walk_at "st"
  walk_at "wv"
  refine ⟨_, _, rfl, rfl, ?_⟩
  refine loop_ok (fun p S => (∀ j r, j < p → t[j]? = some r → r.headD 0 = 0) ∧ ∃ e f : Option PyData, S = [some (.dat (.list (t.map iL))), e.map SV.dat, f.map SV.dat]) ?_ ?_ ⟨fun j _ hj => absurd hj (Nat.not_lt_zero j), none, none, rfl⟩
  · rintro p dp S hp ⟨hz, e, f, rfl⟩
    have lt := (List.getElem?_eq_some_iff.mp hp).1
    rw [enumD_len, List.length_map] at lt
    have ht := List.getElem?_eq_getElem lt
    rw [enumD_get (d := iL t[p]) (by rw [List.getElem?_map, ht]; rfl)] at hp
    cases hp
    obtain ⟨x, r, hx⟩ : ∃ x r, t[p] = x :: r := by
      cases q : t[p] with
      | nil => exact absurd q (hn _ (List.mem_of_getElem? ht))
      | cons x r => exact ⟨x, r, rfl⟩
    rw [hx] at ht ⊢
    unfold iL
    walk_at "wv"
    refine okTo_eq (a := .int x) (ixD_nat (ds := (x :: r).map PyData.int) (j := 0) rfl) ?_
    walk_at "wv"
    by_cases c : x = 0
    · rw [decide_eq_true c]
      walk_at "wv"
      refine ⟨fun j q hj hq => ?_, some (.int (p : Nat)), some (iL (x :: r)), rfl⟩
      by_cases cj : j = p
      · subst cj
        rw [ht] at hq
        cases hq
        exact c
      · exact hz j q (by omega) hq
    · rw [decide_eq_false c]
      walk_at "wv"
      rw [pick_at ht (show (x :: r).headD 0 ≠ 0 from c) hz] at h
      exact h
  · rintro S ⟨hz, e, f, rfl⟩
    walk_at "wv"
    have pn : pick t = none := pick_no fun r hr => by
      obtain ⟨j, hj⟩ := List.mem_iff_getElem?.mp hr
      exact hz j r (by rw [enumD_len, List.length_map]; exact (List.getElem?_eq_some_iff.mp hj).1) hj
    rw [pn] at h
    exact h
end Bo

/-! ### k10: a row of fractions made whole -/
namespace Bo
open PySem L2
local macro_rules | `(tactic| walk_at "wv1") => `(tactic| (first
  | with_reducible refine w_seq ?_
  | with_reducible refine w_asg ?_
  | ((with_reducible refine w_var (d := ?wd) ?wh ?wq); (case wh => exact rfl))
  | with_reducible refine w_c ?_
  | with_reducible refine w_op ?_
  | with_reducible refine w_un ?_
  | with_reducible refine w_and ?_
  | with_reducible refine w_or ?_
  | with_reducible refine w_not ?_
  | with_reducible refine w_toB ?_
  | with_reducible refine w_toI ?_
  | with_reducible refine w_tst ?_
  | with_reducible refine w_tnot ?_
  | with_reducible refine w_tand ?_
  | with_reducible refine w_tor ?_
  | with_reducible refine w_tru ?_
  | with_reducible refine w_if ?_
  | with_reducible refine w_chain ?_
  | with_reducible refine w_nil ?_
  | with_reducible refine w_cons ?_
  | with_reducible refine w_tup ?_
  | with_reducible refine w_lst ?_
  | with_reducible refine w_lstF ?_
  | with_reducible refine w_call ?_
  | with_reducible refine w_callP ?_
  | with_reducible refine w_callL ?_
  | ((with_reducible refine w_own (ds := ?wd) ?wh ?wq); (case wh => exact rfl))
  | with_reducible refine w_callB ?_
  | ((with_reducible refine w_callS (ns := ?wd) ?wh ?wq); (case wh => exact rfl))
  | with_reducible refine w_consO ?_
  | with_reducible refine w_fr ?_
  | with_reducible refine w_lenO ?_
  | with_reducible refine w_tupleO ?_
  | with_reducible refine w_listO ?_
  | with_reducible refine w_ixO ?_
  | with_reducible refine w_inO ?_
  | with_reducible refine w_truO ?_
  | with_reducible refine w_app ?_
  | with_reducible refine w_setI ?_
  | with_reducible refine w_sl ?_
  | with_reducible refine w_noPart ?_
  | with_reducible refine w_part ?_
  | with_reducible refine w_iter ?_
  | with_reducible refine w_iterT ?_
  | with_reducible refine w_range1 ?_
  | with_reducible refine w_listRg ?_
  | with_reducible refine w_enumK ?_
  | with_reducible refine w_zipK ?_
  | with_reducible refine w_repF ?_
  | with_reducible refine w_lc ?_
  | with_reducible refine w_yes ?_
  | with_reducible refine w_next ?_
  | with_reducible refine w_ret ?_
  | with_reducible refine w_retN ?_
  | with_reducible refine w_drop ?_
  | with_reducible refine w_aName ?_
  | with_reducible refine w_aTup rfl ?_
  | with_reducible refine w_aNil ?_
  | with_reducible refine w_aCons ?_
  | with_reducible refine w_ifS ?_
  | with_reducible refine w_ownS ?_
  | ((with_reducible refine w_frz (ds := ?wd) ?wh ?wq); (case wh => exact rfl))
  | with_reducible refine w_for ?_
  | ((with_reducible refine w_aug (a := ?wd) ?wh ?wq); (case wh => exact rfl))
  | with_reducible refine w_gI ?_
  | with_reducible refine w_gIB ?_
  | with_reducible refine w_gIC ?_
  | with_reducible refine w_gEqI ?_
  | with_reducible refine w_gNeI ?_
  | with_reducible refine w_gIxL ?_
  | with_reducible refine w_gIxT ?_
  | with_reducible refine w_gCat ?_
  | with_reducible refine w_gCatT ?_
  | with_reducible refine w_isN ?_
  | with_reducible refine w_notN ?_
  | with_reducible refine w_gInL ?_
  | with_reducible refine w_gLenL ?_
  | with_reducible refine w_gLenT ?_
  | with_reducible refine w_gIntI ?_
  | with_reducible refine w_gTuple ?_
  | with_reducible refine w_gBools ?_
  | with_reducible refine w_gInts ?_
  | with_reducible refine w_gNeD ?_
  | with_reducible refine w_gEqD ?_
  | with_reducible refine w_gRevL ?_
  | with_reducible refine w_gSlL ?_
  | with_reducible refine w_gSlT ?_
  | with_reducible refine w_itT ?_
  | with_reducible refine w_itF ?_
  | with_reducible refine w_itTT ?_
  | with_reducible refine w_itFT ?_
  | with_reducible refine w_gList ?_
  | with_reducible refine w_gSortI ?_
  | with_reducible refine w_range2 ?_
  | ((with_reducible refine w_lcO (ds := ?wd) ?wh ?wq ?wr); (case wh => exact rfl); (case wq => exact rfl))
  | with_reducible refine w_aUnl rfl ?_
  | with_reducible refine w_listF ?_
  | with_reducible refine w_brk ?_
  | with_reducible refine w_cnt ?_
  | with_reducible refine w_neg ?_
  | with_reducible refine w_gIntB ?_
  | simp only [wipeS, backS, List.set_cons_zero, List.set_cons_succ, List.getElem?_cons_zero, List.getElem?_cons_succ, Option.join_some, Option.join_none, Bool.not_true, Bool.not_false]))
local macro_rules | `(tactic| walk_at "wv") => `(tactic| ((repeat (walk_at "wv1"; try dsimp only)); try simp only [List.set_cons_zero, List.set_cons_succ]))
local macro_rules | `(tactic| walk_at "st") => `(tactic| simp only [startS, List.map_cons, List.map_nil, List.length_cons, List.length_nil, Nat.reduceAdd, Nat.reduceSub, List.replicate_succ, List.replicate_zero, List.cons_append, List.nil_append])

def lcms (qs : List Rat) : Nat := qs.foldl (fun c q => Nat.lcm c q.den) 1
def whole (qs : List Rat) : List Int := qs.map fun q => q.num * Int.fdiv (lcms qs : Int) (q.den : Int)
theorem lcms_snoc {qs : List Rat} {q : Rat} : lcms (qs ++ [q]) = Nat.lcm (lcms qs) q.den := by simp [lcms]
theorem whole_ok {qs : List Rat} {k : PyData → Prop} (hl : qs.length ≤ 1000) (hb : ∀ p, lcms (qs.take p) < 2 ^ 3000) (hd : ∀ q ∈ qs, q.den < 2 ^ 3000 ∧ q.num.natAbs < 2 ^ 3000) (h : k (iL (whole qs))) : (den_whole_row [.list (qs.map dQ)]).okTo k := by
  have m3 : ∀ i j : Int, i.natAbs < 2 ^ 3000 → j.natAbs < 2 ^ 3000 → cMul i j = true := fun i j a b => cMul3 a b
  have f3 : ∀ (i : Int) (n : Nat), 0 < n → n < 2 ^ 3000 → cFdiv i (n : Int) = true := fun i n a b => decide_eq_true ⟨by omega, by rw [Int.natAbs_natCast]; exact Nat.lt_of_lt_of_le b (Nat.pow_le_pow_right (by decide) (by decide))⟩
  unfold den_whole_row body_whole_row
  generalize cMul = cm at m3 ⊢
  generalize cFdiv = cf at f3 ⊢
  refine w_denP ?_
  walk_at "st"
  walk_at "wv"
  refine ⟨_, rfl, ?_⟩
  refine loop_ok (fun p S => ∃ (e f : Option PyData), S = [some (.dat (.list (qs.map dQ))), some (.dat (.int ((lcms (qs.take p) : Nat) : Int))), e.map SV.dat, f.map SV.dat, none]) ?_ ?_ ⟨none, none, rfl⟩
  · rintro p dp S hp ⟨e, f, rfl⟩
    rw [List.getElem?_map] at hp
    obtain ⟨q, hq, rfl⟩ := Option.map_eq_some_iff.mp hp
    rw [show dQ q = PyData.tuple [.int q.num, .int (q.den : Int)] by unfold dQ; rfl]
    walk_at "wv"
    have bq := hd q (List.mem_of_getElem? hq)
    refine okTo_eq (a := .int ((Nat.lcm (lcms (qs.take p)) q.den : Nat) : Int)) ?_ ?_
    · have up : (2 : Nat) ^ 3000 ≤ 2 ^ 6000 := Nat.pow_le_pow_right (by decide) (by decide)
      exact if_pos ⟨by rw [Int.natAbs_natCast]; exact Nat.lt_of_lt_of_le (hb p) up, by rw [Int.natAbs_natCast]; exact Nat.lt_of_lt_of_le bq.1 up⟩
    walk_at "wv"
    refine ⟨some (.int q.num), some (.int (q.den : Int)), ?_⟩
    rw [List.take_add_one, hq, Option.toList_some, lcms_snoc]
    rfl
  · rintro S ⟨e, f, rfl⟩
    rw [List.length_map, List.take_length]
    walk_at "wv"
    refine ⟨_, rfl, ⟨by cases e <;> cases f <;> rfl, by rw [List.length_map]; omega⟩, ?_⟩
    refine lc_ok (fun p acc Z => acc = ((qs.take p).map fun q => .int (q.num * Int.fdiv (lcms qs : Int) (q.den : Int))) ∧ Z = [some (SV.dat (PyData.list (List.map dQ qs))), some (SV.dat (PyData.int ↑(lcms qs))), Option.map SV.dat e, none, none]) ?_ ?_ ⟨rfl, rfl⟩
    · rintro p dp acc Z hp ⟨rfl, rfl⟩
      rw [List.getElem?_map] at hp
      obtain ⟨q, hq, rfl⟩ := Option.map_eq_some_iff.mp hp
      have bq := hd q (List.mem_of_getElem? hq)
      have hb' := hb qs.length
      rw [List.take_length] at hb'
      have dp : 0 < q.den := q.den_pos
      have fd : (Int.fdiv (lcms qs : Int) (q.den : Int)).natAbs < 2 ^ 3000 := by
        rw [Int.fdiv_eq_ediv_of_nonneg _ (by omega)]
        have : ((lcms qs : Int) / (q.den : Int)).natAbs ≤ lcms qs := by
          rw [← Int.natCast_ediv, Int.natAbs_natCast]
          exact Nat.div_le_self _ _
        exact Nat.lt_of_le_of_lt this hb'
      rw [show dQ q = PyData.tuple [.int q.num, .int (q.den : Int)] by unfold dQ; rfl]
      walk_at "wv"
      refine ⟨f3 _ _ dp bq.1, ?_⟩
      walk_at "wv"
      refine ⟨m3 _ _ bq.2 fd, ?_⟩
      rw [List.take_add_one, hq, Option.toList_some, List.map_append]
      exact ⟨rfl, by first | trivial | rfl⟩
    rintro acc Z ⟨rfl, rfl⟩
    rw [List.length_map, List.take_length]
    unfold iL whole at h
    rw [List.map_map] at h
    exact h
end Bo

/-! ### k10: the values, from the last step back -/
namespace Bo
open PySem L2
theorem w_revI {fa : VE} {S : SS} {kA : List PyData × SS → Prop} (h : (fa S).okTo fun p => ∃ ds, p.1 = .list ds ∧ kA (ds.reverse, p.2)) : (vRevI fa S).okTo kA := by
  unfold vRevI
  refine okTo_bind.mpr (h.mono fun p ⟨ds, e, q⟩ => ?_)
  rw [e]
  exact q
local macro_rules | `(tactic| walk_at "wv1") => `(tactic| (first
  | with_reducible refine w_seq ?_
  | with_reducible refine w_asg ?_
  | ((with_reducible refine w_var (d := ?wd) ?wh ?wq); (case wh => exact rfl))
  | with_reducible refine w_c ?_
  | with_reducible refine w_op ?_
  | with_reducible refine w_un ?_
  | with_reducible refine w_and ?_
  | with_reducible refine w_or ?_
  | with_reducible refine w_not ?_
  | with_reducible refine w_toB ?_
  | with_reducible refine w_toI ?_
  | with_reducible refine w_tst ?_
  | with_reducible refine w_tnot ?_
  | with_reducible refine w_tand ?_
  | with_reducible refine w_tor ?_
  | with_reducible refine w_tru ?_
  | with_reducible refine w_if ?_
  | with_reducible refine w_chain ?_
  | with_reducible refine w_nil ?_
  | with_reducible refine w_cons ?_
  | with_reducible refine w_tup ?_
  | with_reducible refine w_lst ?_
  | with_reducible refine w_lstF ?_
  | with_reducible refine w_call ?_
  | with_reducible refine w_callP ?_
  | with_reducible refine w_callL ?_
  | ((with_reducible refine w_own (ds := ?wd) ?wh ?wq); (case wh => exact rfl))
  | with_reducible refine w_callB ?_
  | ((with_reducible refine w_callS (ns := ?wd) ?wh ?wq); (case wh => exact rfl))
  | with_reducible refine w_consO ?_
  | with_reducible refine w_fr ?_
  | with_reducible refine w_lenO ?_
  | with_reducible refine w_tupleO ?_
  | with_reducible refine w_listO ?_
  | with_reducible refine w_ixO ?_
  | with_reducible refine w_inO ?_
  | with_reducible refine w_truO ?_
  | with_reducible refine w_app ?_
  | with_reducible refine w_setI ?_
  | with_reducible refine w_sl ?_
  | with_reducible refine w_noPart ?_
  | with_reducible refine w_part ?_
  | with_reducible refine w_iter ?_
  | with_reducible refine w_iterT ?_
  | with_reducible refine w_range1 ?_
  | with_reducible refine w_listRg ?_
  | with_reducible refine w_enumK ?_
  | with_reducible refine w_zipK ?_
  | with_reducible refine w_repF ?_
  | with_reducible refine w_lc ?_
  | with_reducible refine w_yes ?_
  | with_reducible refine w_next ?_
  | with_reducible refine w_ret ?_
  | with_reducible refine w_retN ?_
  | with_reducible refine w_drop ?_
  | with_reducible refine w_aName ?_
  | with_reducible refine w_aTup rfl ?_
  | with_reducible refine w_aNil ?_
  | with_reducible refine w_aCons ?_
  | with_reducible refine w_ifS ?_
  | with_reducible refine w_ownS ?_
  | ((with_reducible refine w_frz (ds := ?wd) ?wh ?wq); (case wh => exact rfl))
  | with_reducible refine w_for ?_
  | ((with_reducible refine w_aug (a := ?wd) ?wh ?wq); (case wh => exact rfl))
  | with_reducible refine w_gI ?_
  | with_reducible refine w_gIB ?_
  | with_reducible refine w_gIC ?_
  | with_reducible refine w_gEqI ?_
  | with_reducible refine w_gNeI ?_
  | with_reducible refine w_gIxL ?_
  | with_reducible refine w_gIxT ?_
  | with_reducible refine w_gCat ?_
  | with_reducible refine w_gCatT ?_
  | with_reducible refine w_isN ?_
  | with_reducible refine w_notN ?_
  | with_reducible refine w_gInL ?_
  | with_reducible refine w_gLenL ?_
  | with_reducible refine w_gLenT ?_
  | with_reducible refine w_gIntI ?_
  | with_reducible refine w_gTuple ?_
  | with_reducible refine w_gBools ?_
  | with_reducible refine w_gInts ?_
  | with_reducible refine w_gNeD ?_
  | with_reducible refine w_gEqD ?_
  | with_reducible refine w_gRevL ?_
  | with_reducible refine w_gSlL ?_
  | with_reducible refine w_gSlT ?_
  | with_reducible refine w_itT ?_
  | with_reducible refine w_itF ?_
  | with_reducible refine w_itTT ?_
  | with_reducible refine w_itFT ?_
  | with_reducible refine w_gList ?_
  | with_reducible refine w_gSortI ?_
  | with_reducible refine w_range2 ?_
  | ((with_reducible refine w_lcO (ds := ?wd) ?wh ?wq ?wr); (case wh => exact rfl); (case wq => exact rfl))
  | with_reducible refine w_aUnl rfl ?_
  | with_reducible refine w_listF ?_
  | with_reducible refine w_brk ?_
  | with_reducible refine w_cnt ?_
  | with_reducible refine w_neg ?_
  | with_reducible refine w_gIntB ?_
  | simp only [wipeS, backS, List.set_cons_zero, List.set_cons_succ, List.getElem?_cons_zero, List.getElem?_cons_succ, Option.join_some, Option.join_none, Bool.not_true, Bool.not_false]))
local macro_rules | `(tactic| walk_at "wv") => `(tactic| ((repeat (walk_at "wv1"; try dsimp only)); try simp only [List.set_cons_zero, List.set_cons_succ]))
local macro_rules | `(tactic| walk_at "st") => `(tactic| simp only [startS, List.map_cons, List.map_nil, List.length_cons, List.length_nil, Nat.reduceAdd, Nat.reduceSub, List.replicate_succ, List.replicate_zero, List.cons_append, List.nil_append])

def bStep (b : Int) (acc s : List Int) : List Int := Int.fdiv (b * s.getLastD 0 - ((s.tail.zip acc).map fun p => p.1 * p.2).sum) (s.headD 0) :: acc
theorem bBack_snoc {b : Int} {s : List Int} : ∀ (ss : List (List Int)) (acc : List Int), bBack b (ss ++ [s]) acc = bStep b (bBack b ss acc) s
  | [], _ => rfl
  | t :: ss, acc => bBack_snoc ss (bStep b acc t)
theorem ixD_last {x : Int} {r : List Int} : gIxL (iL (x :: r)) (.int (-1)) = .ok (.int ((x :: r).getLastD 0)) := by
  have a1 : atI ((x :: r).map PyData.int) (-1) = some (.int ((x :: r).getLastD 0)) := by
    unfold atI ixN
    rw [if_neg (by omega), if_pos (by rw [List.length_map, List.length_cons]; omega)]
    show ((x :: r).map PyData.int)[((-1 : Int) + (((x :: r).map PyData.int).length : Int)).toNat]? = _
    rw [show ((-1 : Int) + (((x :: r).map PyData.int).length : Int)).toNat = (x :: r).length - 1 by rw [List.length_map]; omega, List.getElem?_map, ← List.getLast?_eq_getElem?, List.getLastD_eq_getLast?]
    cases h : (x :: r).getLast? with
    | none => simp at h
    | some y => rfl
  show ixD _ _ = _
  unfold ixD
  rw [a1]
structure BkOk (b : Int) (acc s : List Int) : Prop where
  ne : s ≠ []
  last : cMul b (s.getLastD 0) = true
  pair : ∀ p ∈ s.tail.zip acc, cMul p.1 p.2 = true
  div : ∀ i, cFdiv i (s.headD 0) = true
theorem back_len {b : Int} : ∀ (ss : List (List Int)) (acc : List Int), (bBack b ss acc).length = acc.length + ss.length
  | [], _ => rfl
  | t :: ss, acc => by
    show (bBack b ss (bStep b acc t)).length = _
    rw [back_len ss]
    show acc.length + 1 + ss.length = acc.length + (ss.length + 1)
    omega
theorem substituted_ok {st : List (List Int)} {b : Int} {k : PyData → Prop} (hb0 : b ≠ 0) (hbb : b.natAbs < 2 ^ 8000) (hl : st.length ≤ 1000) (hs : ∀ s ∈ st, s.length ≤ 1000) (ok : ∀ p s, st.reverse[p]? = some s → BkOk b (bBack b (st.reverse.take p) []) s)
    (h : k (.list ((bBack b st.reverse []).map fun v => dQ (Rat.divInt v b)))) : (den_substituted [.list (st.map iL), .int b]).okTo k := by
  unfold den_substituted body_substituted
  refine w_denP ?_
  walk_at "st"
  walk_at "wv"
  refine ⟨by simp, ?_⟩
  walk_at "wv"
  refine w_revI ?_
  walk_at "wv"
  refine ⟨_, rfl, ?_⟩
  rw [← List.map_reverse]
  refine loop_ok (fun p S => ∃ (e f : Option PyData), S = [some (.dat (.list (st.map iL))), some (.dat (.int b)), some (.dat (iL (bBack b (st.reverse.take p) []))), e.map SV.dat, f.map SV.dat, none, none]) ?_ ?_ ⟨none, none, rfl⟩
  · rintro p dp S hp ⟨e, f, rfl⟩
    rw [List.getElem?_map] at hp
    obtain ⟨s, hs', rfl⟩ := Option.map_eq_some_iff.mp hp
    have o := ok p s hs'
    have sl := hs s (List.mem_reverse.mp (List.mem_of_getElem? hs'))
    obtain ⟨x, r, rfl⟩ : ∃ x r, s = x :: r := by
      cases s with
      | nil => exact absurd rfl o.ne
      | cons x r => exact ⟨x, r, rfl⟩
    have bl : (bBack b (st.reverse.take p) []).length ≤ 1000 := by
      rw [back_len, List.length_take, List.length_reverse, List.length_nil]
      omega
    rw [List.take_add_one, hs', Option.toList_some, bBack_snoc]
    generalize bBack b (st.reverse.take p) [] = acc at o bl ⊢
    obtain ⟨_, o1, o2, o3⟩ := o
    generalize hcm : cMul = cm at o1 o2 ⊢
    generalize hcf : cFdiv = cf at o3 ⊢
    walk_at "wv"
    rw [ixD_last]
    refine okTo_ok.mpr ?_
    walk_at "wv"
    refine ⟨o1, ?_⟩
    unfold iL
    walk_at "wv"
    rw [show cutD ((x :: r).map PyData.int) (some 1) none = r.map PyData.int from cut_from ((x :: r).map PyData.int) 1 (by simp)]
    refine ⟨_, _, _, _, rfl, rfl, rfl, ⟨by cases f <;> rfl, by rw [zip_ints, List.length_map, List.length_zip]; omega⟩, ?_⟩
    rw [zip_ints]
    refine lc_ok (fun p acc' Z => acc' = (((r.zip acc).take p).map fun q => q.1 * q.2).map PyData.int ∧ Z = [some (SV.dat (PyData.list (st.map fun l => PyData.list (l.map PyData.int)))), some (SV.dat (PyData.int b)), some (SV.dat (PyData.list (acc.map PyData.int))), some (SV.dat (PyData.list ((x :: r).map PyData.int))), f.map SV.dat, none, none]) ?_ ?_ ⟨rfl, rfl⟩
    · rintro p dp acc' Z hp ⟨rfl, rfl⟩
      rw [List.getElem?_map] at hp
      obtain ⟨q, hq, rfl⟩ := Option.map_eq_some_iff.mp hp
      have m := o2 q (List.mem_of_getElem? hq)
      walk_at "wv"
      refine ⟨m, ?_⟩
      rw [List.take_add_one, hq, Option.toList_some, List.map_append, List.map_append]
      exact ⟨rfl, by first | trivial | rfl⟩
    rintro acc' Z ⟨rfl, rfl⟩
    rw [List.length_map, List.take_length]
    walk_at "wv"
    refine okTo_eq (a := .int x) (ixD_nat (ds := (x :: r).map PyData.int) (j := 0) rfl) ?_
    walk_at "wv"
    refine ⟨o3 _, ?_⟩
    walk_at "wv"
    refine ⟨by simp, ?_⟩
    walk_at "wv"
    first
      | exact ⟨some (iL (x :: r)), some (.int _), rfl⟩
      | (refine ⟨by simp; omega, ?_⟩
         walk_at "wv"
         exact ⟨some (iL (x :: r)), some (.int _), rfl⟩)
  · rintro S ⟨e, f, rfl⟩
    rw [List.length_map, List.take_length]
    walk_at "wv"
    refine ⟨_, rfl, ⟨by cases e <;> cases f <;> rfl, by rw [List.length_map, back_len, List.length_reverse, List.length_nil]; omega⟩, ?_⟩
    generalize bBack b st.reverse [] = vs at h ⊢
    refine lc_ok (fun p acc Z => acc = (vs.take p).map (fun v => dQ (Rat.divInt v b)) ∧ Z = [some (SV.dat (PyData.list (st.map iL))), some (SV.dat (PyData.int b)), some (SV.dat (iL vs)), e.map SV.dat, f.map SV.dat, none, none]) ?_ ?_ ⟨rfl, rfl⟩
    · rintro p dp acc Z hp ⟨rfl, rfl⟩
      rw [List.getElem?_map] at hp
      obtain ⟨q, hq, rfl⟩ := Option.map_eq_some_iff.mp hp
      walk_at "wv"
      refine ⟨rfl, ratio_ok hb0 hbb ?_⟩
      walk_at "wv"
      rw [List.take_add_one, hq, Option.toList_some, List.map_append]
      exact ⟨rfl, by first | trivial | rfl⟩
    rintro acc Z ⟨rfl, rfl⟩
    rw [List.length_map, List.take_length]
    exact h
end Bo

/-! ### k10: solve -/
namespace Bo
open PySem L2
theorem w_star {fa : VE} {fr : VA} {S : SS} {kA : List PyData × SS → Prop} (h : (fa S).okTo fun p => ∃ ds, itemsD p.1 = some ds ∧ (fr p.2).okTo fun q => kA (ds ++ q.1, q.2)) : (vStar fa fr S).okTo kA := by
  unfold vStar
  refine okTo_bind.mpr (h.mono fun p ⟨ds, e, q⟩ => ?_)
  rw [e]
  exact okTo_bind.mpr q
local macro_rules | `(tactic| walk_at "wv1") => `(tactic| (first
  | with_reducible refine w_seq ?_
  | with_reducible refine w_asg ?_
  | ((with_reducible refine w_var (d := ?wd) ?wh ?wq); (case wh => exact rfl))
  | with_reducible refine w_c ?_
  | with_reducible refine w_op ?_
  | with_reducible refine w_un ?_
  | with_reducible refine w_and ?_
  | with_reducible refine w_or ?_
  | with_reducible refine w_not ?_
  | with_reducible refine w_toB ?_
  | with_reducible refine w_toI ?_
  | with_reducible refine w_tst ?_
  | with_reducible refine w_tnot ?_
  | with_reducible refine w_tand ?_
  | with_reducible refine w_tor ?_
  | with_reducible refine w_tru ?_
  | with_reducible refine w_if ?_
  | with_reducible refine w_chain ?_
  | with_reducible refine w_nil ?_
  | with_reducible refine w_cons ?_
  | with_reducible refine w_tup ?_
  | with_reducible refine w_lst ?_
  | with_reducible refine w_lstF ?_
  | with_reducible refine w_call ?_
  | with_reducible refine w_callP ?_
  | with_reducible refine w_callL ?_
  | ((with_reducible refine w_own (ds := ?wd) ?wh ?wq); (case wh => exact rfl))
  | with_reducible refine w_callB ?_
  | ((with_reducible refine w_callS (ns := ?wd) ?wh ?wq); (case wh => exact rfl))
  | with_reducible refine w_consO ?_
  | with_reducible refine w_fr ?_
  | with_reducible refine w_lenO ?_
  | with_reducible refine w_tupleO ?_
  | with_reducible refine w_listO ?_
  | with_reducible refine w_ixO ?_
  | with_reducible refine w_inO ?_
  | with_reducible refine w_truO ?_
  | with_reducible refine w_app ?_
  | with_reducible refine w_setI ?_
  | with_reducible refine w_sl ?_
  | with_reducible refine w_noPart ?_
  | with_reducible refine w_part ?_
  | with_reducible refine w_iter ?_
  | with_reducible refine w_iterT ?_
  | with_reducible refine w_range1 ?_
  | with_reducible refine w_listRg ?_
  | with_reducible refine w_enumK ?_
  | with_reducible refine w_zipK ?_
  | with_reducible refine w_repF ?_
  | with_reducible refine w_lc ?_
  | with_reducible refine w_yes ?_
  | with_reducible refine w_next ?_
  | with_reducible refine w_ret ?_
  | with_reducible refine w_retN ?_
  | with_reducible refine w_drop ?_
  | with_reducible refine w_aName ?_
  | with_reducible refine w_aTup rfl ?_
  | with_reducible refine w_aNil ?_
  | with_reducible refine w_aCons ?_
  | with_reducible refine w_ifS ?_
  | with_reducible refine w_ownS ?_
  | ((with_reducible refine w_frz (ds := ?wd) ?wh ?wq); (case wh => exact rfl))
  | with_reducible refine w_for ?_
  | ((with_reducible refine w_aug (a := ?wd) ?wh ?wq); (case wh => exact rfl))
  | with_reducible refine w_gI ?_
  | with_reducible refine w_gIB ?_
  | with_reducible refine w_gIC ?_
  | with_reducible refine w_gEqI ?_
  | with_reducible refine w_gNeI ?_
  | with_reducible refine w_gIxL ?_
  | with_reducible refine w_gIxT ?_
  | with_reducible refine w_gCat ?_
  | with_reducible refine w_gCatT ?_
  | with_reducible refine w_isN ?_
  | with_reducible refine w_notN ?_
  | with_reducible refine w_gInL ?_
  | with_reducible refine w_gLenL ?_
  | with_reducible refine w_gLenT ?_
  | with_reducible refine w_gIntI ?_
  | with_reducible refine w_gTuple ?_
  | with_reducible refine w_gBools ?_
  | with_reducible refine w_gInts ?_
  | with_reducible refine w_gNeD ?_
  | with_reducible refine w_gEqD ?_
  | with_reducible refine w_gRevL ?_
  | with_reducible refine w_gSlL ?_
  | with_reducible refine w_gSlT ?_
  | with_reducible refine w_itT ?_
  | with_reducible refine w_itF ?_
  | with_reducible refine w_itTT ?_
  | with_reducible refine w_itFT ?_
  | with_reducible refine w_gList ?_
  | with_reducible refine w_gSortI ?_
  | with_reducible refine w_range2 ?_
  | ((with_reducible refine w_lcO (ds := ?wd) ?wh ?wq ?wr); (case wh => exact rfl); (case wq => exact rfl))
  | with_reducible refine w_aUnl rfl ?_
  | with_reducible refine w_listF ?_
  | with_reducible refine w_brk ?_
  | with_reducible refine w_cnt ?_
  | with_reducible refine w_neg ?_
  | with_reducible refine w_gIntB ?_
  | simp only [wipeS, backS, List.set_cons_zero, List.set_cons_succ, List.getElem?_cons_zero, List.getElem?_cons_succ, Option.join_some, Option.join_none, Bool.not_true, Bool.not_false]))
local macro_rules | `(tactic| walk_at "wv") => `(tactic| ((repeat (walk_at "wv1"; try dsimp only)); try simp only [List.set_cons_zero, List.set_cons_succ]))
local macro_rules | `(tactic| walk_at "st") => `(tactic| simp only [startS, List.map_cons, List.map_nil, List.length_cons, List.length_nil, Nat.reduceAdd, Nat.reduceSub, List.replicate_succ, List.replicate_zero, List.cons_append, List.nil_append])

def solD : Option (List (List Int) × Int) → PyData
  | none => .none
  | some (st, b) => .list ((bBack b st.reverse []).map fun v => dQ (Rat.divInt v b))
/-- what holds of the table, the steps and the number before, at each turn -/
structure Steady (Gd : List (List Int) → List (List Int) → Int → Prop) : Prop where
  size : ∀ {t st b}, Gd t st b → t.length ≤ 1000 ∧ (∀ r ∈ t, r ≠ [] ∧ r.length ≤ 1000) ∧ st.length ≤ 1000 ∧ cFdiv 0 b = true
  mul : ∀ {t st b i s}, Gd t st b → pick t = some i → t[i]? = some s → ∀ row ∈ t, (∀ x ∈ row.tail, cMul (s.headD 0) x = true) ∧ ∀ x ∈ s.tail, cMul (row.headD 0) x = true
  next : ∀ {t st b i s}, Gd t st b → pick t = some i → t[i]? = some s → Gd ((t.eraseIdx i).map fun row => bRow s row b) (st ++ [s]) (s.headD 0)
  last : ∀ {st b}, Gd [] st b → b ≠ 0 ∧ b.natAbs < 2 ^ 8000 ∧ (∀ s ∈ st, s.length ≤ 1000) ∧ ∀ p s, st.reverse[p]? = some s → BkOk b (bBack b (st.reverse.take p) []) s
theorem erase_cut {α : Type} : ∀ (l : List α) (i : Nat), i < l.length → l.take i ++ l.drop (i + 1) = l.eraseIdx i
  | [], _, h => absurd h (Nat.not_lt_zero _)
  | _ :: _, 0, _ => rfl
  | a :: l, i + 1, h => congrArg (a :: ·) (erase_cut l i (Nat.lt_of_succ_lt_succ h))
theorem solve_ok {Gd : List (List Int) → List (List Int) → Int → Prop} (G : Steady Gd) {rows : List (List Rat)} {right : List Rat} {k : PyData → Prop} (hr : rows.length ≤ 1000) (hw : ∀ p ∈ rows.zip right, ∀ k : PyData → Prop, k (iL (whole (p.1 ++ [p.2]))) → (den_whole_row [.list ((p.1 ++ [p.2]).map dQ)]).okTo k) (hc : ∀ p ∈ rows.zip right, p.1.length ≤ 1000)
    (g0 : Gd ((rows.zip right).map fun p => whole (p.1 ++ [p.2])) [] 1) (h : k (solD (bElim ((rows.zip right).map fun p => whole (p.1 ++ [p.2])).length ((rows.zip right).map fun p => whole (p.1 ++ [p.2])) [] 1))) :
    (den_solve [.list (rows.map fun r => .list (r.map dQ)), .list (right.map dQ)]).okTo k := by
  unfold den_solve body_solve
  refine w_denP ?_
  walk_at "st"
  walk_at "wv"
  refine ⟨_, _, _, _, rfl, rfl, rfl, ⟨rfl, by simp [zipD]; omega⟩, ?_⟩
  have zz : zipD (rows.map fun r => PyData.list (r.map dQ)) (right.map dQ) = (rows.zip right).map fun p => .tuple [.list (p.1.map dQ), dQ p.2] := by
    unfold zipD
    rw [List.zip_map, List.map_map]
    rfl
  rw [zz]
  refine lc_ok (fun p acc Z => acc = ((rows.zip right).take p).map (fun p => iL (whole (p.1 ++ [p.2]))) ∧ Z = [some (.dat (.list (rows.map fun r => .list (r.map dQ)))), some (.dat (.list (right.map dQ))), none, none, none, none, none, none, none]) ?_ ?_ ⟨rfl, rfl⟩
  · rintro p dp acc Z hp ⟨rfl, rfl⟩
    rw [List.getElem?_map] at hp
    obtain ⟨q, hq, rfl⟩ := Option.map_eq_some_iff.mp hp
    have hm := List.mem_of_getElem? hq
    walk_at "wv"
    refine w_star ?_
    walk_at "wv"
    refine ⟨_, rfl, ?_⟩
    walk_at "wv"
    have lq := hc q hm
    refine ⟨by rw [List.length_append, List.length_map, List.length_singleton]; omega, ?_⟩
    walk_at "wv"
    refine ⟨rfl, ?_⟩
    have e1 : q.1.map dQ ++ [dQ q.2] = (q.1 ++ [q.2]).map dQ := by rw [List.map_append]; rfl
    rw [e1]
    refine hw q hm _ ?_
    walk_at "wv"
    rw [List.take_add_one, hq, Option.toList_some, List.map_append]
    exact ⟨rfl, by first | trivial | rfl⟩
  rintro acc Z ⟨rfl, rfl⟩
  rw [List.length_map, List.take_length]
  rw [show (rows.zip right).map (fun p => iL (whole (p.1 ++ [p.2]))) = ((rows.zip right).map fun p => whole (p.1 ++ [p.2])).map iL by rw [List.map_map]; rfl]
  generalize (rows.zip right).map (fun p => whole (p.1 ++ [p.2])) = W at g0 h ⊢
  walk_at "wv"
  refine ⟨by simp, ?_⟩
  walk_at "wv"
  have wl := (G.size g0).1
  refine while_ok (m := W.length) (fun m S => ∃ (t st : List (List Int)) (b : Int) (e f : Option PyData), S = [some (.dat (.list (rows.map fun r => .list (r.map dQ)))), some (.dat (.list (right.map dQ))), some (.dat (.list (t.map iL))), some (.own (st.map iL)), some (.dat (.int b)), e.map SV.dat, f.map SV.dat, none, none] ∧ t.length = m ∧ Gd t st b ∧ bElim t.length t st b = bElim W.length W [] 1) ?_ (Nat.lt_of_le_of_lt wl (by decide)) ⟨W, [], 1, none, none, rfl, rfl, g0, rfl⟩
  rintro m S ⟨t, st, b, e, f, rfl, rfl, gd, eq⟩
  obtain ⟨z1, z2, z3, z4⟩ := G.size gd
  walk_at "wv"
  cases ht : t with
  | nil =>
    subst ht
    refine okTo_eq (a := false) rfl ?_
    walk_at "wv"
    obtain ⟨y1, y2, y3, y4⟩ := G.last gd
    refine ⟨rfl, substituted_ok y1 y2 z3 y3 y4 ?_⟩
    rw [← eq] at h
    exact h
  | cons x t' =>
    rw [← ht]
    refine okTo_eq (a := true) (by rw [ht]; rfl) ?_
    walk_at "wv"
    refine ⟨rfl, first_ok z1 (fun r hr => (z2 r hr).1) ?_⟩
    have un : bElim t.length t st b = match pick t with
        | none => none
        | some i => bElim t'.length ((t.eraseIdx i).map fun row => bRow (t.getD i []) row b) (st ++ [t.getD i []]) ((t.getD i []).headD 0) := by
      rw [show t.length = t'.length + 1 by rw [ht]; rfl, bElim, if_neg (by rw [ht]; exact fun z => nomatch z)]
      all_goals (cases pick t <;> rfl)
    rw [un] at eq
    cases hp : pick t with
    | none =>
      rw [hp] at eq
      unfold optI
      walk_at "wv"
      rw [if_pos (show isNone PyData.none = true from rfl)]
      walk_at "wv"
      rw [← eq] at h
      exact h
    | some i =>
      rw [hp] at eq
      unfold optI
      obtain ⟨s, hs, hs0⟩ := pick_some hp
      walk_at "wv"
      rw [if_neg (show ¬ isNone (PyData.int (i : Nat)) = true from Bool.false_ne_true)]
      walk_at "wv"
      refine okTo_eq (a := iL s) (ixD_nat (ds := t.map iL) (j := i) (by rw [List.getElem?_map, hs]; rfl)) ?_
      walk_at "wv"
      refine ⟨by rw [List.length_map]; omega, ?_⟩
      walk_at "wv"
      have li := (List.getElem?_eq_some_iff.mp hs).1
      have c1 : cutD (t.map iL) none (some (i : Int)) = (t.take i).map iL := by rw [cut_to _ i (by rw [List.length_map]; omega), List.map_take]
      have c2 : cutD (t.map iL) (some ((i : Int) + 1)) none = (t.drop (i + 1)).map iL := by
        rw [show ((i : Int) + 1) = ((i + 1 : Nat) : Int) by omega, cut_from _ (i + 1) (by rw [List.length_map]; omega), List.map_drop]
      rw [c1, c2, ← List.map_append, erase_cut t i li]
      have le := List.length_eraseIdx_of_lt li
      have sgd : t.getD i [] = s := by rw [List.getD_eq_getElem?_getD, hs]; rfl
      replace eq : bElim t'.length ((t.eraseIdx i).map fun row => bRow (t.getD i []) row b) (st ++ [t.getD i []]) ((t.getD i []).headD 0) = bElim W.length W [] 1 := eq
      rw [sgd] at eq
      refine ⟨by rw [List.length_map, List.length_map, List.length_take, List.length_drop]; omega, _, rfl, ⟨rfl, by rw [List.length_map]; omega⟩, ?_⟩
      refine lc_ok (fun p acc Z => acc = (((t.eraseIdx i).take p).map fun row => bRow s row b).map iL ∧ Z = [some (.dat (.list (rows.map fun r => .list (r.map dQ)))), some (.dat (.list (right.map dQ))), some (.dat (.list (t.map iL))), some (.own (st.map iL ++ [iL s])), some (.dat (.int b)), some (.dat (.int (i : Nat))), some (.dat (iL s)), none, none]) ?_ ?_ ⟨rfl, rfl⟩
      · rintro p dp acc Z hq ⟨rfl, rfl⟩
        rw [List.getElem?_map] at hq
        obtain ⟨row, hrow, rfl⟩ := Option.map_eq_some_iff.mp hq
        have rm : row ∈ t := List.mem_of_mem_eraseIdx (List.mem_of_getElem? hrow)
        have mu := G.mul gd hp hs row rm
        have rz := z2 row rm
        have sz := (z2 s (List.mem_of_getElem? hs)).1
        obtain ⟨r0, rr, rfl⟩ : ∃ x r, row = x :: r := by
          cases row with
          | nil => exact absurd rfl rz.1
          | cons x r => exact ⟨x, r, rfl⟩
        obtain ⟨s0, sr, rfl⟩ : ∃ x r, s = x :: r := by
          cases s with
          | nil => exact absurd rfl sz
          | cons x r => exact ⟨x, r, rfl⟩
        walk_at "wv"
        refine ⟨rfl, without_ok (by have := rz.2; rw [List.length_cons] at this; omega) z4 mu.1 mu.2 ?_⟩
        walk_at "wv"
        rw [List.take_add_one, hrow, Option.toList_some, List.map_append, List.map_append]
        exact ⟨rfl, by first | trivial | rfl⟩
      rintro acc Z ⟨rfl, rfl⟩
      rw [List.length_map, List.take_length]
      walk_at "wv"
      have sz := (z2 s (List.mem_of_getElem? hs)).1
      have nx := G.next gd hp hs
      obtain ⟨s0, sr, rfl⟩ : ∃ x r, s = x :: r := by
        cases s with
        | nil => exact absurd rfl sz
        | cons x r => exact ⟨x, r, rfl⟩
      refine okTo_eq (a := .int s0) (ixD_nat (ds := (s0 :: sr).map PyData.int) (j := 0) rfl) ?_
      walk_at "wv"
      refine ⟨(t.eraseIdx i).length, by omega, (t.eraseIdx i).map fun row => bRow (s0 :: sr) row b, st ++ [s0 :: sr], s0, some (.int (i : Nat)), some (iL (s0 :: sr)), by rw [List.map_append]; rfl, by rw [List.length_map], nx, ?_⟩
      rw [← eq, List.length_map, le, show t.length - 1 = t'.length by rw [ht]; rfl]
      rfl
end Bo

/-! ### k10: what holds at each turn of solve -/
namespace Bo
open PySem L2
theorem stp_at {m k : Nat} {rs : List RowZ} {r : RowZ} (h : rs[k]? = some r) : (stp m rs)[k]? = some (tRow m k (rs.take k) r) := by
  have lt := (List.getElem?_eq_some_iff.mp h).1
  unfold stp
  rw [List.getElem?_map, List.getElem?_range lt]
  show some (tRow m k (rs.take k) (rs.getD k fun _ => 0)) = _
  rw [List.getD_eq_getElem?_getD, h]
  rfl
theorem stp_len {m : Nat} {rs : List RowZ} : (stp m rs).length = rs.length := by simp [stp]
theorem back_part {n : Nat} {qs : List RowZ} {u : Nat → Rat} {v : Nat → Int} {b : Int} (hq : qs.length = n) (e : Elim (List.range qs.length) (qs.map rQ)) (h : ∀ x ∈ qs.map rQ, Is (List.range n) u n x) (hv : ∀ l, l < n → (v l : Rat) = (b : Rat) * u l) :
    ∀ p, p ≤ n → bBack b ((stp (n + 1) qs).reverse.take p) [] = (List.range' (n - p) p).map v
  | 0, _ => rfl
  | p + 1, hp => by
    have ih := back_part hq e h hv p (by omega)
    have lt : n - (p + 1) < qs.length := by omega
    have hr := List.getElem?_eq_getElem lt
    have st := stp_at (m := n + 1) hr
    have sr : (stp (n + 1) qs).reverse[p]? = some (tRow (n + 1) (n - (p + 1)) (qs.take (n - (p + 1))) qs[n - (p + 1)]) := by
      rw [List.getElem?_reverse (by rw [stp_len]; omega), stp_len, ← st]
      congr 1
      omega
    rw [List.take_add_one, sr, Option.toList_some, bBack_snoc, ih]
    have ek : Elim (List.range (n - (p + 1))) ((qs.take (n - (p + 1))).map rQ) := Elim.cut (qs.length - (n - (p + 1))) _ (by omega) e
    have ek1 := (Elim.cut (qs.length - (n - (p + 1) + 1)) (n - (p + 1) + 1) (by omega) e).ne
    rw [List.take_add_one, hr, Option.toList_some, lapZ_cast, List.range_succ] at ek1
    have p0 : lapZ (List.range (n - (p + 1)) ++ [n - (p + 1)]) (qs.take (n - (p + 1)) ++ [qs[n - (p + 1)]]) ≠ 0 := fun z => ek1 (by rw [z]; rfl)
    have w := back_step ek hr (by omega) h hv p0
    unfold bStep
    rw [show List.range' (n - p) p = List.range' (n - (p + 1) + 1) (n - (n - (p + 1) + 1)) by rw [show n - (p + 1) + 1 = n - p by omega, show n - (n - p) = p by omega], w, List.range'_succ, List.map_cons, show n - (n - (p + 1) + 1) = p by omega]
structure GdT (n B : Nat) (A : List RowZ) (t st : List (List Int)) (b : Int) : Prop where
  ex : ∃ xs rs : List RowZ, t = xs.map (tRow (n + 1) rs.length rs) ∧ st = stp (n + 1) rs ∧ b = lapZ (List.range rs.length) rs ∧ Elim (List.range rs.length) (rs.map rQ) ∧ (rs ++ xs).Perm A
theorem tRow_mem {m k : Nat} {rs : List RowZ} {x : RowZ} {z : Int} (h : z ∈ tRow m k rs x) : ∃ j, z = lapZ (List.range k ++ [j]) (rs ++ [x]) := by
  obtain ⟨j, _, e⟩ := List.mem_map.mp h
  exact ⟨j, e.symm⟩
theorem tRow_len {m k : Nat} {rs : List RowZ} {x : RowZ} : (tRow m k rs x).length = m - k := by simp [tRow]
theorem small_lap {n B : Nat} (hB : ((n + 1) * (B + 1)) ^ (n + 1) < 2 ^ 3000) {cs : List Nat} {rs : List RowZ} (hl : rs.length ≤ n + 1) (hc : cs.length ≤ n + 1) (h : ∀ r ∈ rs, ∀ c, (r c).natAbs ≤ B + 1) : (lapZ cs rs).natAbs < 2 ^ 3000 :=
  Nat.lt_of_le_of_lt (Nat.le_trans (lapZ_bd cs rs hl h) (Nat.pow_le_pow_right (Nat.mul_pos (by omega) (by omega)) hc)) hB
/-- as whole_sol, with the number itself -/
theorem whole_sol2 {cs : List Nat} {rs : List RowZ} {u : Nat → Rat} {j l : Nat} (e : Elim cs (rs.map rQ)) (h : ∀ r ∈ rs.map rQ, Is cs u j r) (hl : l ∈ cs) (hj : j ∉ cs) : ((- lapZ (cs ++ [j]) (rs ++ [unit l]) : Int) : Rat) = (lapZ cs rs : Rat) * u l := by
  obtain ⟨y, k⟩ := e.clr (rQ (unit l))
  have g := k.gap h
  rw [sm_unit cs e.nodup hl] at g
  have z : rQ (unit l) j = 0 := by
    have : j ≠ l := fun q => hj (q ▸ hl)
    simp only [rQ, unit, if_neg this]
    rfl
  have w := k.val e.len j
  rw [show rs.map rQ ++ [rQ (unit l)] = (rs ++ [unit l]).map rQ by simp, lapZ_cast, lapZ_cast] at w
  rw [Rat.intCast_neg, w]
  grind
theorem steady {n B : Nat} {A : List RowZ} (hA : A.length = n) (hn : n ≤ 900) (hB : ((n + 1) * (B + 1)) ^ (n + 1) < 2 ^ 3000) (hb : ∀ x ∈ A, ∀ c, (x c).natAbs ≤ B + 1) : Steady (GdT n B A) where
  size := by
    rintro t st b ⟨xs, rs, rfl, rfl, rfl, e, p⟩
    have l := p.length_eq
    rw [List.length_append, hA] at l
    have bn : lapZ (List.range rs.length) rs ≠ 0 := fun z => e.ne (by rw [lapZ_cast, z]; rfl)
    have bb := small_lap hB (cs := List.range rs.length) (rs := rs) (by omega) (by rw [List.length_range]; omega) fun r hr => hb r (p.mem_iff.mp (List.mem_append_left _ hr))
    refine ⟨by rw [List.length_map]; omega, fun r hr => ?_, by rw [stp_len]; omega, decide_eq_true ⟨bn, Nat.lt_of_lt_of_le bb (Nat.pow_le_pow_right (by decide) (by decide))⟩⟩
    obtain ⟨x, hx, rfl⟩ := List.mem_map.mp hr
    have xl := List.length_pos_of_mem hx
    refine ⟨fun z => ?_, by rw [tRow_len]; omega⟩
    have := congrArg List.length z
    rw [tRow_len, List.length_nil] at this
    omega
  mul := by
    rintro t st b i s ⟨xs, rs, rfl, rfl, rfl, e, p⟩ hp hs row hr
    have l := p.length_eq
    rw [List.length_append, hA] at l
    have sm : ∀ q ∈ xs.map (tRow (n + 1) rs.length rs), ∀ z ∈ q, z.natAbs < 2 ^ 3000 := fun q hq z hz => by
      obtain ⟨x, hx, rfl⟩ := List.mem_map.mp hq
      obtain ⟨j, rfl⟩ := tRow_mem hz
      have xl := List.length_pos_of_mem hx
      refine small_lap hB (by rw [List.length_append, List.length_singleton]; omega) (by rw [List.length_append, List.length_singleton, List.length_range]; omega) fun r hr => hb r (p.mem_iff.mp ?_)
      rcases List.mem_append.mp hr with w | w
      · exact List.mem_append_left _ w
      · rw [List.mem_singleton.mp w]
        exact List.mem_append_right _ hx
    have hd : ∀ q ∈ xs.map (tRow (n + 1) rs.length rs), (q.headD 0).natAbs < 2 ^ 3000 := fun q hq => by
      cases q with
      | nil => exact Nat.pow_pos (by decide)
      | cons z r => exact sm _ hq z List.mem_cons_self
    have ms := List.mem_of_getElem? hs
    exact ⟨fun z hz => cMul3 (hd s ms) (sm row hr z (List.mem_of_mem_tail hz)), fun z hz => cMul3 (hd row hr) (sm s ms z (List.mem_of_mem_tail hz))⟩
  next := by
    rintro t st b i s ⟨xs, rs, rfl, rfl, rfl, e, p⟩ hp hs
    have l := p.length_eq
    rw [List.length_append, hA] at l
    obtain ⟨s', hs', hs0⟩ := pick_some hp
    rw [hs] at hs'
    cases hs'
    rw [List.getElem?_map] at hs
    obtain ⟨r, hr, rfl⟩ := Option.map_eq_some_iff.mp hs
    have xl := List.length_pos_of_mem (List.mem_of_getElem? hr)
    have hm' : rs.length < n + 1 := by omega
    have hd : (tRow (n + 1) rs.length rs r).headD 0 = lapZ (List.range rs.length ++ [rs.length]) (rs ++ [r]) := by rw [tRow_cons hm']; rfl
    rw [hd] at hs0
    obtain ⟨y, ky⟩ := e.clr (rQ r)
    have v := ky.val e.len rs.length
    rw [show rs.map rQ ++ [rQ r] = (rs ++ [r]).map rQ by simp, lapZ_cast] at v
    have sne : y rs.length ≠ 0 := fun z => hs0 (by
      rw [z] at v
      have v' : ((lapZ (List.range rs.length ++ [rs.length]) (rs ++ [r]) : Int) : Rat) = 0 := by rw [v]; grind
      exact_mod_cast v')
    refine ⟨xs.eraseIdx i, rs ++ [r], ?_, ?_, ?_, ?_, ?_⟩
    · rw [erase_map, List.map_map]
      refine List.map_congr_left fun z _ => ?_
      show bRow _ (tRow (n + 1) rs.length rs z) _ = _
      rw [bRow_t e hm' hs0, List.length_append, List.length_singleton]
    · exact stp_app.symm
    · rw [hd, List.length_append, List.length_singleton, List.range_succ]
    · rw [List.length_append, List.length_singleton, List.range_succ, List.map_append]
      exact .step e ky sne (by simp)
    · rw [List.append_assoc]
      exact (List.Perm.append_left rs (erase_perm hr)).trans p
  last := by
    rintro st b ⟨xs, rs, hx, rfl, rfl, e, p⟩
    obtain rfl : xs = [] := List.map_eq_nil_iff.mp hx.symm
    rw [List.append_nil] at p
    have l := p.length_eq
    rw [hA] at l
    have bn : lapZ (List.range rs.length) rs ≠ 0 := fun z => e.ne (by rw [lapZ_cast, z]; rfl)
    have bA : ∀ r ∈ rs, ∀ c, (r c).natAbs ≤ B + 1 := fun r hr => hb r (p.mem_iff.mp hr)
    have bb := small_lap hB (cs := List.range rs.length) (rs := rs) (by omega) (by rw [List.length_range]; omega) bA
    refine ⟨bn, Nat.lt_of_lt_of_le bb (Nat.pow_le_pow_right (by decide) (by decide)), fun s hs => ?_, fun q s hs => ?_⟩
    · obtain ⟨k, _, rfl⟩ := List.mem_map.mp hs
      rw [tRow_len]
      omega
    have lt := (List.getElem?_eq_some_iff.mp hs).1
    rw [List.length_reverse, stp_len] at lt
    have kl : rs.length - 1 - q < rs.length := by omega
    have hr := List.getElem?_eq_getElem kl
    rw [List.getElem?_reverse (by rw [stp_len]; exact lt), stp_len, stp_at hr] at hs
    obtain rfl := Option.some.inj hs
    obtain ⟨u, hu⟩ := e.sol n
    have hv : ∀ i, i < n → ((- lapZ (List.range rs.length ++ [n]) (rs ++ [unit i]) : Int) : Rat) = ((lapZ (List.range rs.length) rs : Int) : Rat) * u i := fun i hi => whole_sol2 e hu (by rw [l]; exact List.mem_range.mpr hi) (by rw [l]; simp)
    have part := back_part (v := fun i => - lapZ (List.range rs.length ++ [n]) (rs ++ [unit i])) l e (by rw [← l]; rw [l]; rw [l] at hu; exact hu) hv q (by omega)
    rw [part]
    have ek1 := (Elim.cut (qs := rs) (rs.length - (rs.length - 1 - q + 1)) (rs.length - 1 - q + 1) (by omega) e).ne
    rw [List.take_add_one, hr, Option.toList_some, lapZ_cast, List.range_succ] at ek1
    have p0 : lapZ (List.range (rs.length - 1 - q) ++ [rs.length - 1 - q]) (rs.take (rs.length - 1 - q) ++ [rs[rs.length - 1 - q]]) ≠ 0 := fun z => ek1 (by rw [z]; rfl)
    have ent : ∀ j, (lapZ (List.range (rs.length - 1 - q) ++ [j]) (rs.take (rs.length - 1 - q) ++ [rs[rs.length - 1 - q]])).natAbs < 2 ^ 3000 := fun j => by
      refine small_lap hB (by rw [List.length_append, List.length_take, List.length_singleton]; omega) (by rw [List.length_append, List.length_range, List.length_singleton]; omega) fun r hr' => bA r ?_
      rcases List.mem_append.mp hr' with w | w
      · exact List.mem_of_mem_take w
      · rw [List.mem_singleton.mp w]
        exact List.getElem_mem kl
    have sm : ∀ z ∈ tRow (n + 1) (rs.length - 1 - q) (rs.take (rs.length - 1 - q)) rs[rs.length - 1 - q], z.natAbs < 2 ^ 3000 := fun z hz => by
      obtain ⟨j, rfl⟩ := tRow_mem hz
      exact ent j
    have vb : ∀ i, (- lapZ (List.range rs.length ++ [n]) (rs ++ [unit i])).natAbs < 2 ^ 3000 := fun i => by
      rw [Int.natAbs_neg]
      refine small_lap hB (by rw [List.length_append, List.length_singleton]; omega) (by rw [List.length_append, List.length_range, List.length_singleton]; omega) fun r hr' c => ?_
      rcases List.mem_append.mp hr' with w | w
      · exact bA r w c
      · rw [List.mem_singleton.mp w]
        unfold unit
        split <;> simp <;> omega
    have tc := tRow_cons (m := n + 1) (k := rs.length - 1 - q) (rs := rs.take (rs.length - 1 - q)) (x := rs[rs.length - 1 - q]) (by omega)
    refine ⟨fun z => ?_, ?_, fun w hw => ?_, fun i => ?_⟩
    · rw [z] at tc
      cases tc
    · refine cMul3 bb ?_
      generalize tRow (n + 1) (rs.length - 1 - q) (rs.take (rs.length - 1 - q)) rs[rs.length - 1 - q] = T at sm
      rw [List.getLastD_eq_getLast?]
      cases hT : T.getLast? with
      | none => exact Nat.pow_pos (by decide)
      | some z => exact sm z (List.mem_of_getLast? hT)
    · obtain ⟨w1, w2⟩ := List.of_mem_zip hw
      obtain ⟨j, _, e2⟩ := List.mem_map.mp w2
      refine cMul3 (sm _ (List.mem_of_mem_tail w1)) ?_
      rw [← e2]
      exact vb j
    · rw [tc, List.headD_cons]
      exact decide_eq_true ⟨p0, Nat.lt_of_lt_of_le (ent _) (Nat.pow_le_pow_right (by decide) (by decide))⟩
end Bo

/-! ### k10: what solve answers -/
namespace Bo
open PySem L2
def rowZ (w : List Int) : RowZ := fun c => w.getD c 0
theorem rowZ_row {w : List Int} : (List.range w.length).map (rowZ w) = w := by
  refine List.ext_getElem? fun i => ?_
  by_cases h : i < w.length
  · rw [List.getElem?_map, List.getElem?_range h]
    show some (w.getD i 0) = _
    rw [List.getD_eq_getElem?_getD, List.getElem?_eq_getElem h]
    rfl
  · rw [List.getElem?_eq_none (by rw [List.length_map, List.length_range]; omega), List.getElem?_eq_none (by omega)]
/-- solve on n whole rows of n + 1 numbers -/
theorem solD_all {n : Nat} {W : List (List Int)} {k : PyData → Prop} (hW : W.length = n) (hw : ∀ w ∈ W, w.length = n + 1)
    (sing : (∃ (c : Nat) (u : Nat → Rat), c < n ∧ ∀ w ∈ W, Is (List.range c) u c (rQ (rowZ w))) → k .none)
    (one : ∀ (u : Nat → Rat) (qs : List RowZ), qs.Perm (W.map rowZ) → Elim (List.range n) (qs.map rQ) → (∀ w ∈ W, Is (List.range n) u n (rQ (rowZ w))) → k (.list ((List.range n).map fun l => dQ (u l)))) : k (solD (bElim W.length W [] 1)) := by
  have t0 : (W.map rowZ).map (tRow (n + 1) 0 []) = W := by
    rw [List.map_map]
    refine Eq.trans (List.map_congr_left fun w h => ?_) (List.map_id W)
    show tRow (n + 1) 0 [] (rowZ w) = w
    rw [tRow_zero, ← hw w h, rowZ_row]
  have r := bElim_ok (m := n + 1) W.length (W.map rowZ) [] (by rw [List.length_map]; exact Nat.le_refl _) (by rw [List.length_nil, List.length_map]; omega) .nil
  rw [show ([] : List RowZ).length = 0 from rfl, t0, show stp (n + 1) [] = [] from rfl, show lapZ (List.range 0) [] = 1 from rfl] at r
  split at r
  · rename_i st b hb
    rw [hb]
    obtain ⟨qs, p, e, rfl, rfl⟩ := r
    rw [List.nil_append] at p
    have l := p.length_eq
    rw [List.length_map, hW] at l
    obtain ⟨u, hu⟩ := e.sol n
    have hv : ∀ i, i < n → ((- lapZ (List.range qs.length ++ [n]) (qs ++ [unit i]) : Int) : Rat) = ((lapZ (List.range qs.length) qs : Int) : Rat) * u i := fun i hi => whole_sol2 e hu (by rw [l]; exact List.mem_range.mpr hi) (by rw [l]; simp)
    have bn : ((lapZ (List.range qs.length) qs : Int) : Rat) ≠ 0 := fun z => e.ne (by rw [lapZ_cast]; exact z)
    have hu' : ∀ x ∈ qs.map rQ, Is (List.range n) u n x := by rw [l] at hu; exact hu
    have bk := back_ok (v := fun i => - lapZ (List.range qs.length ++ [n]) (qs ++ [unit i])) l e hu' hv n (Nat.le_refl n)
    rw [Nat.sub_self, show (stp (n + 1) qs).take n = stp (n + 1) qs by rw [List.take_of_length_le (by rw [stp_len, l]; exact Nat.le_refl _)]] at bk
    have bk' : bBack (lapZ (List.range qs.length) qs) (stp (n + 1) qs).reverse [] = (List.range n).map fun i => - lapZ (List.range qs.length ++ [n]) (qs ++ [unit i]) := bk
    show k (.list ((bBack (lapZ (List.range qs.length) qs) (stp (n + 1) qs).reverse []).map fun v => dQ (Rat.divInt v (lapZ (List.range qs.length) qs))))
    rw [bk', List.map_map]
    have vals : ((List.range n).map ((fun v => dQ (Rat.divInt v (lapZ (List.range qs.length) qs))) ∘ fun i => - lapZ (List.range qs.length ++ [n]) (qs ++ [unit i]))) = (List.range n).map fun i => dQ (u i) := by
      refine List.map_congr_left fun i hi => ?_
      show dQ (Rat.divInt _ _) = _
      rw [Rat.divInt_eq_div, hv i (List.mem_range.mp hi)]
      congr 1
      grind
    rw [vals]
    refine one u qs p (by rw [l] at e; exact e) fun w h => hu' _ (List.mem_map_of_mem (p.mem_iff.mpr (List.mem_map_of_mem h)))
  · rename_i hb
    rw [hb]
    obtain ⟨c, u, hc, hx⟩ := r
    refine sing ⟨c, u, by rw [List.length_map] at hc; omega, fun w h => hx _ (by rw [List.nil_append]; exact List.mem_map_of_mem h)⟩
end Bo

/-! ### the law's products and sums of fractions -/
namespace Bo
open PySem L2
local macro_rules | `(tactic| walk_at "wv1") => `(tactic| (first
  | with_reducible refine w_seq ?_
  | with_reducible refine w_asg ?_
  | ((with_reducible refine w_var (d := ?wd) ?wh ?wq); (case wh => exact rfl))
  | with_reducible refine w_c ?_
  | with_reducible refine w_op ?_
  | with_reducible refine w_un ?_
  | with_reducible refine w_and ?_
  | with_reducible refine w_or ?_
  | with_reducible refine w_not ?_
  | with_reducible refine w_toB ?_
  | with_reducible refine w_toI ?_
  | with_reducible refine w_tst ?_
  | with_reducible refine w_tnot ?_
  | with_reducible refine w_tand ?_
  | with_reducible refine w_tor ?_
  | with_reducible refine w_tru ?_
  | with_reducible refine w_if ?_
  | with_reducible refine w_chain ?_
  | with_reducible refine w_nil ?_
  | with_reducible refine w_cons ?_
  | with_reducible refine w_tup ?_
  | with_reducible refine w_lst ?_
  | with_reducible refine w_lstF ?_
  | with_reducible refine w_call ?_
  | with_reducible refine w_callP ?_
  | with_reducible refine w_callL ?_
  | ((with_reducible refine w_own (ds := ?wd) ?wh ?wq); (case wh => exact rfl))
  | with_reducible refine w_callB ?_
  | ((with_reducible refine w_callS (ns := ?wd) ?wh ?wq); (case wh => exact rfl))
  | with_reducible refine w_consO ?_
  | with_reducible refine w_fr ?_
  | with_reducible refine w_lenO ?_
  | with_reducible refine w_tupleO ?_
  | with_reducible refine w_listO ?_
  | with_reducible refine w_ixO ?_
  | with_reducible refine w_inO ?_
  | with_reducible refine w_truO ?_
  | with_reducible refine w_app ?_
  | with_reducible refine w_setI ?_
  | with_reducible refine w_sl ?_
  | with_reducible refine w_noPart ?_
  | with_reducible refine w_part ?_
  | with_reducible refine w_iter ?_
  | with_reducible refine w_iterT ?_
  | with_reducible refine w_range1 ?_
  | with_reducible refine w_listRg ?_
  | with_reducible refine w_enumK ?_
  | with_reducible refine w_zipK ?_
  | with_reducible refine w_repF ?_
  | with_reducible refine w_lc ?_
  | with_reducible refine w_yes ?_
  | with_reducible refine w_next ?_
  | with_reducible refine w_ret ?_
  | with_reducible refine w_retN ?_
  | with_reducible refine w_drop ?_
  | with_reducible refine w_aName ?_
  | with_reducible refine w_aTup rfl ?_
  | with_reducible refine w_aNil ?_
  | with_reducible refine w_aCons ?_
  | with_reducible refine w_ifS ?_
  | with_reducible refine w_ownS ?_
  | ((with_reducible refine w_frz (ds := ?wd) ?wh ?wq); (case wh => exact rfl))
  | with_reducible refine w_for ?_
  | ((with_reducible refine w_aug (a := ?wd) ?wh ?wq); (case wh => exact rfl))
  | with_reducible refine w_gI ?_
  | with_reducible refine w_gIB ?_
  | with_reducible refine w_gIC ?_
  | with_reducible refine w_gEqI ?_
  | with_reducible refine w_gNeI ?_
  | with_reducible refine w_gIxL ?_
  | with_reducible refine w_gIxT ?_
  | with_reducible refine w_gCat ?_
  | with_reducible refine w_gCatT ?_
  | with_reducible refine w_isN ?_
  | with_reducible refine w_notN ?_
  | with_reducible refine w_gInL ?_
  | with_reducible refine w_gLenL ?_
  | with_reducible refine w_gLenT ?_
  | with_reducible refine w_gIntI ?_
  | with_reducible refine w_gTuple ?_
  | with_reducible refine w_gBools ?_
  | with_reducible refine w_gInts ?_
  | with_reducible refine w_gNeD ?_
  | with_reducible refine w_gEqD ?_
  | with_reducible refine w_gRevL ?_
  | with_reducible refine w_gSlL ?_
  | with_reducible refine w_gSlT ?_
  | with_reducible refine w_itT ?_
  | with_reducible refine w_itF ?_
  | with_reducible refine w_itTT ?_
  | with_reducible refine w_itFT ?_
  | with_reducible refine w_gList ?_
  | with_reducible refine w_gSortI ?_
  | with_reducible refine w_range2 ?_
  | ((with_reducible refine w_lcO (ds := ?wd) ?wh ?wq ?wr); (case wh => exact rfl); (case wq => exact rfl))
  | with_reducible refine w_aUnl rfl ?_
  | with_reducible refine w_listF ?_
  | with_reducible refine w_brk ?_
  | with_reducible refine w_cnt ?_
  | with_reducible refine w_neg ?_
  | with_reducible refine w_gIntB ?_
  | simp only [wipeS, backS, List.set_cons_zero, List.set_cons_succ, List.getElem?_cons_zero, List.getElem?_cons_succ, Option.join_some, Option.join_none, Bool.not_true, Bool.not_false]))
local macro_rules | `(tactic| walk_at "wv") => `(tactic| ((repeat (walk_at "wv1"; try dsimp only)); try simp only [List.set_cons_zero, List.set_cons_succ]))
local macro_rules | `(tactic| walk_at "st") => `(tactic| simp only [startS, List.map_cons, List.map_nil, List.length_cons, List.length_nil, Nat.reduceAdd, Nat.reduceSub, List.replicate_succ, List.replicate_zero, List.cons_append, List.nil_append])

def Bq3 (q : Rat) : Prop := q.num.natAbs < 2 ^ 400 ∧ q.den < 2 ^ 400
theorem mul_lt4 {a b : Nat} (h : a < 2 ^ 400) (g : b < 2 ^ 400) : a * b < 2 ^ 800 := by
  have : a * b < 2 ^ (400 + 400) := by
    rw [Nat.pow_add]
    exact Nat.mul_lt_mul'' h g
  exact this
theorem cMul4 {i j : Int} (h : i.natAbs < 2 ^ 400) (g : j.natAbs < 2 ^ 400) : cMul i j = true := decide_eq_true ⟨Nat.lt_of_lt_of_le h (Nat.pow_le_pow_right (by decide) (by decide)), Nat.lt_of_lt_of_le g (Nat.pow_le_pow_right (by decide) (by decide))⟩
theorem p800 : (2 : Nat) ^ 800 + 2 ^ 800 < 2 ^ 900 := by decide
theorem l_times_ok {q r : Rat} {k : PyData → Prop} (hq : Bq3 q) (hr : Bq3 r) (h : k (dQ (q * r))) : (den_l_times [dQ q, dQ r]).okTo k := by
  have d1 := den_ne q
  have d2 := den_ne r
  have m3 : ∀ i j : Int, i.natAbs < 2 ^ 400 → j.natAbs < 2 ^ 400 → cMul i j = true := fun i j a b => cMul4 a b
  unfold den_l_times body_l_times
  generalize cMul = cm at m3 ⊢
  refine w_denP ?_
  walk_at "st"
  walk_at "wv"
  rw [dq_n q]
  refine okTo_ok.mpr ?_
  walk_at "wv"
  rw [dq_n r]
  refine okTo_ok.mpr ?_
  walk_at "wv"
  refine ⟨m3 _ _ hq.1 hr.1, ?_⟩
  walk_at "wv"
  rw [dq_d q]
  refine okTo_ok.mpr ?_
  walk_at "wv"
  rw [dq_d r]
  refine okTo_ok.mpr ?_
  walk_at "wv"
  refine ⟨m3 _ _ (by rw [Int.natAbs_natCast]; exact hq.2) (by rw [Int.natAbs_natCast]; exact hr.2), ?_⟩
  walk_at "wv"
  have n1 := mul_lt4 hq.1 hr.1
  have n2 := mul_lt4 hq.2 hr.2
  have pp := p800
  refine ⟨rfl, l_ratio_ok (Int.mul_ne_zero d1 d2) (by rw [Int.natAbs_mul]; omega) (by rw [Int.natAbs_mul, Int.natAbs_natCast, Int.natAbs_natCast]; omega) ?_⟩
  rw [q_times]
  exact h
theorem l_plus_ok {q r : Rat} {k : PyData → Prop} (hq : Bq3 q) (hr : Bq3 r) (h : k (dQ (q + r))) : (den_l_plus [dQ q, dQ r]).okTo k := by
  have d1 := den_ne q
  have d2 := den_ne r
  have m3 : ∀ i j : Int, i.natAbs < 2 ^ 400 → j.natAbs < 2 ^ 400 → cMul i j = true := fun i j a b => cMul4 a b
  unfold den_l_plus body_l_plus
  generalize cMul = cm at m3 ⊢
  refine w_denP ?_
  walk_at "st"
  walk_at "wv"
  rw [dq_n q]
  refine okTo_ok.mpr ?_
  walk_at "wv"
  rw [dq_d r]
  refine okTo_ok.mpr ?_
  walk_at "wv"
  refine ⟨m3 _ _ hq.1 (by rw [Int.natAbs_natCast]; exact hr.2), ?_⟩
  walk_at "wv"
  rw [dq_n r]
  refine okTo_ok.mpr ?_
  walk_at "wv"
  rw [dq_d q]
  refine okTo_ok.mpr ?_
  walk_at "wv"
  refine ⟨m3 _ _ hr.1 (by rw [Int.natAbs_natCast]; exact hq.2), ?_⟩
  walk_at "wv"
  rw [dq_d q]
  refine okTo_ok.mpr ?_
  walk_at "wv"
  rw [dq_d r]
  refine okTo_ok.mpr ?_
  walk_at "wv"
  refine ⟨m3 _ _ (by rw [Int.natAbs_natCast]; exact hq.2) (by rw [Int.natAbs_natCast]; exact hr.2), ?_⟩
  walk_at "wv"
  have n1 := mul_lt4 hq.1 hr.2
  have n3 := mul_lt4 hr.1 hq.2
  have n2 := mul_lt4 hq.2 hr.2
  have pp := p800
  have n4 : (q.num * (r.den : Int) + r.num * (q.den : Int)).natAbs < 2 ^ 900 := by
    have e1 : (q.num * (r.den : Int)).natAbs = q.num.natAbs * r.den := by rw [Int.natAbs_mul, Int.natAbs_natCast]
    have e2 : (r.num * (q.den : Int)).natAbs = r.num.natAbs * q.den := by rw [Int.natAbs_mul, Int.natAbs_natCast]
    have := Int.natAbs_add_le (q.num * (r.den : Int)) (r.num * (q.den : Int))
    omega
  refine ⟨rfl, l_ratio_ok (Int.mul_ne_zero d1 d2) n4 (by rw [Int.natAbs_mul, Int.natAbs_natCast, Int.natAbs_natCast]; omega) ?_⟩
  rw [q_plus]
  exact h
theorem Pd.small {s b : Nat} {q : Rat} (hs : s ≠ 0) (h : Pd s b q) : q.num.natAbs ≤ b ∧ q.den ≤ s := by
  obtain ⟨m, rfl, n⟩ := h.eq hs
  have hs' : (s : Int) ≠ 0 := by omega
  have h1 := rN_le (n := m) hs'
  have h2 := rD_le (n := m) hs'
  rw [rN_rat hs'] at h1
  rw [rD_rat hs', Int.natAbs_natCast, Int.natAbs_natCast] at h2
  exact ⟨by omega, h2⟩
theorem Pd.b3 {s b : Nat} {q : Rat} (hs : s ≠ 0) (h : Pd s b q) (h1 : b < 2 ^ 400) (h2 : s < 2 ^ 400) : Bq3 q :=
  let ⟨x, y⟩ := h.small hs
  ⟨Nat.lt_of_le_of_lt x h1, Nat.lt_of_le_of_lt y h2⟩
abbrev dL2 (r : List Rat) : PyData := .list (r.map dQ)
abbrev dM (rows : List (List Rat)) : PyData := .list (rows.map dL2)
theorem Pd.dvd {s b : Nat} {q : Rat} (hs : s ≠ 0) (h : Pd s b q) : q.den ∣ s := by
  obtain ⟨m, rfl, n⟩ := h.eq hs
  have hs' : (s : Int) ≠ 0 := by omega
  have e := rD_rat (n := m) hs'
  have g : ((Int.gcd m s : Nat) : Int) ∣ (s : Int) := Int.gcd_dvd_right m s
  obtain ⟨c, hc⟩ := g
  have gp := gcd_pos (n := m) hs'
  have e2 : rD m s = c := by
    unfold rD
    rw [Int.natAbs_natCast]
    exact ediv_of (by omega) hc
  rw [e2] at e
  rw [e] at hc
  exact Int.natCast_dvd_natCast.mp ⟨((Int.gcd m s : Nat) : Int), hc.trans (Int.mul_comm _ _)⟩
theorem one_Q : PyData.tuple [.int 1, .int 1] = dQ 1 := by
  unfold dQ
  rfl
theorem zero_Q : PyData.tuple [.int 0, .int 1] = dQ 0 := by
  unfold dQ
  rfl
theorem ite_joinA {α : Type} {c : Prop} [Decidable c] {x y : R α} {k P : α → Prop} (h : ∀ fl, P fl → k fl) (h1 : c → x.okTo P) (h2 : ¬ c → y.okTo P) : if c then x.okTo k else y.okTo k := by
  by_cases q : c
  · rw [if_pos q]
    exact (h1 q).mono h
  · rw [if_neg q]
    exact (h2 q).mono h
/-! data that can be compared -/
def Shp (n : Nat) (d : PyData) : Prop := d.canLay0 = true ∧ d.depth ≤ n
theorem shp_all {n : Nat} : ∀ {ds : List PyData}, (∀ d ∈ ds, Shp n d) → PyData.canLayAll0 ds = true ∧ PyData.depthAll ds ≤ n
  | [], _ => ⟨rfl, Nat.zero_le n⟩
  | d :: ds, h => by
    obtain ⟨a, b⟩ := h d List.mem_cons_self
    obtain ⟨a2, b2⟩ := shp_all (ds := ds) fun x hx => h x (List.mem_cons_of_mem d hx)
    exact ⟨by rw [PyData.canLayAll0, a, a2]; rfl, by rw [PyData.depthAll]; exact Nat.max_le.mpr ⟨b, b2⟩⟩
theorem shp_list {n : Nat} {ds : List PyData} (h : ∀ d ∈ ds, Shp n d) : Shp (n + 1) (.list ds) := by
  obtain ⟨a, b⟩ := shp_all h
  exact ⟨by rw [PyData.canLay0, a], by rw [PyData.depth]; omega⟩
theorem shp_tuple {n : Nat} {ds : List PyData} (h : ∀ d ∈ ds, Shp n d) : Shp (n + 1) (.tuple ds) := by
  obtain ⟨a, b⟩ := shp_all h
  exact ⟨by rw [PyData.canLay0, a], by rw [PyData.depth]; omega⟩
theorem shp_int {n : Nat} (i : Int) : Shp n (.int i) := ⟨rfl, by rw [PyData.depth]; omega⟩
theorem shp_Q (q : Rat) : Shp 1 (dQ q) := by
  unfold dQ
  refine shp_tuple fun d hd => ?_
  simp only [List.mem_cons, List.not_mem_nil, or_false] at hd
  rcases hd with rfl | rfl <;> exact shp_int _
theorem shp_L2 (r : List Rat) : Shp 2 (dL2 r) := shp_list fun d hd => by
  obtain ⟨q, _, rfl⟩ := List.mem_map.mp hd
  exact shp_Q q
theorem shp_M (rows : List (List Rat)) : Shp 3 (dM rows) := shp_list fun d hd => by
  obtain ⟨q, _, rfl⟩ := List.mem_map.mp hd
  exact shp_L2 q
theorem Shp.ok {n : Nat} {d : PyData} (h : Shp n d) (hn : n ≤ 64) : SeqAt.shaped d = true := by
  unfold SeqAt.shaped
  rw [h.1, decide_eq_true (Nat.le_trans h.2 hn)]
  rfl
theorem Shp.same {n : Nat} {d : PyData} (h : Shp n d) : PyData.eqv d d = true := SeqAt.eqv_refl d h.1
theorem dn_Q {n : Nat} (q : Rat) : Dn (n + 1) (dQ q) := by
  unfold dQ
  refine .tup (by simp) fun d hd => ?_
  simp only [List.mem_cons, List.not_mem_nil, or_false] at hd
  rcases hd with rfl | rfl <;> exact .int _ _
theorem ne_same {d : PyData} (h : PyData.eqv d d = true ∧ SeqAt.shaped d = true) : gNeD d d = .ok (.bool false) := by
  unfold gNeD
  rw [h.1, h.2]
  rfl
theorem shp_L (l : List Int) : Shp 1 (dL l) := by
  unfold dL
  refine shp_list fun d hd => ?_
  obtain ⟨i, _, rfl⟩ := List.mem_map.mp hd
  exact shp_int i
end Bo

/-! ### solve, told of its fractions: none where a column is made of those before it, else the one solution -/
namespace Bo
open PySem L2
theorem lcms_dvd {s : Nat} : ∀ {qs : List Rat}, (∀ q ∈ qs, q.den ∣ s) → lcms qs ∣ s := by
  intro qs
  unfold lcms
  have go : ∀ (qs : List Rat) (c : Nat), c ∣ s → (∀ q ∈ qs, q.den ∣ s) → qs.foldl (fun c q => Nat.lcm c q.den) c ∣ s := by
    intro qs
    induction qs with
    | nil => exact fun c h _ => h
    | cons q qs ih => exact fun c h g => ih _ (Nat.lcm_dvd h (g q List.mem_cons_self)) fun x hx => g x (List.mem_cons_of_mem q hx)
  exact go qs 1 (Nat.one_dvd s)
theorem dvd_lcms {qs : List Rat} {q : Rat} (h : q ∈ qs) : q.den ∣ lcms qs := by
  unfold lcms
  have keep : ∀ (qs : List Rat) (c : Nat), c ∣ qs.foldl (fun c q => Nat.lcm c q.den) c := by
    intro qs
    induction qs with
    | nil => exact fun c => Nat.dvd_refl c
    | cons q qs ih => exact fun c => Nat.dvd_trans (Nat.dvd_lcm_left c q.den) (ih _)
  have go : ∀ (qs : List Rat) (c : Nat), q ∈ qs → q.den ∣ qs.foldl (fun c q => Nat.lcm c q.den) c := by
    intro qs
    induction qs with
    | nil => exact fun c h => nomatch h
    | cons x qs ih =>
      intro c h
      rcases List.mem_cons.mp h with rfl | h
      · exact Nat.dvd_trans (Nat.dvd_lcm_right c q.den) (keep qs _)
      · exact ih _ h
  exact go qs 1 h
theorem lcms_ne {qs : List Rat} : lcms qs ≠ 0 := by
  unfold lcms
  have go : ∀ (qs : List Rat) (c : Nat), c ≠ 0 → qs.foldl (fun c q => Nat.lcm c q.den) c ≠ 0 := by
    intro qs
    induction qs with
    | nil => exact fun c h => h
    | cons q qs ih => exact fun c h => ih _ (Nat.lcm_ne_zero h q.den_nz)
  exact go qs 1 (by decide)
theorem whole_cast {qs : List Rat} {q : Rat} (h : q ∈ qs) : ((q.num * Int.fdiv (lcms qs : Int) (q.den : Int) : Int) : Rat) = (lcms qs : Rat) * q := by
  obtain ⟨c, hc⟩ := dvd_lcms h
  have dn := den_ne q
  have e : Int.fdiv (lcms qs : Int) (q.den : Int) = (c : Int) := fdiv_of dn (by rw [hc, Int.natCast_mul])
  rw [e, hc, Rat.intCast_mul, Rat.intCast_natCast, Rat.natCast_mul]
  have : q = (q.num : Rat) / (q.den : Rat) := by
    have := num_den q
    rw [Rat.intCast_natCast] at this
    exact this.symm
  have dq : (q.den : Rat) ≠ 0 := by exact_mod_cast q.den_nz
  grind
theorem whole_at {qs : List Rat} {c : Nat} (h : c < qs.length) : ((rowZ (whole qs) c : Int) : Rat) = (lcms qs : Rat) * qs.getD c 0 := by
  unfold rowZ whole
  rw [List.getD_eq_getElem?_getD, List.getElem?_map, List.getElem?_eq_getElem h, List.getD_eq_getElem?_getD, List.getElem?_eq_getElem h]
  exact whole_cast (List.getElem_mem h)
theorem sm_scale {u : Nat → Rat} {x y : Row} {t : Rat} : ∀ cs : List Nat, (∀ c ∈ cs, y c = t * x c) → sm u y cs = t * sm u x cs
  | [], _ => by simp only [sm]; grind
  | c :: cs, h => by
    simp only [sm, h c List.mem_cons_self, sm_scale (u := u) cs fun d hd => h d (List.mem_cons_of_mem c hd)]
    grind
/-- the number of row i at c -/
def cell (rows : List (List Rat)) (i c : Nat) : Rat := (rows.getD i []).getD c 0
def colsOf (rows : List (List Rat)) (n : Nat) : List Row := (List.range n).map fun c => fun i => cell rows i c
theorem ldet_cols {n : Nat} {rows : List (List Rat)} (h1 : rows.length = n) (h2 : ∀ r ∈ rows, r.length = n) : ldet n rows = lap (List.range n) (colsOf rows n) := by
  have e := ldet_lap n 0 (colsOf rows n) (by simp [colsOf])
  rw [← List.range_eq_range'] at e
  rw [← e]
  congr 1
  refine List.ext_getElem? fun i => ?_
  by_cases hi : i < n
  · rw [List.getElem?_map, List.getElem?_range hi, List.getElem?_eq_getElem (by omega), Option.map_some]
    congr 1
    unfold colsOf
    rw [List.map_map]
    have li := h2 _ (List.getElem_mem (show i < rows.length by omega))
    refine List.ext_getElem? fun c => ?_
    by_cases hc : c < n
    · rw [List.getElem?_map, List.getElem?_range hc, List.getElem?_eq_getElem (by omega), Option.map_some]
      congr 1
      show _ = cell rows i c
      unfold cell
      rw [List.getD_eq_getElem?_getD, List.getD_eq_getElem?_getD, List.getElem?_eq_getElem (show i < rows.length by omega), Option.getD_some, List.getElem?_eq_getElem (by omega)]
      rfl
    · rw [List.getElem?_eq_none (by omega), List.getElem?_eq_none (by simp; omega)]
  · rw [List.getElem?_eq_none (by omega), List.getElem?_eq_none (by simp; omega)]
/-- what solve is asked with: n rows of n fractions and n of them on the right, whose whole rows stay small -/
structure Asked (n B : Nat) (rows : List (List Rat)) (right : List Rat) : Prop where
  len : rows.length = n
  row : ∀ r ∈ rows, r.length = n
  rgt : right.length = n
  few : n ≤ 900
  lcm : ∀ p ∈ rows.zip right, ∀ i, lcms ((p.1 ++ [p.2]).take i) < 2 ^ 3000
  num : ∀ p ∈ rows.zip right, ∀ q ∈ p.1 ++ [p.2], q.den < 2 ^ 3000 ∧ q.num.natAbs < 2 ^ 3000
  bnd : ∀ p ∈ rows.zip right, ∀ z ∈ whole (p.1 ++ [p.2]), z.natAbs ≤ B
  pow : ((n + 1) * (B + 1)) ^ (n + 1) < 2 ^ 3000
def wOf (rows : List (List Rat)) (right : List Rat) : List (List Int) := (rows.zip right).map fun p => whole (p.1 ++ [p.2])
theorem getD_small {w : List Int} {B : Nat} (h : ∀ z ∈ w, z.natAbs ≤ B) (c : Nat) : (w.getD c 0).natAbs ≤ B := by
  rw [List.getD_eq_getElem?_getD]
  by_cases q : c < w.length
  · rw [List.getElem?_eq_getElem q]
    exact h _ (List.getElem_mem q)
  · rw [List.getElem?_eq_none (by omega)]
    exact Nat.zero_le B
theorem Asked.zip {n B : Nat} {rows : List (List Rat)} {right : List Rat} (a : Asked n B rows right) {i : Nat} (hi : i < n) : (rows.zip right)[i]? = some (rows.getD i [], right.getD i 0) := by
  have h1 := a.len
  have h2 := a.rgt
  rw [List.getElem?_zip_eq_some]
  rw [List.getD_eq_getElem?_getD, List.getD_eq_getElem?_getD, List.getElem?_eq_getElem (show i < rows.length by omega), List.getElem?_eq_getElem (show i < right.length by omega)]
  exact ⟨rfl, rfl⟩
theorem Asked.at_ {n B : Nat} {rows : List (List Rat)} {right : List Rat} (a : Asked n B rows right) {i : Nat} (hi : i < n) : (wOf rows right)[i]? = some (whole (rows.getD i [] ++ [right.getD i 0])) := by
  unfold wOf
  rw [List.getElem?_map, a.zip hi]
  rfl
theorem Asked.get {n B : Nat} {rows : List (List Rat)} {right : List Rat} (a : Asked n B rows right) {i : Nat} (hi : i < n) : (wOf rows right).getD i [] = whole (rows.getD i [] ++ [right.getD i 0]) := by
  rw [List.getD_eq_getElem?_getD, a.at_ hi]
  rfl
theorem Asked.wlen {n B : Nat} {rows : List (List Rat)} {right : List Rat} (a : Asked n B rows right) : (wOf rows right).length = n := by
  unfold wOf
  rw [List.length_map, List.length_zip, a.len, a.rgt, Nat.min_self]
theorem Asked.rlen {n B : Nat} {rows : List (List Rat)} {right : List Rat} (a : Asked n B rows right) {i : Nat} (hi : i < n) : (rows.getD i []).length = n := by
  rw [List.getD_eq_getElem?_getD, List.getElem?_eq_getElem (show i < rows.length by have := a.len; omega)]
  exact a.row _ (List.getElem_mem _)
/-- the number of the whole row i at c -/
theorem Asked.cell {n B : Nat} {rows : List (List Rat)} {right : List Rat} (a : Asked n B rows right) {i c : Nat} (hi : i < n) (hc : c < n) : ((rowZ ((wOf rows right).getD i []) c : Int) : Rat) = (lcms (rows.getD i [] ++ [right.getD i 0]) : Rat) * cell rows i c := by
  have rl := a.rlen hi
  rw [List.getD_eq_getElem?_getD, a.at_ hi, Option.getD_some, whole_at (by rw [List.length_append, List.length_singleton]; omega)]
  congr 1
  unfold Bo.cell
  rw [List.getD_eq_getElem?_getD, List.getElem?_append_left (by omega), ← List.getD_eq_getElem?_getD]
theorem Asked.last {n B : Nat} {rows : List (List Rat)} {right : List Rat} (a : Asked n B rows right) {i : Nat} (hi : i < n) : ((rowZ ((wOf rows right).getD i []) n : Int) : Rat) = (lcms (rows.getD i [] ++ [right.getD i 0]) : Rat) * right.getD i 0 := by
  have rl := a.rlen hi
  rw [List.getD_eq_getElem?_getD, a.at_ hi, Option.getD_some, whole_at (by rw [List.length_append, List.length_singleton]; omega)]
  congr 1
  rw [List.getD_eq_getElem?_getD, List.getElem?_append_right (by omega), rl, Nat.sub_self]
  rfl
theorem Asked.mem {n B : Nat} {rows : List (List Rat)} {right : List Rat} (a : Asked n B rows right) {w : List Int} (h : w ∈ wOf rows right) : ∃ i, i < n ∧ w = (wOf rows right).getD i [] := by
  obtain ⟨i, hi, rfl⟩ := List.getElem_of_mem h
  refine ⟨i, by have := a.wlen; omega, ?_⟩
  rw [List.getD_eq_getElem?_getD, List.getElem?_eq_getElem hi]
  rfl
theorem Asked.isw {n B : Nat} {rows : List (List Rat)} {right : List Rat} (a : Asked n B rows right) {i : Nat} (hi : i < n) : (wOf rows right).getD i [] ∈ wOf rows right := by
  rw [List.getD_eq_getElem?_getD, List.getElem?_eq_getElem (by rw [a.wlen]; exact hi)]
  exact List.getElem_mem _
theorem Asked.scaled {n B : Nat} {rows : List (List Rat)} {right : List Rat} (a : Asked n B rows right) : lap (List.range n) ((List.range n).map fun k => rQ fun i => rowZ ((wOf rows right).getD i []) k) = prd (fun i => (lcms (rows.getD i [] ++ [right.getD i 0]) : Rat)) (List.range n) * lap (List.range n) (colsOf rows n) := by
  rw [← lap_scale, colsOf, List.map_map]
  rw [← lap_only ((List.range n).map fun k => rQ fun i => rowZ ((wOf rows right).getD i []) k), ← lap_only ((List.range n).map _)]
  congr 1
  rw [List.map_map, List.map_map]
  refine List.map_congr_left fun k hk => ?_
  funext i
  show only (List.range n) _ i = only (List.range n) _ i
  unfold only
  by_cases q : i ∈ List.range n
  · rw [if_pos q, if_pos q]
    exact a.cell (List.mem_range.mp q) (List.mem_range.mp hk)
  · rw [if_neg q, if_neg q]
theorem Asked.unscale {n B : Nat} {rows : List (List Rat)} {right : List Rat} (_ : Asked n B rows right) (i : Nat) : (lcms (rows.getD i [] ++ [right.getD i 0]) : Rat) ≠ 0 := by
  exact_mod_cast lcms_ne
theorem solve_all {n B : Nat} {rows : List (List Rat)} {right : List Rat} {k : PyData → Prop} (a : Asked n B rows right)
    (sing : lap (List.range n) (colsOf rows n) = 0 → (∃ (c : Nat) (u : Nat → Rat), c < n ∧ ∀ i, i < n → cell rows i c = sm u (cell rows i) (List.range c)) → k .none)
    (one : ∀ (u : Nat → Rat), lap (List.range n) (colsOf rows n) ≠ 0 → (∀ i, i < n → right.getD i 0 = sm u (cell rows i) (List.range n)) → (∃ (b : Int) (v : Nat → Int), b ≠ 0 ∧ b.natAbs ≤ ((n + 1) * (B + 1)) ^ (n + 1) ∧ ∀ l, l < n → (v l).natAbs ≤ ((n + 1) * (B + 1)) ^ (n + 1) ∧ (b : Rat) * u l = (v l : Rat)) → k (dL2 ((List.range n).map u))) :
    (den_solve [dM rows, dL2 right]).okTo k := by
  have hA : ((wOf rows right).map rowZ).length = n := by rw [List.length_map, a.wlen]
  have hb : ∀ x ∈ (wOf rows right).map rowZ, ∀ c, (x c).natAbs ≤ B + 1 := fun x hx c => by
    obtain ⟨w, hw, rfl⟩ := List.mem_map.mp hx
    obtain ⟨p, hp, rfl⟩ := List.mem_map.mp hw
    exact Nat.le_succ_of_le (getD_small (a.bnd p hp) c)
  have ww : ∀ w ∈ wOf rows right, w.length = n + 1 := fun w hw => by
    obtain ⟨p, hp, rfl⟩ := List.mem_map.mp hw
    have := a.row p.1 (List.of_mem_zip hp).1
    unfold whole
    rw [List.length_map, List.length_append, List.length_singleton, this]
  have cast0 : ∀ z : Int, (z : Rat) = 0 → z = 0 := fun z h => by exact_mod_cast h
  refine solve_ok (steady hA a.few a.pow hb) (by rw [a.len]; exact Nat.le_trans a.few (by decide)) (fun p hp k' hk => whole_ok (by rw [List.length_append, List.length_singleton, a.row p.1 (List.of_mem_zip hp).1]; have := a.few; omega) (a.lcm p hp) (a.num p hp) hk) (fun p hp => by rw [a.row p.1 (List.of_mem_zip hp).1]; exact Nat.le_trans a.few (by decide)) ?_ ?_
  · refine ⟨(wOf rows right).map rowZ, [], ?_, rfl, rfl, .nil, List.Perm.refl _⟩
    show wOf rows right = _
    rw [List.map_map]
    refine ((List.map_congr_left fun w h => ?_).trans (List.map_id _)).symm
    show tRow (n + 1) 0 [] (rowZ w) = w
    rw [tRow_zero, ← ww w h, rowZ_row]
  show k (solD (bElim (wOf rows right).length (wOf rows right) [] 1))
  refine solD_all (n := n) (W := wOf rows right) a.wlen ww ?_ ?_
  · rintro ⟨c, u, hc, hu⟩
    have dep : ∀ i, i < n → cell rows i c = sm u (cell rows i) (List.range c) := fun i hi => by
      have e : rQ (rowZ ((wOf rows right).getD i [])) c = sm u (rQ (rowZ ((wOf rows right).getD i []))) (List.range c) := hu _ (a.isw hi)
      have e1 := a.cell hi hc
      rw [sm_scale (x := cell rows i) (y := rQ (rowZ ((wOf rows right).getD i []))) (t := (lcms (rows.getD i [] ++ [right.getD i 0]) : Rat)) (List.range c) fun d hd => a.cell hi (Nat.lt_trans (List.mem_range.mp hd) hc)] at e
      have ne := a.unscale i
      have e2 : (lcms (rows.getD i [] ++ [right.getD i 0]) : Rat) * cell rows i c = (lcms (rows.getD i [] ++ [right.getD i 0]) : Rat) * sm u (cell rows i) (List.range c) := e1.symm.trans e
      grind
    refine sing ?_ ⟨c, u, hc, dep⟩
    have z := cols_zero (A := fun i => rowZ ((wOf rows right).getD i [])) (u := u) hc fun i hi => hu _ (a.isw hi)
    rw [a.scaled] at z
    exact (Rat.mul_eq_zero.mp z).resolve_left (prd_ne _ fun i _ => a.unscale i)
  · intro u qs p e hu
    have wr : (wOf rows right).map rowZ = (List.range n).map fun i => rowZ ((wOf rows right).getD i []) := by
      refine List.ext_getElem? fun i => ?_
      by_cases hi : i < n
      · rw [List.getElem?_map, List.getElem?_map, List.getElem?_range hi, a.at_ hi, Option.map_some, Option.map_some, a.get hi]
      · rw [List.getElem?_eq_none (by omega), List.getElem?_eq_none (by simp; omega)]
    have ql := p.length_eq
    rw [hA] at ql
    have det := cols_ne (A := fun i => rowZ ((wOf rows right).getD i [])) (wr ▸ p) e
    rw [a.scaled] at det
    have d0 : lap (List.range n) (colsOf rows n) ≠ 0 := fun z => det (by rw [z, Rat.mul_zero])
    have qb : ∀ r ∈ qs, ∀ c, (r c).natAbs ≤ B + 1 := fun r hr c => hb r (p.mem_iff.mp hr) c
    have p1 : 0 < (n + 1) * (B + 1) := Nat.mul_pos (by omega) (by omega)
    have us : ∀ r ∈ qs.map rQ, Is (List.range n) u n r := fun r hr => by
      obtain ⟨x, hx, rfl⟩ := List.mem_map.mp hr
      obtain ⟨w, hw, rfl⟩ := List.mem_map.mp (p.mem_iff.mp hx)
      exact hu w hw
    have res := one u d0 (fun i hi => ?_) ⟨lapZ (List.range n) qs, fun l => - lapZ (List.range n ++ [n]) (qs ++ [unit l]), fun z => e.ne (by rw [lapZ_cast, z]; rfl), ?_, fun l hl => ⟨?_, ?_⟩⟩
    · rw [dL2, List.map_map] at res
      exact res
    · have e1 : rQ (rowZ ((wOf rows right).getD i [])) n = sm u (rQ (rowZ ((wOf rows right).getD i []))) (List.range n) := hu _ (a.isw hi)
      rw [sm_scale (x := cell rows i) (y := rQ (rowZ ((wOf rows right).getD i []))) (t := (lcms (rows.getD i [] ++ [right.getD i 0]) : Rat)) (List.range n) fun d hd => a.cell hi (List.mem_range.mp hd)] at e1
      have e2 := a.last hi
      have ne := a.unscale i
      have e3 : (lcms (rows.getD i [] ++ [right.getD i 0]) : Rat) * right.getD i 0 = (lcms (rows.getD i [] ++ [right.getD i 0]) : Rat) * sm u (cell rows i) (List.range n) := e2.symm.trans e1
      grind
    · refine Nat.le_trans (lapZ_bd (N := n + 1) (List.range n) qs (by omega) qb) (Nat.pow_le_pow_right p1 (by rw [List.length_range]; omega))
    · rw [Int.natAbs_neg]
      refine Nat.le_trans (lapZ_bd (N := n + 1) (B := B + 1) (List.range n ++ [n]) (qs ++ [unit l]) (by rw [List.length_append, List.length_singleton]; omega) fun r hr c => ?_) (Nat.pow_le_pow_right p1 (by rw [List.length_append, List.length_range]; exact Nat.le_refl _))
      rcases List.mem_append.mp hr with w | w
      · exact qb r w c
      · rw [List.mem_singleton.mp w]
        unfold unit
        split <;> omega
    · exact (whole_sol2 e us (List.mem_range.mpr hl) (by simp)).symm
end Bo

/-! ### lists by place; members -/
namespace Bo
open PySem L2
def fL {α : Type} (n : Nat) (f : Nat → α) : List α := (List.range n).map f
theorem fL_set {α : Type} {n i : Nat} {f : Nat → α} {x : α} : (fL n f).set i x = fL n fun k => if k = i then x else f k := by
  refine List.ext_getElem? fun k => ?_
  unfold fL
  rw [List.getElem?_set, List.getElem?_map, List.getElem?_map, List.length_map, List.length_range]
  by_cases hk : k < n
  · rw [List.getElem?_range hk]
    by_cases e : i = k
    · subst e
      rw [if_pos rfl, if_pos hk, Option.map_some, if_pos rfl]
    · rw [if_neg e, Option.map_some, Option.map_some, if_neg fun z => e z.symm]
  · rw [List.getElem?_eq_none (by rw [List.length_range]; omega)]
    by_cases e : i = k
    · subst e
      rw [if_pos rfl, if_neg hk]
      rfl
    · rw [if_neg e]
      rfl
theorem fL_congr {α : Type} {n : Nat} {f g : Nat → α} (h : ∀ k, k < n → f k = g k) : fL n f = fL n g := List.map_congr_left fun k hk => h k (List.mem_range.mp hk)
theorem map_fL {α β : Type} {n : Nat} {l : List α} {g : α → β} {d : α} (h : l.length = n) : l.map g = fL n fun i => g (l.getD i d) := by
  refine List.ext_getElem? fun k => ?_
  unfold fL
  rw [List.getElem?_map, List.getElem?_map]
  by_cases hk : k < n
  · rw [List.getElem?_range hk, List.getElem?_eq_getElem (by omega), Option.map_some, Option.map_some, List.getD_eq_getElem?_getD, List.getElem?_eq_getElem (by omega)]
    rfl
  · rw [List.getElem?_eq_none (by omega), List.getElem?_eq_none (by rw [List.length_range]; omega)]
    rfl
theorem fL_len {α : Type} {n : Nat} {f : Nat → α} : (fL n f).length = n := by simp [fL]
theorem gLen_y {y : List (List Cho)} : gLen [dY y] = .ok (.int (y.length : Nat)) := by
  show R.ok (PyData.int ((y.map dS).length : Nat)) = _
  rw [List.length_map]
theorem gLen_s {s : List Cho} : gLen [dS s] = .ok (.int (s.length : Nat)) := by
  show R.ok (PyData.int ((s.map dC).length : Nat)) = _
  rw [List.length_map]
theorem in_tg {i : Int} {tg : List Int} : gIn false (.int i) (dL tg) = .ok (.bool (decide (i ∈ tg))) := by
  unfold gIn dL
  show R.when (flatD (.int i) = true ∧ (tg.map PyData.int).all flatD = true) _ = _
  rw [inD_int]
  exact if_pos ⟨rfl, flat_ints tg⟩
theorem in_tgN {i : Int} {tg : List Int} : gIn true (.int i) (dL tg) = .ok (.bool (!decide (i ∈ tg))) := by
  unfold gIn dL
  show R.when (flatD (.int i) = true ∧ (tg.map PyData.int).all flatD = true) _ = _
  rw [inD_int]
  exact if_pos ⟨rfl, flat_ints tg⟩
end Bo

/-! ### elimination upwards and downwards, rows divided by their leading numbers: what its rows are -/
namespace Bo
theorem Spn.smul {rs : List Row} {z : Row} (a : Rat) (s : Spn rs z) : Spn rs fun j => a * z j := by
  have := Spn.plus a (Spn.zero (rs := rs)) s
  have e : rAdd (fun _ => 0) z a = fun j => a * z j := by
    funext j
    simp only [rAdd]
    grind
  rwa [e] at this
theorem Clr.spn {cs : List Nat} {rs : List Row} {x y : Row} (k : Clr cs rs x y) : Spn (rs ++ [x]) y := by
  obtain ⟨⟨z, s, e⟩, _⟩ := k
  have h0 : Spn (rs ++ [x]) (rAdd (fun _ => 0) x 1) := .add 1 (List.mem_append_right _ List.mem_cons_self) .zero
  have h := Spn.plus (-1) h0 s.more
  have e2 : rAdd (rAdd (fun _ => 0) x 1) z (-1) = y := by
    funext j
    have : x j = y j + 1 * z j := by rw [e]; rfl
    simp only [rAdd]
    grind
  rwa [e2] at h
/-- behind c columns: m rows R, made of whole rows W; the first c are units on these columns, the others are cleared of them -/
structure J (m c : Nat) (R : Nat → Row) (rs : List RowZ) (xs : Nat → RowZ) (L : Nat → Rat) (W : List RowZ) : Prop where
  le : c ≤ m
  e : Elim (List.range c) (rs.map rQ)
  low : ∀ k, k < c → Spn (rs.map rQ) (R k) ∧ ∀ d, d < c → R k d = if d = k then 1 else 0
  high : ∀ k, c ≤ k → k < m → L k ≠ 0 ∧ ∃ y, Clr (List.range c) (rs.map rQ) (rQ (xs k)) y ∧ R k = fun j => L k * y j
  cov : ∀ w ∈ W, w ∈ rs ∨ ∃ k, c ≤ k ∧ k < m ∧ w = xs k
  rin : ∀ r ∈ rs, r ∈ W
  xin : ∀ k, c ≤ k → k < m → xs k ∈ W
theorem J.start {m : Nat} {R : Nat → Row} {xs : Nat → RowZ} {L : Nat → Rat} {W : List RowZ} (hL : ∀ k, k < m → L k ≠ 0) (hR : ∀ k, k < m → R k = fun j => L k * rQ (xs k) j) (hc : ∀ w ∈ W, ∃ k, k < m ∧ w = xs k) (hx : ∀ k, k < m → xs k ∈ W) : J m 0 R [] xs L W where
  le := Nat.zero_le m
  e := .nil
  low := fun k h => absurd h (Nat.not_lt_zero k)
  high := fun k _ hk => ⟨hL k hk, rQ (xs k), ⟨⟨fun _ => 0, .zero, by funext j; simp only [rAdd]; grind⟩, fun d hd => by simp at hd⟩, hR k hk⟩
  cov := fun w hw => let ⟨k, hk, e⟩ := hc w hw; .inr ⟨k, Nat.zero_le k, hk, e⟩
  rin := fun r h => nomatch h
  xin := fun k _ hk => hx k hk
def gjStep (R : Nat → Row) (c f : Nat) : Nat → Row := fun k =>
  if k = c then (fun j => R f j / R f c) else rAdd (if k = f then R c else R k) (fun j => R f j / R f c) (-((if k = f then R c else R k) c))
theorem J.step {m c f : Nat} {R : Nat → Row} {rs : List RowZ} {xs : Nat → RowZ} {L : Nat → Rat} {W : List RowZ} (h : J m c R rs xs L W) (h1 : c ≤ f) (h2 : f < m) (h3 : R f c ≠ 0) :
    J m (c + 1) (gjStep R c f) (rs ++ [xs f]) (fun k => if k = f then xs c else xs k) (fun k => if k = f then L c else L k) W := by
  obtain ⟨lf, y, ky, ey⟩ := h.high f h1 h2
  have yc : y c ≠ 0 := fun z => h3 (by rw [ey]; show L f * y c = 0; rw [z, Rat.mul_zero])
  have hmap : (rs ++ [xs f]).map rQ = rs.map rQ ++ [rQ (xs f)] := by simp
  have ch : (fun j => R f j / R f c) = fun j => y j / y c := by
    funext j
    rw [ey]
    show L f * y j / (L f * y c) = _
    grind
  have chs : Spn (rs.map rQ ++ [rQ (xs f)]) fun j => y j / y c := by
    have := Spn.smul (1 / y c) ky.spn
    have e : (fun j => 1 / y c * y j) = fun j => y j / y c := by
      funext j
      grind
    rwa [e] at this
  have cho : ∀ d, d < c → y d / y c = 0 := fun d hd => by
    rw [ky.out d (List.mem_range.mpr hd)]
    grind
  refine ⟨by omega, ?_, ?_, ?_, ?_, ?_, ?_⟩
  · rw [hmap, List.range_succ]
    exact .step h.e ky yc (by simp)
  · intro k hk
    rw [hmap]
    unfold gjStep
    by_cases e : k = c
    · subst e
      rw [if_pos rfl, ch]
      refine ⟨chs, fun d hd => ?_⟩
      by_cases q : d = k
      · subst q
        rw [if_pos rfl]
        grind
      · rw [if_neg q]
        have e2 : R f d / R f k = y d / y k := congrFun ch d
        exact e2.trans (cho d (by omega))
    · rw [if_neg e]
      have kf : ¬ k = f := by omega
      simp only [if_neg kf]
      obtain ⟨s, u⟩ := h.low k (by omega)
      rw [ch]
      refine ⟨Spn.plus _ s.more chs, fun d hd => ?_⟩
      simp only [rAdd]
      by_cases q : d = c
      · subst q
        rw [if_neg fun z => e z.symm]
        have : y d / y d = 1 := by grind
        rw [this]
        grind
      · rw [cho d (by omega), u d (by omega)]
        grind
  · intro k hk1 hk2
    have kc : ¬ k = c := by omega
    unfold gjStep
    rw [if_neg kc, hmap, List.range_succ, ch]
    have go : ∀ (x : RowZ) (l : Rat) (r : Row), (l ≠ 0 ∧ ∃ y', Clr (List.range c) (rs.map rQ) (rQ x) y' ∧ r = fun j => l * y' j) → l ≠ 0 ∧ ∃ y', Clr (List.range c ++ [c]) (rs.map rQ ++ [rQ (xs f)]) (rQ x) y' ∧ rAdd r (fun j => y j / y c) (-(r c)) = fun j => l * y' j := by
      rintro x l r ⟨hl, y', k', rfl⟩
      refine ⟨hl, _, k'.step ky yc, ?_⟩
      funext j
      simp only [rAdd]
      grind
    by_cases e : k = f
    · subst e
      simp only [if_pos]
      exact go (xs c) (L c) (R c) (h.high c (Nat.le_refl c) (by omega))
    · simp only [if_neg e]
      exact go (xs k) (L k) (R k) (h.high k (by omega) hk2)
  · intro w hw
    rcases h.cov w hw with q | ⟨k, q1, q2, q3⟩
    · exact .inl (List.mem_append_left _ q)
    · by_cases e : k = f
      · subst e
        exact .inl (List.mem_append_right _ (List.mem_singleton.mpr q3))
      · by_cases e2 : k = c
        · subst e2
          exact .inr ⟨f, by omega, h2, by rw [if_pos rfl]; exact q3⟩
        · exact .inr ⟨k, by omega, q2, by rw [if_neg e]; exact q3⟩
  · intro r hr
    rcases List.mem_append.mp hr with q | q
    · exact h.rin r q
    · rw [List.mem_singleton.mp q]
      exact h.xin f h1 h2
  · intro k hk1 hk2
    split
    · exact h.xin c (Nat.le_refl c) (by omega)
    · exact h.xin k (by omega) hk2
/-- no row with a number in the column: the column is made of those before it -/
theorem J.stop {m c : Nat} {R : Nat → Row} {rs : List RowZ} {xs : Nat → RowZ} {L : Nat → Rat} {W : List RowZ} (h : J m c R rs xs L W) (z : ∀ k, c ≤ k → k < m → R k c = 0) : ∃ v : Nat → Rat, ∀ w ∈ W, Is (List.range c) v c (rQ w) := by
  obtain ⟨v, hv⟩ := h.e.sol c
  refine ⟨v, fun w hw => ?_⟩
  rcases h.cov w hw with q | ⟨k, q1, q2, rfl⟩
  · exact hv _ (List.mem_map_of_mem q)
  · obtain ⟨l, y, ky, ey⟩ := h.high k q1 q2
    have g := ky.gap hv
    have y0 : y c = 0 := by
      have := z k q1 q2
      rw [ey] at this
      have this : L k * y c = 0 := this
      exact (Rat.mul_eq_zero.mp this).resolve_left l
    rw [y0] at g
    show rQ (xs k) c = sm v (rQ (xs k)) (List.range c)
    grind
theorem sm_one {u : Nat → Rat} {r : Row} {k : Nat} : ∀ n, (∀ d, d < n → r d = if d = k then 1 else 0) → sm u r (List.range n) = if k < n then u k else 0
  | 0, _ => by simp [sm]
  | n + 1, h => by
    rw [List.range_succ, sm_app, sm_one n fun d hd => h d (by omega)]
    simp only [sm]
    rw [h n (by omega)]
    by_cases e : n = k
    · subst e
      rw [if_pos rfl, if_neg (by omega), if_pos (by omega)]
      grind
    · rw [if_neg e]
      by_cases q : k < n
      · rw [if_pos q, if_pos (by omega)]
        grind
      · rw [if_neg q, if_neg (by omega)]
        grind
/-- behind all columns: the last numbers are the solution -/
theorem J.done {m : Nat} {R : Nat → Row} {rs : List RowZ} {xs : Nat → RowZ} {L : Nat → Rat} {W : List RowZ} {u : Nat → Rat} (h : J m m R rs xs L W) (hu : ∀ w ∈ W, Is (List.range m) u m (rQ w)) {k : Nat} (hk : k < m) : R k m = u k := by
  obtain ⟨s, d⟩ := h.low k hk
  have i : Is (List.range m) u m (R k) := Is.sp (fun r hr => by
    obtain ⟨w, hw, rfl⟩ := List.mem_map.mp hr
    exact hu w (h.rin w hw)) s
  have i' : R k m = sm u (R k) (List.range m) := i
  rw [i', sm_one m d, if_pos hk]
/-! how great the numbers are -/
def Frac (M : Nat) (q : Rat) : Prop := ∃ a b : Int, b ≠ 0 ∧ a.natAbs ≤ M ∧ b.natAbs ≤ M ∧ q = (a : Rat) / (b : Rat)
theorem J.lead {m c B : Nat} {R : Nat → Row} {rs : List RowZ} {xs : Nat → RowZ} {L : Nat → Rat} {W : List RowZ} (h : J m c R rs xs L W) : lapZ (List.range c) rs ≠ 0 := fun z => h.e.ne (by rw [lapZ_cast, z]; rfl)
theorem J.rlen {m c : Nat} {R : Nat → Row} {rs : List RowZ} {xs : Nat → RowZ} {L : Nat → Rat} {W : List RowZ} (h : J m c R rs xs L W) : rs.length = c := by
  have := h.e.len
  rwa [List.length_map, List.length_range] at this
theorem lap_small {m c B : Nat} {rs : List RowZ} {x : RowZ} {j : Nat} (hc : c ≤ m) (hl : rs.length = c) (hb : ∀ r ∈ rs, ∀ d, (r d).natAbs ≤ B + 1) (hx : ∀ d, (x d).natAbs ≤ B + 1) : (lapZ (List.range c ++ [j]) (rs ++ [x])).natAbs ≤ ((m + 1) * (B + 1)) ^ (m + 1) := by
  refine Nat.le_trans (lapZ_bd (N := m + 1) (B := B + 1) _ _ (by rw [List.length_append, List.length_singleton]; omega) fun r hr d => ?_) (Nat.pow_le_pow_right (Nat.mul_pos (by omega) (by omega)) (by rw [List.length_append, List.length_singleton, List.length_range]; omega))
  rcases List.mem_append.mp hr with q | q
  · exact hb r q d
  · rw [List.mem_singleton.mp q]
    exact hx d
theorem lap_small0 {m c B : Nat} {rs : List RowZ} (hc : c ≤ m) (hl : rs.length = c) (hb : ∀ r ∈ rs, ∀ d, (r d).natAbs ≤ B + 1) : (lapZ (List.range c) rs).natAbs ≤ ((m + 1) * (B + 1)) ^ (m + 1) :=
  Nat.le_trans (lapZ_bd (N := m + 1) (B := B + 1) _ _ (by omega) hb) (Nat.pow_le_pow_right (Nat.mul_pos (by omega) (by omega)) (by rw [List.length_range]; omega))
/-- a cleared row's numbers, over the leading number -/
theorem clr_frac {cs : List Nat} {rs : List RowZ} {x : RowZ} {y : Row} (e : Elim cs (rs.map rQ)) (k : Clr cs (rs.map rQ) (rQ x) y) (j : Nat) : y j = ((lapZ (cs ++ [j]) (rs ++ [x]) : Int) : Rat) / ((lapZ cs rs : Int) : Rat) := by
  have v := k.val e.len j
  rw [show rs.map rQ ++ [rQ x] = (rs ++ [x]).map rQ by simp, lapZ_cast, lapZ_cast] at v
  have ne : ((lapZ cs rs : Int) : Rat) ≠ 0 := fun z => e.ne (by rw [lapZ_cast, z])
  rw [v]
  grind
theorem Frac.mono {M N : Nat} {q : Rat} (h : Frac M q) (l : M ≤ N) : Frac N q :=
  let ⟨a, b, h1, h2, h3, h4⟩ := h
  ⟨a, b, h1, Nat.le_trans h2 l, Nat.le_trans h3 l, h4⟩
theorem Frac.zero {M : Nat} (h : 1 ≤ M) : Frac M 0 := ⟨0, 1, by decide, Nat.zero_le M, h, by
  have : ((1 : Int) : Rat) = 1 := rfl
  rw [this]
  have : ((0 : Int) : Rat) = 0 := rfl
  rw [this]
  grind⟩
theorem Frac.one {M : Nat} (h : 1 ≤ M) : Frac M 1 := ⟨1, 1, by decide, h, h, by
  have : ((1 : Int) : Rat) = 1 := rfl
  rw [this]
  grind⟩
def bigM (m B : Nat) : Nat := ((m + 1) * (B + 1)) ^ (m + 1)
theorem bigM_pos (m B : Nat) : 1 ≤ bigM m B := Nat.pow_pos (Nat.mul_pos (by omega) (by omega))
theorem unit_small {k B d : Nat} : (unit k d).natAbs ≤ B + 1 := by
  unfold unit
  split <;> omega
theorem J.low_frac {m c B : Nat} {R : Nat → Row} {rs : List RowZ} {xs : Nat → RowZ} {L : Nat → Rat} {W : List RowZ} (h : J m c R rs xs L W) (hb : ∀ w ∈ W, ∀ d, (w d).natAbs ≤ B + 1) {k : Nat} (hk : k < c) (j : Nat) : Frac (bigM m B) (R k j) := by
  obtain ⟨s, d⟩ := h.low k hk
  by_cases jc : j < c
  · rw [d j jc]
    split
    · exact .one (bigM_pos m B)
    · exact .zero (bigM_pos m B)
  have jk : j ≠ k := by omega
  have cl : Clr (List.range c) (rs.map rQ) (rQ (unit k)) fun j => rQ (unit k) j - R k j := by
    refine ⟨⟨R k, s, ?_⟩, fun e he => ?_⟩
    · funext j
      simp only [rAdd]
      grind
    · have e1 := d e (List.mem_range.mp he)
      show rQ (unit k) e - R k e = 0
      rw [e1]
      simp only [rQ, unit]
      by_cases q : e = k
      · rw [if_pos q, if_pos q]
        have : ((1 : Int) : Rat) = 1 := rfl
        rw [this]
        grind
      · rw [if_neg q, if_neg q]
        have : ((0 : Int) : Rat) = 0 := rfl
        rw [this]
        grind
  have v := clr_frac h.e cl j
  have u0 : rQ (unit k) j = 0 := by
    simp only [rQ, unit, if_neg jk]
    rfl
  have v' : rQ (unit k) j - R k j = ((lapZ (List.range c ++ [j]) (rs ++ [unit k]) : Int) : Rat) / ((lapZ (List.range c) rs : Int) : Rat) := v
  rw [u0] at v'
  refine ⟨- lapZ (List.range c ++ [j]) (rs ++ [unit k]), lapZ (List.range c) rs, h.lead (B := B), ?_, ?_, ?_⟩
  · rw [Int.natAbs_neg]
    exact lap_small h.le h.rlen (fun r hr => hb r (h.rin r hr)) fun d => unit_small
  · exact lap_small0 h.le h.rlen fun r hr => hb r (h.rin r hr)
  · rw [Rat.intCast_neg]
    grind
theorem J.high_frac {m c B s : Nat} {R : Nat → Row} {rs : List RowZ} {xs : Nat → RowZ} {L : Nat → Rat} {W : List RowZ} (h : J m c R rs xs L W) (hb : ∀ w ∈ W, ∀ d, (w d).natAbs ≤ B + 1) {k : Nat} (h1 : c ≤ k) (h2 : k < m) {l : Nat} (hl : l ≠ 0) (ls : l ≤ s) (eL : L k = 1 / (l : Rat)) (j : Nat) : Frac (bigM m B * s) (R k j) := by
  obtain ⟨_, y, ky, ey⟩ := h.high k h1 h2
  have v := clr_frac h.e ky j
  have ld := h.lead (B := B)
  have ln : ((lapZ (List.range c) rs : Int) : Rat) ≠ 0 := by exact_mod_cast ld
  have lr : (l : Rat) ≠ 0 := by exact_mod_cast hl
  have s1 : 1 ≤ s := by omega
  refine ⟨lapZ (List.range c ++ [j]) (rs ++ [xs k]), lapZ (List.range c) rs * (l : Int), Int.mul_ne_zero ld (by omega), ?_, ?_, ?_⟩
  · exact Nat.le_trans (lap_small h.le h.rlen (fun r hr => hb r (h.rin r hr)) fun d => hb _ (h.xin k h1 h2) d) (Nat.le_mul_of_pos_right _ s1)
  · rw [Int.natAbs_mul, Int.natAbs_natCast]
    exact Nat.mul_le_mul (lap_small0 h.le h.rlen fun r hr => hb r (h.rin r hr)) ls
  · rw [ey]
    show L k * y j = _
    rw [v, eL, Rat.intCast_mul, Rat.intCast_natCast]
    grind
theorem J.cho_frac {m c B : Nat} {R : Nat → Row} {rs : List RowZ} {xs : Nat → RowZ} {L : Nat → Rat} {W : List RowZ} (h : J m c R rs xs L W) (hb : ∀ w ∈ W, ∀ d, (w d).natAbs ≤ B + 1) {f : Nat} (h1 : c ≤ f) (h2 : f < m) (h3 : R f c ≠ 0) (j : Nat) : Frac (bigM m B) (R f j / R f c) := by
  obtain ⟨l, y, ky, ey⟩ := h.high f h1 h2
  have v := clr_frac h.e ky j
  have vc := clr_frac h.e ky c
  have ld := h.lead (B := B)
  have ln : ((lapZ (List.range c) rs : Int) : Rat) ≠ 0 := by exact_mod_cast ld
  have yc : y c ≠ 0 := fun z => h3 (by rw [ey]; show L f * y c = 0; rw [z, Rat.mul_zero])
  have top : lapZ (List.range c ++ [c]) (rs ++ [xs f]) ≠ 0 := fun z => yc (by
    rw [vc, z]
    have : ((0 : Int) : Rat) = 0 := rfl
    rw [this]
    grind)
  have tr : ((lapZ (List.range c ++ [c]) (rs ++ [xs f]) : Int) : Rat) ≠ 0 := by exact_mod_cast top
  refine ⟨lapZ (List.range c ++ [j]) (rs ++ [xs f]), lapZ (List.range c ++ [c]) (rs ++ [xs f]), top, ?_, ?_, ?_⟩
  · exact lap_small h.le h.rlen (fun r hr => hb r (h.rin r hr)) fun d => hb _ (h.xin f h1 h2) d
  · exact lap_small h.le h.rlen (fun r hr => hb r (h.rin r hr)) fun d => hb _ (h.xin f h1 h2) d
  · rw [ey]
    show L f * y j / (L f * y c) = _
    rw [v, vc]
    grind
/-- what stays of the rows' divisors -/
def Lok (m c s : Nat) (L : Nat → Rat) : Prop := ∀ k, c ≤ k → k < m → ∃ l : Nat, l ≠ 0 ∧ l ≤ s ∧ L k = 1 / (l : Rat)
theorem Lok.step {m c s f : Nat} {L : Nat → Rat} (h : Lok m c s L) (h1 : c ≤ f) (h2 : f < m) : Lok m (c + 1) s fun k => if k = f then L c else L k := fun k hk1 hk2 => by
  by_cases e : k = f
  · simp only [if_pos e]
    exact h c (Nat.le_refl c) (by omega)
  · simp only [if_neg e]
    exact h k (by omega) hk2
end Bo

/-! ### chains: the worth of the program's defs, as gen2 reads them -/
namespace Bo
open PySem L2
noncomputable section
def body_chain_of : VS :=
    (vRet (vCall gTuple (vCons (vFr (vLc [2, 3] (vEnumK .T (vCons (vVar 0) vNil)) (aTup 2 (aCons (aName 2) (aCons (aName 3) aNil))) vYes (vTup (vCons (vOp gIxT (vVar 3) (vOp gIxT (vVar 1) (vVar 2))) vNil)))) vNil)))
def den_chain_of := denP 4 body_chain_of
def body_at_targets : VS :=
    (vRet (vFr (vLc [4] (vRange1 (vCons (vCall gLen (vCons (vVar 0) vNil)) vNil)) (aName 4) vYes (vIf (vTst (vOp (gIn false) (vVar 4) (vVar 1))) (vVar 2) (vVar 3)))))
def den_at_targets := denP 5 body_at_targets
def body_moves : VS :=
    (vSeq (vAsg (vOp gIxT (vOp gIxT (vVar 0) (vVar 1)) (vVar 2)) (aTup 2 (aCons (aName 4) (aCons (aName 5) aNil))))
    (vSeq (vAsg (vCall (gInts fun ns => .int ns.sum) (vCons (vFr (vLc [6, 7] (vIterT (vVar 5)) (aTup 2 (aCons (aName 6) (aCons (aName 7) aNil))) vYes (vVar 7))) vNil)) (aName 3))
    (vRet (vFr (vLc [6, 7] (vIterT (vVar 5)) (aTup 2 (aCons (aName 6) (aCons (aName 7) aNil))) vYes (vTup (vCons (vVar 6) (vCons (vCallP 2 den_ratio (vCons (vVar 7) (vCons (vVar 3) vNil))) vNil))))))))
def den_moves := denP 8 body_moves
def body_own_row : VS :=
    (vSeq (vDictL 3 (vCallP 3 den_moves (vCons (vVar 0) (vCons (vVar 2) (vCons (vC (.int 0)) vNil)))))
    (vSeq (vOwn 4 (vLstF vNil))
    (vSeq (vFor (vIter (vVar 1)) (aName 5) (vSeq (vAsg (vIf (vTst (vOp gEq (vVar 5) (vVar 2))) (vTup (vCons (vC (.int 1)) (vCons (vC (.int 1)) vNil))) (vTup (vCons (vC (.int 0)) (vCons (vC (.int 1)) vNil)))) (aName 6))
    (vDrop (vApp 4 (vCallP 2 den_minus (vCons (vVar 6) (vCons (vGet2 3 (vVar 5) (vTup (vCons (vC (.int 0)) (vCons (vC (.int 1)) vNil)))) vNil)))))))
    (vFrz 4 (vRet (vVar 4))))))
def den_own_row := denP 7 body_own_row
def body_outside_part : VS :=
    (vSeq (vAsg (vOp gIxL (vVar 3) (vVar 4)) (aName 5))
    (vSeq (vFor (vIter (vCallP 3 den_moves (vCons (vVar 0) (vCons (vVar 4) (vCons (vC (.int 0)) vNil))))) (aTup 2 (aCons (aName 6) (aCons (aName 7) aNil))) (vIfS (vTst (vOp (gIn true) (vVar 6) (vVar 2))) (vAsg (vCallP 2 den_plus (vCons (vVar 5) (vCons (vCallP 2 den_times (vCons (vVar 7) (vCons (vOp gIxL (vVar 1) (vVar 6)) vNil))) vNil))) (aName 5)) vNext))
    (vRet (vVar 5))))
def den_outside_part := denP 8 body_outside_part
def body_settled : VS :=
    (vSeq (vOwn 4 (vListF (vVar 1)))
    (vSeq (vAsg (vCallP 2 den_solve (vCons (vFr (vLc [6] (vIter (vVar 2)) (aName 6) vYes (vCallP 3 den_own_row (vCons (vVar 0) (vCons (vVar 2) (vCons (vVar 6) vNil)))))) (vCons (vFr (vLc [6] (vIter (vVar 2)) (aName 6) vYes (vCallP 5 den_outside_part (vCons (vVar 0) (vCons (vVar 1) (vCons (vVar 2) (vCons (vVar 3) (vCons (vVar 6) vNil)))))))) vNil))) (aName 5))
    (vSeq (vFor (vZipK .L .L (vCons (vVar 2) (vCons (vVar 5) vNil))) (aTup 2 (aCons (aName 6) (aCons (aName 7) aNil))) (vSetI 4 (vVar 6) (vVar 7)))
    (vFrz 4 (vRet (vVar 4))))))
def den_settled := denP 8 body_settled
end
end Bo

/-! ### k16: the worth of its defs, as gen2 reads them -/
namespace Bo
open PySem L2
noncomputable section
def body_l_backward : VS :=
    (vSeq (vOwn 3 (vListF (vVar 2)))
    (vSeq (vFor (vRange1 (vCons (vCall gLen (vCons (vVar 0) vNil)) vNil)) (aName 4) (vFor (vIter (vVar 1)) (aName 5) (vIfS (tAndF (vTst (vInO true (vVar 5) 3)) (vTst (vOp (gIB fun i j => decide (j < i)) (vCall gLen (vCons (vFr (vLc [6] (vIter (vOp gIxT (vOp gIxL (vVar 0) (vVar 5)) (vC (.int 1)))) (aName 6) (vTst (vInO false (vOp gIxT (vVar 6) (vC (.int 0))) 3)) (vVar 6))) vNil)) (vC (.int 0))))) (vDrop (vApp 3 (vVar 5))) vNext)))
    (vFrz 3 (vRet (vVar 3)))))
def den_l_backward := denP 7 body_l_backward
def body_l_solve : VS :=
    (vSeq (vOwn 2 (vLc [7] (vRange1 (vCons (vCall gLen (vCons (vVar 0) vNil)) vNil)) (aName 7) vYes (vOp gCat (vCall gList (vCons (vOp gIxL (vVar 0) (vVar 7)) vNil)) (vLst (vCons (vOp gIxL (vVar 1) (vVar 7)) vNil)))))
    (vSeq (vAsg (vLenO 2) (aName 3))
    (vSeq (vFor (vRange1 (vCons (vVar 3) vNil)) (aName 4) (vSeq (vAsg (vFr (vLc [7] (vRange2 (vCons (vVar 4) (vCons (vVar 3) vNil))) (aName 7) (vTst (vOp gNe (vOp gIxT (vOp gIxL (vIxO 2 (vVar 7)) (vVar 4)) (vC (.int 0))) (vC (.int 0)))) (vVar 7))) (aName 5))
    (vSeq (vIfS (vTst (vOp gEq (vCall gLen (vCons (vVar 5) vNil)) (vC (.int 0)))) (vRet (vC .none)) vNext)
    (vSeq (vAsg (vIxO 2 (vOp gIxL (vVar 5) (vC (.int 0)))) (aName 6))
    (vSeq (vSetI 2 (vOp gIxL (vVar 5) (vC (.int 0))) (vIxO 2 (vVar 4)))
    (vSeq (vAsg (vFr (vLc [9] (vIter (vVar 6)) (aName 9) vYes (vCallP 2 den_l_over (vCons (vVar 9) (vCons (vOp gIxL (vVar 6) (vVar 4)) vNil))))) (aName 6))
    (vSeq (vSetI 2 (vVar 4) (vVar 6))
    (vFor (vRange1 (vCons (vVar 3) vNil)) (aName 7) (vIfS (tAndF (vTst (vOp gNe (vVar 7) (vVar 4))) (vTst (vOp gNe (vOp gIxT (vOp gIxL (vIxO 2 (vVar 7)) (vVar 4)) (vC (.int 0))) (vC (.int 0))))) (vSeq (vAsg (vTup (vCons (vOp (gI fun i j => i - j) (vC (.int 0)) (vOp gIxT (vOp gIxL (vIxO 2 (vVar 7)) (vVar 4)) (vC (.int 0)))) (vCons (vOp gIxT (vOp gIxL (vIxO 2 (vVar 7)) (vVar 4)) (vC (.int 1))) vNil))) (aName 10))
    (vSetI 2 (vVar 7) (vFr (vLc [11] (vRange1 (vCons (vOp (gI fun i j => i + j) (vVar 3) (vC (.int 1))) vNil)) (aName 11) vYes (vCallP 2 den_l_plus (vCons (vOp gIxL (vIxO 2 (vVar 7)) (vVar 11)) (vCons (vCallP 2 den_l_times (vCons (vVar 10) (vCons (vOp gIxL (vVar 6) (vVar 11)) vNil))) vNil))))))) vNext)))))))))
    (vRet (vFr (vLcO false 2 [8] (aName 8) vYes (vOp gIxL (vVar 8) (vUn gNeg (vC (.int 1))))))))))
def den_l_solve := denP 12 body_l_solve
def body_l_filled : VS :=
    (vSeq (vOwn 4 (vLstF vNil))
    (vSeq (vOwn 5 (vLstF vNil))
    (vSeq (vFor (vIter (vVar 1)) (aName 6) (vSeq (vOwn 10 (vLc [14] (vIter (vVar 1)) (aName 14) vYes (vTup (vCons (vCall gInt (vCons (vOp gEq (vVar 14) (vVar 6)) vNil)) (vCons (vC (.int 1)) vNil)))))
    (vSeq (vAsg (vOp gIxL (vVar 3) (vVar 6)) (aName 11))
    (vSeq (vFor (vIter (vOp gIxT (vOp gIxL (vVar 0) (vVar 6)) (vC (.int 1)))) (aTup 2 (aCons (aName 12) (aCons (aName 13) aNil))) (vIfS (vTst (vOp (gIn false) (vVar 12) (vVar 1))) (vSeq (vAsg (vIndex (vVar 1) (vVar 12)) (aName 15))
    (vSetI 10 (vVar 15) (vCallP 2 den_l_plus (vCons (vIxO 10 (vVar 15)) (vCons (vTup (vCons (vOp (gI fun i j => i - j) (vC (.int 0)) (vOp gIxT (vVar 13) (vC (.int 0)))) (vCons (vOp gIxT (vVar 13) (vC (.int 1))) vNil))) vNil))))) (vAsg (vCallP 2 den_l_plus (vCons (vVar 11) (vCons (vCallP 2 den_l_times (vCons (vVar 13) (vCons (vOp gIxL (vVar 2) (vVar 12)) vNil))) vNil))) (aName 11))))
    (vSeq (vFrz 10 (vDrop (vApp 4 (vVar 10))))
    (vDrop (vApp 5 (vVar 11))))))))
    (vSeq (vFrz 4 (vFrz 5 (vAsg (vCallP 2 den_l_solve (vCons (vVar 4) (vCons (vVar 5) vNil))) (aName 7))))
    (vSeq (vOwn 8 (vListF (vVar 2)))
    (vSeq (vFor (vRange1 (vCons (vCall gLen (vCons (vVar 1) vNil)) vNil)) (aName 9) (vSetI 8 (vOp gIxL (vVar 1) (vVar 9)) (vOp gIxL (vVar 7) (vVar 9))))
    (vFrz 8 (vRet (vVar 8)))))))))
def den_l_filled := denP 16 body_l_filled
def body_l_chances : VS :=
    (vSeq (vAsg (vCall gLen (vCons (vVar 0) vNil)) (aName 3))
    (vSeq (vAsg (vFr (vLc [7] (vRange1 (vCons (vVar 3) vNil)) (aName 7) (tAndF (vTst (vOp (gIn false) (vVar 7) (vVar 1))) (vTst (vOp (gIn true) (vVar 7) (vVar 2)))) (vVar 7))) (aName 4))
    (vSeq (vAsg (vCallP 3 den_l_backward (vCons (vVar 0) (vCons (vVar 4) (vCons (vVar 2) vNil)))) (aName 5))
    (vSeq (vAsg (vFr (vLc [7] (vRange1 (vCons (vVar 3) vNil)) (aName 7) vYes (vTup (vCons (vCall gInt (vCons (vOp (gIn false) (vVar 7) (vVar 2)) vNil)) (vCons (vC (.int 1)) vNil))))) (aName 6))
    (vRet (vCallP 4 den_l_filled (vCons (vVar 0) (vCons (vFr (vLc [7] (vIter (vVar 4)) (aName 7) (vTst (vOp (gIn false) (vVar 7) (vVar 5))) (vVar 7))) (vCons (vVar 6) (vCons (vOp gRep (vLst (vCons (vTup (vCons (vC (.int 0)) (vCons (vC (.int 1)) vNil))) vNil)) (vVar 3)) vNil))))))))))
def den_l_chances := denP 8 body_l_chances
def body_l_thin : VS :=
    (vSeq (vOwn 2 (vLstF vNil))
    (vSeq (vFor (vRange1 (vCons (vVar 1) vNil)) (aName 3) (vSeq (vOwn 4 (vLstF vNil))
    (vSeq (vFor (vRange1 (vCons (vOp (gI fun i j => i + j) (vC (.int 1)) (vCallB 1 den_l_take 0 (vCons (vC (.int 2)) vNil))) vNil)) (aName 5) (vSeq (vNewD 6)
    (vSeq (vFor (vRange1 (vCons (vOp (gI fun i j => i + j) (vC (.int 1)) (vCallB 1 den_l_take 0 (vCons (vC (.int 2)) vNil))) vNil)) (aName 7) (vPutD 6 (vOp gIxL (vLst (vCons (vOp (gIC cMod Int.fmod) (vCall gInt (vCons (vOp (gI fun i j => i + j) (vVar 3) (vC (.int 1))) vNil)) (vVar 1)) (vCons (vCallB 1 den_l_take 0 (vCons (vVar 1) vNil)) vNil))) (vCallB 1 den_l_take 0 (vCons (vC (.int 2)) vNil))) (vOp (gI fun i j => i + j) (vC (.int 1)) (vCallB 1 den_l_take 0 (vCons (vC (.int 2)) vNil)))))
    (vDrop (vApp 4 (vTup (vCons (vCallB 1 den_l_take 0 (vCons (vC (.int 1001)) vNil)) (vCons (vCall gTuple (vCons (vFr (vSortK 6)) vNil)) vNil))))))))
    (vDrop (vApp 2 (vTupleO 4))))))
    (vRet (vTupleO 2))))
def den_l_thin := denB 8 body_l_thin
def body_l_chain : VS :=
    (vSeq (vOwn 2 (vLstF vNil))
    (vSeq (vFor (vRange1 (vCons (vCall gLen (vCons (vVar 0) vNil)) vNil)) (aName 3) (vSeq (vAsg (vOp gIxT (vOp gIxT (vVar 0) (vVar 3)) (vOp gIxT (vVar 1) (vVar 3))) (aTup 2 (aCons (aName 5) (aCons (aName 6) aNil))))
    (vSeq (vAsg (vCall (gInts fun ns => .int ns.sum) (vCons (vFr (vLc [7] (vIterT (vVar 6)) (aName 7) vYes (vOp gIxT (vVar 7) (vC (.int 1))))) vNil)) (aName 4))
    (vDrop (vApp 2 (vTup (vCons (vVar 5) (vCons (vFr (vLc [7] (vIterT (vVar 6)) (aName 7) vYes (vTup (vCons (vOp gIxT (vVar 7) (vC (.int 0))) (vCons (vCallP 2 den_l_ratio (vCons (vOp gIxT (vVar 7) (vC (.int 1))) (vCons (vVar 4) vNil))) vNil))))) vNil))))))))
    (vFrz 2 (vRet (vVar 2)))))
def den_l_chain := denP 8 body_l_chain
def body_policy_chances : VS :=
    (vSeq (vAsg (vCallP 2 den_chain_of (vCons (vVar 0) (vCons (vVar 1) vNil))) (aName 4))
    (vSeq (vAsg (vCallP 4 den_at_targets (vCons (vVar 4) (vCons (vVar 3) (vCons (vTup (vCons (vC (.int 1)) (vCons (vC (.int 1)) vNil))) (vCons (vTup (vCons (vC (.int 0)) (vCons (vC (.int 1)) vNil))) vNil))))) (aName 5))
    (vSeq (vAsg (vFr (vLc [7] (vIter (vCallP 3 den_possible (vCons (vVar 4) (vCons (vVar 2) (vCons (vVar 3) vNil))))) (aName 7) (vTst (vOp (gIn true) (vVar 7) (vVar 3))) (vVar 7))) (aName 6))
    (vRet (vCallP 4 den_settled (vCons (vVar 4) (vCons (vVar 5) (vCons (vVar 6) (vCons (vOp gRep (vLst (vCons (vTup (vCons (vC (.int 0)) (vCons (vC (.int 1)) vNil))) vNil)) (vCall gLen (vCons (vVar 4) vNil))) vNil)))))))))
def den_policy_chances := denP 8 body_policy_chances
def body_law : VS :=
    (vSeq (vOwn 1 (vLstF (vCons (vCallS den_l_tape 0) (vCons (vC (.int 0)) vNil))))
    (vSeq (vFor (vRange1 (vCons (vC (.int 3)) vNil)) (aName 2) (vSeq (vAsg (vCallB 1 den_l_system 1 (vCons (vC (.int 4)) vNil)) (aName 3))
    (vSeq (vIfS (vTst (vOp gEq (vCallB 1 den_l_take 1 (vCons (vC (.int 12)) vNil)) (vC (.int 0)))) (vSeq (vAsg (vCallB 1 den_l_thin 1 (vCons (vOp (gI fun i j => i + j) (vC (.int 13)) (vCallB 1 den_l_take 1 (vCons (vC (.int 8)) vNil))) vNil)) (aName 3))
    (vIfS (vTst (vOp gEq (vCallB 1 den_l_take 1 (vCons (vC (.int 2)) vNil)) (vC (.int 0)))) (vAsg (vCallB 1 den_l_large 1 (vCons (vOp (gI fun i j => i + j) (vC (.int 6)) (vCallB 1 den_l_take 1 (vCons (vC (.int 5)) vNil))) vNil)) (aName 3)) vNext)) vNext)
    (vSeq (vAsg (vCallB 1 den_l_drawn_policy 1 (vCons (vVar 3) vNil)) (aName 4))
    (vSeq (vAsg (vIf (vTst (vOp gEq (vCallB 1 den_l_take 1 (vCons (vC (.int 3)) vNil)) (vC (.int 0)))) (vCallB 2 den_l_some 1 (vCons (vCall gLen (vCons (vVar 3) vNil)) (vCons (vC (.int 2)) vNil))) (vFr (vListRg (vCall gLen (vCons (vVar 3) vNil))))) (aName 5))
    (vSeq (vAsg (vCallB 2 den_l_some 1 (vCons (vCall gLen (vCons (vVar 3) vNil)) (vCons (vC (.int 3)) vNil))) (aName 6))
    (vSeq (vAsg (vCallP 3 den_l_chances (vCons (vCallP 2 den_l_chain (vCons (vVar 3) (vCons (vVar 4) vNil))) (vCons (vVar 5) (vCons (vVar 6) vNil)))) (aName 7))
    (vSeq (vAsg (vLst (vCons (vCall gList (vCons (vVar 5) vNil)) (vCons (vCall gList (vCons (vVar 6) vNil)) vNil))) (aName 8))
    (vIfS (tOrF (tNotF (vTst (vCallP 2 (denEq 6) (vCons (vCallP 4 den_policy_chances (vCons (vVar 3) (vCons (vVar 4) (vCons (vOp gIxL (vVar 8) (vC (.int 0))) (vCons (vOp gIxL (vVar 8) (vC (.int 1))) vNil))))) (vCons (vVar 7) vNil))))) (vTst (vOp gNeD (vVar 8) (vLst (vCons (vVar 5) (vCons (vVar 6) vNil)))))) (vRet (vC (.bool false))) vNext)))))))))
    (vRet (vC (.bool true)))))
def den_law := denS 9 body_law
end
end Bo

/-! ### k16: the law's own elimination -/
namespace Bo
open PySem L2
local macro_rules | `(tactic| walk_at "wv1") => `(tactic| (first
  | with_reducible refine w_seq ?_
  | with_reducible refine w_asg ?_
  | ((with_reducible refine w_var (d := ?wd) ?wh ?wq); (case wh => exact rfl))
  | with_reducible refine w_c ?_
  | with_reducible refine w_op ?_
  | with_reducible refine w_un ?_
  | with_reducible refine w_and ?_
  | with_reducible refine w_or ?_
  | with_reducible refine w_not ?_
  | with_reducible refine w_toB ?_
  | with_reducible refine w_toI ?_
  | with_reducible refine w_tst ?_
  | with_reducible refine w_tnot ?_
  | with_reducible refine w_tand ?_
  | with_reducible refine w_tor ?_
  | with_reducible refine w_tru ?_
  | with_reducible refine w_if ?_
  | with_reducible refine w_chain ?_
  | with_reducible refine w_nil ?_
  | with_reducible refine w_cons ?_
  | with_reducible refine w_tup ?_
  | with_reducible refine w_lst ?_
  | with_reducible refine w_lstF ?_
  | with_reducible refine w_call ?_
  | with_reducible refine w_callP ?_
  | with_reducible refine w_callL ?_
  | ((with_reducible refine w_own (ds := ?wd) ?wh ?wq); (case wh => exact rfl))
  | with_reducible refine w_callB ?_
  | ((with_reducible refine w_callS (ns := ?wd) ?wh ?wq); (case wh => exact rfl))
  | with_reducible refine w_consO ?_
  | with_reducible refine w_fr ?_
  | with_reducible refine w_lenO ?_
  | with_reducible refine w_tupleO ?_
  | with_reducible refine w_listO ?_
  | with_reducible refine w_ixO ?_
  | with_reducible refine w_inO ?_
  | with_reducible refine w_truO ?_
  | with_reducible refine w_app ?_
  | with_reducible refine w_setI ?_
  | with_reducible refine w_sl ?_
  | with_reducible refine w_noPart ?_
  | with_reducible refine w_part ?_
  | with_reducible refine w_iter ?_
  | with_reducible refine w_iterT ?_
  | with_reducible refine w_range1 ?_
  | with_reducible refine w_listRg ?_
  | with_reducible refine w_enumK ?_
  | with_reducible refine w_zipK ?_
  | with_reducible refine w_repF ?_
  | with_reducible refine w_lc ?_
  | with_reducible refine w_yes ?_
  | with_reducible refine w_next ?_
  | with_reducible refine w_ret ?_
  | with_reducible refine w_retN ?_
  | with_reducible refine w_drop ?_
  | with_reducible refine w_aName ?_
  | with_reducible refine w_aTup rfl ?_
  | with_reducible refine w_aNil ?_
  | with_reducible refine w_aCons ?_
  | with_reducible refine w_ifS ?_
  | with_reducible refine w_ownS ?_
  | ((with_reducible refine w_frz (ds := ?wd) ?wh ?wq); (case wh => exact rfl))
  | with_reducible refine w_for ?_
  | ((with_reducible refine w_aug (a := ?wd) ?wh ?wq); (case wh => exact rfl))
  | with_reducible refine w_gI ?_
  | with_reducible refine w_gIB ?_
  | with_reducible refine w_gIC ?_
  | with_reducible refine w_gEqI ?_
  | with_reducible refine w_gNeI ?_
  | with_reducible refine w_gIxL ?_
  | with_reducible refine w_gIxT ?_
  | with_reducible refine w_gCat ?_
  | with_reducible refine w_gCatT ?_
  | with_reducible refine w_isN ?_
  | with_reducible refine w_notN ?_
  | with_reducible refine w_gInL ?_
  | with_reducible refine w_gLenL ?_
  | with_reducible refine w_gLenT ?_
  | with_reducible refine w_gIntI ?_
  | with_reducible refine w_gTuple ?_
  | with_reducible refine w_gBools ?_
  | with_reducible refine w_gInts ?_
  | with_reducible refine w_gNeD ?_
  | with_reducible refine w_gEqD ?_
  | with_reducible refine w_gRevL ?_
  | with_reducible refine w_gSlL ?_
  | with_reducible refine w_gSlT ?_
  | with_reducible refine w_itT ?_
  | with_reducible refine w_itF ?_
  | with_reducible refine w_itTT ?_
  | with_reducible refine w_itFT ?_
  | with_reducible refine w_gList ?_
  | with_reducible refine w_gSortI ?_
  | with_reducible refine w_range2 ?_
  | ((with_reducible refine w_lcO (ds := ?wd) ?wh ?wq ?wr); (case wh => exact rfl); (case wq => exact rfl))
  | with_reducible refine w_aUnl rfl ?_
  | with_reducible refine w_listF ?_
  | with_reducible refine w_brk ?_
  | with_reducible refine w_cnt ?_
  | with_reducible refine w_neg ?_
  | with_reducible refine w_gIntB ?_
  | simp only [wipeS, backS, List.set_cons_zero, List.set_cons_succ, List.getElem?_cons_zero, List.getElem?_cons_succ, Option.join_some, Option.join_none, Bool.not_true, Bool.not_false]))
local macro_rules | `(tactic| walk_at "wv") => `(tactic| ((repeat (walk_at "wv1"; try dsimp only)); try simp only [List.set_cons_zero, List.set_cons_succ]))
local macro_rules | `(tactic| walk_at "st") => `(tactic| simp only [startS, List.map_cons, List.map_nil, List.length_cons, List.length_nil, Nat.reduceAdd, Nat.reduceSub, List.replicate_succ, List.replicate_zero, List.cons_append, List.nil_append])

theorem Frac.b {M : Nat} {q : Rat} (h : Frac M q) : q.num.natAbs ≤ M ∧ q.den ≤ M := by
  obtain ⟨a, b, h1, h2, h3, rfl⟩ := h
  rw [← divInt_eq]
  have e1 := rN_le (n := a) h1
  have e2 := rD_le (n := a) h1
  rw [rN_rat h1] at e1
  rw [rD_rat h1, Int.natAbs_natCast] at e2
  exact ⟨by omega, by omega⟩
theorem Frac.b3 {M : Nat} {q : Rat} (h : Frac M q) (l : M < 2 ^ 400) : Bq3 q := ⟨Nat.lt_of_le_of_lt h.b.1 l, Nat.lt_of_le_of_lt h.b.2 l⟩
theorem l_over_ok {q r : Rat} {k : PyData → Prop} (hq : Bq3 q) (hr : Bq3 r) (h0 : r ≠ 0) (h : k (dQ (q / r))) : (den_l_over [dQ q, dQ r]).okTo k := by
  have d1 := den_ne q
  have d2 := num_ne h0
  have m3 : ∀ i j : Int, i.natAbs < 2 ^ 400 → j.natAbs < 2 ^ 400 → cMul i j = true := fun i j a b => cMul4 a b
  unfold den_l_over body_l_over
  generalize cMul = cm at m3 ⊢
  refine w_denP ?_
  walk_at "st"
  walk_at "wv"
  rw [dq_n q]
  refine okTo_ok.mpr ?_
  walk_at "wv"
  rw [dq_d r]
  refine okTo_ok.mpr ?_
  walk_at "wv"
  refine ⟨m3 _ _ hq.1 (by rw [Int.natAbs_natCast]; exact hr.2), ?_⟩
  walk_at "wv"
  rw [dq_d q]
  refine okTo_ok.mpr ?_
  walk_at "wv"
  rw [dq_n r]
  refine okTo_ok.mpr ?_
  walk_at "wv"
  refine ⟨m3 _ _ (by rw [Int.natAbs_natCast]; exact hq.2) hr.1, ?_⟩
  walk_at "wv"
  have n1 := mul_lt4 hq.1 hr.2
  have n2 := mul_lt4 hq.2 hr.1
  have pp := p800
  refine ⟨rfl, l_ratio_ok (Int.mul_ne_zero d1 d2) (by rw [Int.natAbs_mul, Int.natAbs_natCast]; omega) (by rw [Int.natAbs_mul, Int.natAbs_natCast]; omega) ?_⟩
  rw [q_over]
  exact h
theorem Frac.neg {M : Nat} {q : Rat} (h : Frac M q) : Frac M (-q) := by
  obtain ⟨a, b, h1, h2, h3, rfl⟩ := h
  refine ⟨-a, b, h1, by omega, h3, ?_⟩
  rw [Rat.intCast_neg]
  grind
theorem Frac.mul {M N : Nat} {q r : Rat} (h : Frac M q) (g : Frac N r) : Frac (M * N) (q * r) := by
  obtain ⟨a, b, h1, h2, h3, rfl⟩ := h
  obtain ⟨c, d, g1, g2, g3, rfl⟩ := g
  refine ⟨a * c, b * d, Int.mul_ne_zero h1 g1, by rw [Int.natAbs_mul]; exact Nat.mul_le_mul h2 g2, by rw [Int.natAbs_mul]; exact Nat.mul_le_mul h3 g3, ?_⟩
  rw [Rat.intCast_mul, Rat.intCast_mul]
  have : (b : Rat) ≠ 0 := by exact_mod_cast h1
  have : (d : Rat) ≠ 0 := by exact_mod_cast g1
  grind
theorem mul200 {a b : Nat} (h : a < 2 ^ 200) (g : b < 2 ^ 200) : a * b < 2 ^ 400 := by
  have : a * b < 2 ^ (200 + 200) := by
    rw [Nat.pow_add]
    exact Nat.mul_lt_mul'' h g
  exact this
theorem sub0_Q {q : Rat} : PyData.tuple [.int (0 - q.num), .int (q.den : Int)] = dQ (-q) := by
  unfold dQ
  rw [Rat.neg_num, Rat.neg_den, Int.zero_sub]
theorem ixD_neg1 {ds : List PyData} {d : PyData} : ixD (ds ++ [d]) (-1) = .ok d := by
  have a1 : atI (ds ++ [d]) (-1) = some d := by
    unfold atI ixN
    rw [if_neg (by omega), if_pos (by rw [List.length_append, List.length_singleton]; omega)]
    show (ds ++ [d])[((-1 : Int) + ((ds ++ [d]).length : Int)).toNat]? = _
    rw [show ((-1 : Int) + ((ds ++ [d]).length : Int)).toNat = ds.length by rw [List.length_append, List.length_singleton]; omega]
    simp
  unfold ixD
  rw [a1]
def rowL (m : Nat) (r : Row) : List Rat := (List.range (m + 1)).map r
theorem rowL_at {m j : Nat} {r : Row} (h : j < m + 1) : ixD ((rowL m r).map dQ) (j : Int) = .ok (dQ (r j)) := ixD_nat (by unfold rowL; rw [List.getElem?_map, List.getElem?_map, List.getElem?_range h]; rfl)
abbrev tab (m : Nat) (R : Nat → Row) : List PyData := fL m fun k => dL2 (rowL m (R k))
theorem tab_at {m k : Nat} {R : Nat → Row} (h : k < m) : ixD (tab m R) (k : Int) = .ok (dL2 (rowL m (R k))) := ixD_nat (by unfold tab fL; rw [List.getElem?_map, List.getElem?_range h]; rfl)
def fnd0 (c : Nat) (R : Nat → Row) (p : Nat) : List Nat := (List.range' c p).filter fun k => decide (R k c ≠ 0)
theorem l_solve_ok {m B s : Nat} {rows : List (List Rat)} {right : List Rat} {R0 : Nat → Row} {xs : Nat → RowZ} {L : Nat → Rat} {W : List RowZ} {u : Nat → Rat} {k : PyData → Prop} (h1 : rows.length = m) (h3 : right.length = m) (hm : m ≤ 100)
    (hR : ∀ i, i < m → rows.getD i [] ++ [right.getD i 0] = rowL m (R0 i)) (j0 : J m 0 R0 [] xs L W) (hb : ∀ w ∈ W, ∀ d, (w d).natAbs ≤ B + 1) (lk : Lok m 0 s L) (hM : bigM m B * s < 2 ^ 200) (hs : 1 ≤ s)
    (ns : ∀ c, c < m → ¬ ∃ v : Nat → Rat, ∀ w ∈ W, Is (List.range c) v c (rQ w)) (hu : ∀ w ∈ W, Is (List.range m) u m (rQ w)) (h : k (dL2 ((List.range m).map u))) : (den_l_solve [dM rows, dL2 right]).okTo k := by
  unfold den_l_solve body_l_solve
  refine w_denP ?_
  walk_at "st"
  walk_at "wv"
  rw [List.length_map, h1]
  refine ⟨_, rfl, ⟨by omega, by omega⟩, ⟨rfl, by rw [rangeD_len]; omega⟩, ?_⟩
  rw [Int.toNat_natCast]
  refine lc_ok (fun p acc Z => acc = (List.range p).map (fun i => dL2 (rowL m (R0 i))) ∧ Z = [some (.dat (dM rows)), some (.dat (dL2 right)), none, none, none, none, none, none, none, none, none, none]) ?_ ?_ ⟨rfl, rfl⟩
  · rintro p dp acc Z hp ⟨rfl, rfl⟩
    obtain ⟨hp1, rfl⟩ := rangeD_get hp
    rw [Int.zero_add]
    walk_at "wv"
    have e1 : rows[p]? = some (rows.getD p []) := by rw [List.getD_eq_getElem?_getD, List.getElem?_eq_getElem (show p < rows.length by omega)]; rfl
    have e2 : right[p]? = some (right.getD p 0) := by rw [List.getD_eq_getElem?_getD, List.getElem?_eq_getElem (show p < right.length by omega)]; rfl
    refine okTo_eq (a := dL2 (rows.getD p [])) (ixD_nat (ds := rows.map dL2) (by rw [List.getElem?_map, e1]; rfl)) ?_
    walk_at "wv"
    refine okTo_eq (a := dQ (right.getD p 0)) (ixD_nat (ds := right.map dQ) (by rw [List.getElem?_map, e2]; rfl)) ?_
    walk_at "wv"
    have hr := hR p hp1
    have rl : (rows.getD p []).length = m := by
      have := congrArg List.length hr
      unfold rowL at this
      rw [List.length_append, List.length_singleton, List.length_map, List.length_range] at this
      omega
    refine ⟨by simp, ?_⟩
    walk_at "wv"
    refine ⟨by rw [List.length_map, List.length_singleton]; omega, ?_⟩
    rw [List.range_succ, List.map_append, List.map_singleton]
    refine ⟨?_, by first | trivial | rfl⟩
    congr 2
    show PyData.list ((rows.getD p []).map dQ ++ [right.getD p 0].map dQ) = _
    rw [← List.map_append, hr]
  rintro acc Z ⟨rfl, rfl⟩
  rw [rangeD_len]
  walk_at "wv"
  rw [List.length_map, List.length_range]
  refine ⟨_, rfl, ⟨by omega, by omega⟩, ?_⟩
  rw [Int.toNat_natCast]
  refine loop_ok (fun c S => ∃ (R : Nat → Row) (rs : List RowZ) (xs : Nat → RowZ) (L : Nat → Rat) (e4 e5 e6 e7 e10 : Option PyData), S = [some (.dat (dM rows)), some (.dat (dL2 right)), some (.own (tab m R)), some (.dat (.int (m : Nat))), e4.map SV.dat, e5.map SV.dat, e6.map SV.dat, e7.map SV.dat, none, none, e10.map SV.dat, none] ∧ J m c R rs xs L W ∧ Lok m c s L) ?_ ?_ ⟨R0, [], xs, L, none, none, none, none, none, rfl, j0, lk⟩
  · rintro c dc S hc ⟨R, rs, xs, L, e4, e5, e6, e7, e10, rfl, j, lk⟩
    obtain ⟨hc1, rfl⟩ := rangeD_get hc
    rw [Int.zero_add]
    walk_at "wv"
    have ent : ∀ k j', c ≤ k → k < m → Frac (bigM m B * s) (R k j') := fun k j' a b => by
      obtain ⟨l, l0, l1, l2⟩ := lk k a b
      exact j.high_frac hb a b l0 l1 l2 j'
    refine ⟨_, _, rfl, ⟨⟨by omega, by omega⟩, by omega, by omega⟩, ⟨by cases e7 <;> rfl, by rw [rangeD_len]; omega⟩, ?_⟩
    rw [show ((m : Int) - (c : Int)).toNat = m - c by omega]
    refine lc_ok (fun p acc Z => acc = (fnd0 c R p).map (fun k => PyData.int (k : Nat)) ∧ Z = [some (.dat (dM rows)), some (.dat (dL2 right)), some (.own (tab m R)), some (.dat (.int (m : Nat))), some (.dat (.int (c : Nat))), e5.map SV.dat, e6.map SV.dat, none, none, none, e10.map SV.dat, none]) ?_ ?_ ⟨rfl, rfl⟩
    · rintro p dp acc Z hp ⟨rfl, rfl⟩
      obtain ⟨hp1, rfl⟩ := rangeD_get hp
      rw [show (c : Int) + (p : Nat) = ((c + p : Nat) : Int) by omega]
      walk_at "wv"
      refine okTo_eq (tab_at (show c + p < m by omega)) ?_
      walk_at "wv"
      refine okTo_eq (rowL_at (show c < m + 1 by omega)) ?_
      walk_at "wv"
      refine okTo_eq (dq_n _) ?_
      walk_at "wv"
      have fs : fnd0 c R (p + 1) = fnd0 c R p ++ if R (c + p) c ≠ 0 then [c + p] else [] := by
        unfold fnd0
        rw [range'_snoc, List.filter_append]
        congr 1
        by_cases z : R (c + p) c = 0 <;> simp [z]
      rw [fs]
      by_cases z : R (c + p) c = 0
      · have zn : (R (c + p) c).num = 0 := by rw [z]; rfl
        rw [if_neg (by simp [zn]), if_neg (by simp [z]), List.append_nil]
        exact ⟨rfl, by first | trivial | rfl⟩
      · have zn : (R (c + p) c).num ≠ 0 := fun y => z (Rat.num_eq_zero.mp y)
        rw [if_pos (by simp [zn]), if_pos (by simp [z])]
        walk_at "wv"
        rw [List.map_append]
        exact ⟨rfl, by first | trivial | rfl⟩
    rintro acc Z ⟨rfl, rfl⟩
    rw [rangeD_len]
    walk_at "wv"
    have fne : fnd0 c R (m - c) ≠ [] := fun z => ns c hc1 (j.stop fun k a b => by
      refine Classical.byContradiction fun y => ?_
      have : k ∈ fnd0 c R (m - c) := List.mem_filter.mpr ⟨List.mem_range'_1.mpr ⟨a, by omega⟩, by simp [y]⟩
      rw [z] at this
      cases this)
    obtain ⟨f, fs, hf⟩ : ∃ f fs, fnd0 c R (m - c) = f :: fs := by
      cases q : fnd0 c R (m - c) with
      | nil => exact absurd q fne
      | cons f fs => exact ⟨f, fs, rfl⟩
    have fm : f ∈ fnd0 c R (m - c) := by rw [hf]; exact List.mem_cons_self
    obtain ⟨fr, f0⟩ := List.mem_filter.mp fm
    obtain ⟨f1, f2⟩ := List.mem_range'_1.mp fr
    have f2' : f < m := by omega
    have f3 : R f c ≠ 0 := by simpa using f0
    rw [hf]
    rw [if_neg (by simp; omega)]
    walk_at "wv"
    have eF : ixD ((f :: fs).map fun k => PyData.int (k : Nat)) 0 = .ok (.int (f : Nat)) := ixD_nat (ds := (f :: fs).map fun k => PyData.int (k : Nat)) (j := 0) rfl
    refine okTo_eq eF ?_
    walk_at "wv"
    refine okTo_eq (tab_at f2') ?_
    walk_at "wv"
    refine okTo_eq (tab_at hc1) ?_
    walk_at "wv"
    refine okTo_eq eF ?_
    walk_at "wv"
    refine ⟨f, by rw [fL_len]; exact ixN_nat f2', ?_⟩
    walk_at "wv"
    generalize hC : (fun j => R f j / R f c) = ch
    have chF : ∀ j', Frac (bigM m B) (ch j') := fun j' => by rw [← hC]; exact j.cho_frac hb f1 f2' f3 j'
    refine ⟨_, rfl, ⟨rfl, by unfold rowL; rw [List.length_map, List.length_map, List.length_range]; omega⟩, ?_⟩
    have bMs : bigM m B ≤ bigM m B * s := Nat.le_mul_of_pos_right _ hs
    have p24 : (2 : Nat) ^ 200 < 2 ^ 400 := by decide +kernel
    have lt4 : bigM m B * s < 2 ^ 400 := Nat.lt_trans hM p24
    refine lc_ok (fun p acc Z => acc = (List.range p).map (fun i => dQ (ch i)) ∧ Z = [some (.dat (dM rows)), some (.dat (dL2 right)), some (.own ((tab m R).set f (dL2 (rowL m (R c))))), some (.dat (.int (m : Nat))), some (.dat (.int (c : Nat))), some (.dat (.list ((f :: fs).map fun k => PyData.int (k : Nat)))), some (.dat (dL2 (rowL m (R f)))), e7.map SV.dat, none, none, e10.map SV.dat, none]) ?_ ?_ ⟨rfl, rfl⟩
    · rintro p dp acc Z hp ⟨rfl, rfl⟩
      have hp1 : p < m + 1 := by
        have := (List.getElem?_eq_some_iff.mp hp).1
        unfold rowL at this
        rwa [List.length_map, List.length_map, List.length_range] at this
      have hp2 : dp = dQ (R f p) := by
        unfold rowL at hp
        rw [List.getElem?_map, List.getElem?_map, List.getElem?_range hp1] at hp
        exact (Option.some.inj hp).symm
      subst hp2
      walk_at "wv"
      refine okTo_eq (rowL_at (show c < m + 1 by omega)) ?_
      walk_at "wv"
      refine ⟨rfl, l_over_ok ((ent f p f1 f2').b3 lt4) ((ent f c f1 f2').b3 lt4) f3 ?_⟩
      walk_at "wv"
      rw [List.range_succ, List.map_append, ← hC]
      exact ⟨rfl, by first | trivial | rfl⟩
    rintro acc Z ⟨rfl, rfl⟩
    have hlen : ((rowL m (R f)).map dQ).length = m + 1 := by unfold rowL; simp
    rw [hlen, show (List.range (m + 1)).map (fun i => dQ (ch i)) = (rowL m ch).map dQ by unfold rowL; rw [List.map_map]; rfl]
    walk_at "wv"
    refine ⟨c, by rw [List.length_set, fL_len]; exact ixN_nat hc1, ?_⟩
    have t2 : ((tab m R).set f (dL2 (rowL m (R c)))).set c (dL2 (rowL m ch)) = tab m fun k => if k = c then ch else if k = f then R c else R k := by
      unfold tab
      rw [fL_set, fL_set]
      refine fL_congr fun k _ => ?_
      by_cases a : k = c
      · simp only [if_pos a]
      · simp only [if_neg a]
        by_cases b : k = f
        · simp only [if_pos b]
        · simp only [if_neg b]
    rw [t2]
    generalize hT : (fun k => if k = c then ch else if k = f then R c else R k) = T2
    walk_at "wv"
    refine ⟨_, rfl, ⟨by omega, by omega⟩, ?_⟩
    rw [Int.toNat_natCast]
    have tc : T2 c = ch := by rw [← hT]; exact if_pos rfl
    have tE : ∀ k j', k < m → Frac (bigM m B * s) (T2 k j') := fun k j' hk => by
      rw [← hT]
      by_cases a : k = c
      · simp only [if_pos a]
        exact (chF j').mono bMs
      · simp only [if_neg a]
        by_cases b : k = f
        · simp only [if_pos b]
          exact ent c j' (Nat.le_refl c) hc1
        · simp only [if_neg b]
          by_cases q : k < c
          · exact (j.low_frac hb q j').mono bMs
          · exact ent k j' (by omega) hk
    have gj : ∀ k, k ≠ c → gjStep R c f k = rAdd (T2 k) ch (-(T2 k c)) := fun k hk => by
      unfold gjStep
      rw [if_neg hk, hC, ← hT]
      simp only [if_neg hk]
    have gc : gjStep R c f c = ch := by
      unfold gjStep
      rw [if_pos rfl, hC]
    refine loop_ok (fun k S => ∃ (e7 e10 : Option PyData), S = [some (.dat (dM rows)), some (.dat (dL2 right)), some (.own (tab m fun i => if i < k then gjStep R c f i else T2 i)), some (.dat (.int (m : Nat))), some (.dat (.int (c : Nat))), some (.dat (.list ((f :: fs).map fun k => PyData.int (k : Nat)))), some (.dat (dL2 (rowL m ch))), e7.map SV.dat, none, none, e10.map SV.dat, none]) ?_ ?_ ⟨e7, e10, by simp only [Nat.not_lt_zero, if_false]⟩
    · rintro k dk S hk ⟨e7, e10, rfl⟩
      obtain ⟨hk1, rfl⟩ := rangeD_get hk
      rw [Int.zero_add]
      have tk : (fun i => if i < k then gjStep R c f i else T2 i) k = T2 k := if_neg (Nat.lt_irrefl k)
      walk_at "wv"
      have nxt : gjStep R c f k = T2 k → (fun i => if i < k + 1 then gjStep R c f i else T2 i) = fun i => if i < k then gjStep R c f i else T2 i := fun e => by
        funext i
        by_cases a : i < k
        · rw [if_pos (by omega), if_pos a]
        · by_cases b : i = k
          · subst b
            rw [if_pos (by omega), if_neg a]
            exact e
          · rw [if_neg (by omega), if_neg a]
      by_cases kc : k = c
      · rw [if_neg (by simp [kc])]
        walk_at "wv"
        rw [nxt (by rw [kc, gc, tc])]
        exact ⟨some (.int (k : Nat)), e10, rfl⟩
      · rw [if_pos (by simp; omega)]
        walk_at "wv"
        have tAt : ixD (tab m fun i => if i < k then gjStep R c f i else T2 i) (k : Int) = .ok (dL2 (rowL m (T2 k))) := (tab_at hk1).trans (by rw [if_neg (Nat.lt_irrefl k)])
        refine okTo_eq tAt ?_
        walk_at "wv"
        refine okTo_eq (rowL_at (show c < m + 1 by omega)) ?_
        walk_at "wv"
        refine okTo_eq (dq_n _) ?_
        walk_at "wv"
        by_cases z : T2 k c = 0
        · have zn : (T2 k c).num = 0 := by rw [z]; rfl
          rw [if_neg (by simp [zn])]
          walk_at "wv"
          have same : gjStep R c f k = T2 k := by
            rw [gj k kc, z]
            funext x
            simp only [rAdd]
            grind
          rw [nxt same]
          exact ⟨some (.int (k : Nat)), e10, rfl⟩
        · have zn : (T2 k c).num ≠ 0 := fun y => z (Rat.num_eq_zero.mp y)
          rw [if_pos (by simp [zn])]
          walk_at "wv"
          refine okTo_eq tAt ?_
          walk_at "wv"
          refine okTo_eq (rowL_at (show c < m + 1 by omega)) ?_
          walk_at "wv"
          refine okTo_eq (dq_n _) ?_
          walk_at "wv"
          refine okTo_eq tAt ?_
          walk_at "wv"
          refine okTo_eq (rowL_at (show c < m + 1 by omega)) ?_
          walk_at "wv"
          refine okTo_eq (dq_d _) ?_
          walk_at "wv"
          refine ⟨by simp, ?_⟩
          rw [sub0_Q]
          walk_at "wv"
          refine ⟨_, rfl, ⟨by omega, by omega⟩, ⟨rfl, by rw [rangeD_len]; omega⟩, ?_⟩
          rw [show ((m : Int) + 1).toNat = m + 1 by omega]
          refine lc_ok (fun p acc Z => acc = (List.range p).map (fun i => dQ (gjStep R c f k i)) ∧ Z = [some (.dat (dM rows)), some (.dat (dL2 right)), some (.own (tab m fun i => if i < k then gjStep R c f i else T2 i)), some (.dat (.int (m : Nat))), some (.dat (.int (c : Nat))), some (.dat (.list ((f :: fs).map fun k => PyData.int (k : Nat)))), some (.dat (dL2 (rowL m ch))), some (.dat (.int (k : Nat))), none, none, some (.dat (dQ (-(T2 k c)))), none]) ?_ ?_ ⟨rfl, rfl⟩
          · rintro p dp acc Z hp ⟨rfl, rfl⟩
            obtain ⟨hp1, rfl⟩ := rangeD_get hp
            rw [Int.zero_add]
            walk_at "wv"
            refine okTo_eq tAt ?_
            walk_at "wv"
            refine okTo_eq (rowL_at hp1) ?_
            walk_at "wv"
            refine okTo_eq (rowL_at hp1) ?_
            walk_at "wv"
            have f1' := (tE k c hk1).neg
            have f2'' := chF p
            refine ⟨rfl, l_times_ok (f1'.b3 lt4) ((f2''.mono bMs).b3 lt4) ?_⟩
            walk_at "wv"
            have fm := f1'.mul f2''
            refine ⟨rfl, l_plus_ok ((tE k p hk1).b3 lt4) (fm.b3 (mul200 hM (Nat.lt_of_le_of_lt bMs hM))) ?_⟩
            walk_at "wv"
            rw [List.range_succ, List.map_append, gj k kc]
            exact ⟨rfl, by first | trivial | rfl⟩
          rintro acc Z ⟨rfl, rfl⟩
          rw [rangeD_len, show (List.range (m + 1)).map (fun i => dQ (gjStep R c f k i)) = (rowL m (gjStep R c f k)).map dQ by unfold rowL; rw [List.map_map]; rfl]
          walk_at "wv"
          refine ⟨k, by rw [fL_len]; exact ixN_nat hk1, some (.int (k : Nat)), some (dQ (-(T2 k c))), ?_⟩
          have ts : (tab m fun i => if i < k then gjStep R c f i else T2 i).set k (dL2 (rowL m (gjStep R c f k))) = tab m fun i => if i < k + 1 then gjStep R c f i else T2 i := by
            unfold tab
            rw [fL_set]
            refine fL_congr fun i _ => ?_
            by_cases a : i = k
            · subst a
              simp only [if_true, if_pos (Nat.lt_succ_self i)]
            · simp only [if_neg a]
              by_cases b : i < k
              · simp only [if_pos b, if_pos (Nat.lt_succ_of_lt b)]
              · simp only [if_neg b, if_neg (show ¬ i < k + 1 by omega)]
          rw [← ts]
          rfl
    · rintro S ⟨e7, e10, rfl⟩
      rw [rangeD_len]
      have tf : (tab m fun i => if i < m then gjStep R c f i else T2 i) = tab m (gjStep R c f) := by
        unfold tab
        exact fL_congr fun k hk => by simp only [if_pos hk]
      rw [tf]
      exact ⟨gjStep R c f, _, _, _, some (.int (c : Nat)), some (.list ((f :: fs).map fun k => PyData.int (k : Nat))), some (dL2 (rowL m ch)), e7, e10, rfl, j.step f1 f2' f3, lk.step f1 f2'⟩
  rintro S ⟨R, rs, xs, L, e4, e5, e6, e7, e10, rfl, j, lk⟩
  rw [rangeD_len] at j
  walk_at "wv"
  refine lcO_ok (ds := tab m R) (fun k acc Z => acc = (List.range k).map (fun i => dQ (u i)) ∧ Z = [some (.dat (dM rows)), some (.dat (dL2 right)), some (.own (tab m R)), some (.dat (.int (m : Nat))), e4.map SV.dat, e5.map SV.dat, e6.map SV.dat, e7.map SV.dat, none, none, e10.map SV.dat, none]) ?_ ?_ ?_ ?_ ⟨rfl, rfl⟩
  · rintro k acc S ⟨rfl, rfl⟩
    rfl
  · rw [fL_len]
    omega
  · rintro k d acc S hk ⟨rfl, rfl⟩
    have hk1 : k < m := by
      have := (List.getElem?_eq_some_iff.mp hk).1
      rwa [fL_len] at this
    obtain rfl : d = dL2 (rowL m (R k)) := by
      unfold tab fL at hk
      rw [List.getElem?_map, List.getElem?_range hk1] at hk
      exact (Option.some.inj hk).symm
    show (aName 8 (dL2 (rowL m (R k))) _).okTo _
    walk_at "wv"
    have lst : ixD ((rowL m (R k)).map dQ) (-1) = .ok (dQ (R k m)) := by
      have e : (rowL m (R k)).map dQ = (List.range m).map (fun i => dQ (R k i)) ++ [dQ (R k m)] := by
        unfold rowL
        rw [List.range_succ, List.map_append, List.map_append, List.map_map]
        rfl
      rw [e]
      exact ixD_neg1
    refine okTo_eq lst ?_
    rw [j.done hu hk1, List.range_succ, List.map_append]
    exact ⟨rfl, by first | trivial | rfl⟩
  · rintro acc S ⟨rfl, rfl⟩
    rw [fL_len]
    unfold dL2 at h
    rw [List.map_map] at h
    exact h
end Bo

/-! ### chains: what the program's defs answer -/
namespace Bo
open PySem L2
local macro_rules | `(tactic| walk_at "wv1") => `(tactic| (first
  | with_reducible refine w_seq ?_
  | with_reducible refine w_asg ?_
  | ((with_reducible refine w_var (d := ?wd) ?wh ?wq); (case wh => exact rfl))
  | with_reducible refine w_c ?_
  | with_reducible refine w_op ?_
  | with_reducible refine w_un ?_
  | with_reducible refine w_and ?_
  | with_reducible refine w_or ?_
  | with_reducible refine w_not ?_
  | with_reducible refine w_toB ?_
  | with_reducible refine w_toI ?_
  | with_reducible refine w_tst ?_
  | with_reducible refine w_tnot ?_
  | with_reducible refine w_tand ?_
  | with_reducible refine w_tor ?_
  | with_reducible refine w_tru ?_
  | with_reducible refine w_if ?_
  | with_reducible refine w_chain ?_
  | with_reducible refine w_nil ?_
  | with_reducible refine w_cons ?_
  | with_reducible refine w_tup ?_
  | with_reducible refine w_lst ?_
  | with_reducible refine w_lstF ?_
  | with_reducible refine w_call ?_
  | with_reducible refine w_callP ?_
  | with_reducible refine w_callL ?_
  | ((with_reducible refine w_own (ds := ?wd) ?wh ?wq); (case wh => exact rfl))
  | with_reducible refine w_callB ?_
  | ((with_reducible refine w_callS (ns := ?wd) ?wh ?wq); (case wh => exact rfl))
  | with_reducible refine w_consO ?_
  | with_reducible refine w_fr ?_
  | with_reducible refine w_lenO ?_
  | with_reducible refine w_tupleO ?_
  | with_reducible refine w_listO ?_
  | with_reducible refine w_ixO ?_
  | with_reducible refine w_inO ?_
  | with_reducible refine w_truO ?_
  | with_reducible refine w_app ?_
  | with_reducible refine w_setI ?_
  | with_reducible refine w_sl ?_
  | with_reducible refine w_noPart ?_
  | with_reducible refine w_part ?_
  | with_reducible refine w_iter ?_
  | with_reducible refine w_iterT ?_
  | with_reducible refine w_range1 ?_
  | with_reducible refine w_listRg ?_
  | with_reducible refine w_enumK ?_
  | with_reducible refine w_zipK ?_
  | with_reducible refine w_repF ?_
  | with_reducible refine w_lc ?_
  | with_reducible refine w_yes ?_
  | with_reducible refine w_next ?_
  | with_reducible refine w_ret ?_
  | with_reducible refine w_retN ?_
  | with_reducible refine w_drop ?_
  | with_reducible refine w_aName ?_
  | with_reducible refine w_aTup rfl ?_
  | with_reducible refine w_aNil ?_
  | with_reducible refine w_aCons ?_
  | with_reducible refine w_ifS ?_
  | with_reducible refine w_ownS ?_
  | ((with_reducible refine w_frz (ds := ?wd) ?wh ?wq); (case wh => exact rfl))
  | with_reducible refine w_for ?_
  | ((with_reducible refine w_aug (a := ?wd) ?wh ?wq); (case wh => exact rfl))
  | with_reducible refine w_gI ?_
  | with_reducible refine w_gIB ?_
  | with_reducible refine w_gIC ?_
  | with_reducible refine w_gEqI ?_
  | with_reducible refine w_gNeI ?_
  | with_reducible refine w_gIxL ?_
  | with_reducible refine w_gIxT ?_
  | with_reducible refine w_gCat ?_
  | with_reducible refine w_gCatT ?_
  | with_reducible refine w_isN ?_
  | with_reducible refine w_notN ?_
  | with_reducible refine w_gInL ?_
  | with_reducible refine w_gLenL ?_
  | with_reducible refine w_gLenT ?_
  | with_reducible refine w_gIntI ?_
  | with_reducible refine w_gTuple ?_
  | with_reducible refine w_gBools ?_
  | with_reducible refine w_gInts ?_
  | with_reducible refine w_gNeD ?_
  | with_reducible refine w_gEqD ?_
  | with_reducible refine w_gRevL ?_
  | with_reducible refine w_gSlL ?_
  | with_reducible refine w_gSlT ?_
  | with_reducible refine w_itT ?_
  | with_reducible refine w_itF ?_
  | with_reducible refine w_itTT ?_
  | with_reducible refine w_itFT ?_
  | with_reducible refine w_gList ?_
  | with_reducible refine w_gSortI ?_
  | with_reducible refine w_range2 ?_
  | ((with_reducible refine w_lcO (ds := ?wd) ?wh ?wq ?wr); (case wh => exact rfl); (case wq => exact rfl))
  | with_reducible refine w_aUnl rfl ?_
  | with_reducible refine w_listF ?_
  | with_reducible refine w_brk ?_
  | with_reducible refine w_cnt ?_
  | with_reducible refine w_neg ?_
  | with_reducible refine w_gIntB ?_
  | simp only [wipeS, backS, List.set_cons_zero, List.set_cons_succ, List.getElem?_cons_zero, List.getElem?_cons_succ, Option.join_some, Option.join_none, Bool.not_true, Bool.not_false]))
local macro_rules | `(tactic| walk_at "wv") => `(tactic| ((repeat (walk_at "wv1"; try dsimp only)); try simp only [List.set_cons_zero, List.set_cons_succ]))
local macro_rules | `(tactic| walk_at "st") => `(tactic| simp only [startS, List.map_cons, List.map_nil, List.length_cons, List.length_nil, Nat.reduceAdd, Nat.reduceSub, List.replicate_succ, List.replicate_zero, List.cons_append, List.nil_append])

def wsum (es : List (Int × Int)) : Int := (es.map (·.2)).sum
def mvD (es : List (Int × Int)) : List PyData := es.map fun e => .tuple [.int e.1, dQ (Rat.divInt e.2 (wsum es))]
theorem moves_ok {y : List (List Cho)} {a b : Nat} {s : List Cho} {c : Cho} {k : PyData → Prop} (h1 : y[a]? = some s) (h2 : s[b]? = some c) (hl : c.2.length ≤ 1000) (hw : wsum c.2 ≠ 0) (hb : (wsum c.2).natAbs < 2 ^ 8000) (h : k (.list (mvD c.2))) : (den_moves [dY y, .int (a : Nat), .int (b : Nat)]).okTo k := by
  unfold den_moves body_moves
  refine w_denP ?_
  walk_at "st"
  walk_at "wv"
  refine okTo_eq (a := dS s) (ixD_nat (ds := y.map dS) (by rw [List.getElem?_map, h1]; rfl)) ?_
  walk_at "wv"
  refine okTo_eq (a := dC c) (ixD_nat (ds := s.map dC) (by rw [List.getElem?_map, h2]; rfl)) ?_
  rw [show dC c = PyData.tuple [.int c.1, .tuple (c.2.map prD)] from rfl]
  walk_at "wv"
  refine ⟨c.2.map prD, rfl, ⟨rfl, by rw [List.length_map]; omega⟩, ?_⟩
  walk_at "wv"
  refine lc_ok (fun p acc Z => acc = ((c.2.take p).map (·.2)).map PyData.int ∧ Z = [some (.dat (dY y)), some (.dat (.int (a : Nat))), some (.dat (.int (b : Nat))), none, some (.dat (.int c.1)), some (.dat (.tuple (c.2.map prD))), none, none]) ?_ ?_ ⟨rfl, rfl⟩
  · rintro p dp acc Z hp ⟨rfl, rfl⟩
    rw [List.getElem?_map] at hp
    obtain ⟨e, he, rfl⟩ := Option.map_eq_some_iff.mp hp
    unfold prD
    walk_at "wv"
    rw [List.take_add_one, he, Option.toList_some, List.map_append, List.map_append]
    exact ⟨rfl, by first | trivial | rfl⟩
  rintro acc Z ⟨rfl, rfl⟩
  rw [List.length_map, List.take_length]
  walk_at "wv"
  refine ⟨c.2.map prD, rfl, ⟨rfl, by rw [List.length_map]; omega⟩, ?_⟩
  walk_at "wv"
  refine lc_ok (fun p acc Z => acc = (c.2.take p).map (fun e => .tuple [.int e.1, dQ (Rat.divInt e.2 (wsum c.2))]) ∧ Z = [some (.dat (dY y)), some (.dat (.int (a : Nat))), some (.dat (.int (b : Nat))), some (.dat (.int (wsum c.2))), some (.dat (.int c.1)), some (.dat (.tuple (c.2.map prD))), none, none]) ?_ ?_ ⟨rfl, rfl⟩
  · rintro p dp acc Z hp ⟨rfl, rfl⟩
    rw [List.getElem?_map] at hp
    obtain ⟨e, he, rfl⟩ := Option.map_eq_some_iff.mp hp
    unfold prD
    walk_at "wv"
    refine ⟨rfl, ratio_ok hw hb ?_⟩
    walk_at "wv"
    refine ⟨by simp, ?_⟩
    rw [List.take_add_one, he, Option.toList_some, List.map_append]
    exact ⟨rfl, by first | trivial | rfl⟩
  rintro acc Z ⟨rfl, rfl⟩
  rw [List.length_map, List.take_length]
  walk_at "wv"
  exact h
def cAt (y : List (List Cho)) (i b : Nat) : Cho := (y.getD i []).getD b (0, [])
/-- the chain of a policy: one choice in each state -/
def chY (y : List (List Cho)) (pol : List Int) : List (List Cho) := (List.range y.length).map fun i => [cAt y i (pol.getD i 0).toNat]
def PolOk (y : List (List Cho)) (pol : List Int) : Prop := pol.length = y.length ∧ ∀ (i : Nat) s r, y[i]? = some s → pol[i]? = some r → 0 ≤ r ∧ r < (s.length : Int)
theorem PolOk.at_ {y : List (List Cho)} {pol : List Int} (h : PolOk y pol) {i : Nat} (hi : i < y.length) : ∃ b : Nat, pol[i]? = some (b : Int) ∧ y[i]? = some (y.getD i []) ∧ (y.getD i [])[b]? = some (cAt y i b) ∧ (pol.getD i 0).toNat = b := by
  have e1 : y[i]? = some (y.getD i []) := by rw [List.getD_eq_getElem?_getD, List.getElem?_eq_getElem hi]; rfl
  have e2 : pol[i]? = some (pol.getD i 0) := by rw [List.getD_eq_getElem?_getD, List.getElem?_eq_getElem (show i < pol.length by have := h.1; omega)]; rfl
  obtain ⟨h1, h2⟩ := h.2 i _ _ e1 e2
  refine ⟨(pol.getD i 0).toNat, by rw [e2]; congr 1; omega, e1, ?_, rfl⟩
  unfold cAt
  rw [List.getD_eq_getElem?_getD (l := y.getD i []), List.getElem?_eq_getElem (show (pol.getD i 0).toNat < (y.getD i []).length by omega)]
  rfl
theorem chain_of_ok {y : List (List Cho)} {pol : List Int} {k : PyData → Prop} (hy : y.length ≤ 1000) (hp : PolOk y pol) (h : k (dY (chY y pol))) : (den_chain_of [dY y, .tuple (pol.map .int)]).okTo k := by
  unfold den_chain_of body_chain_of
  refine w_denP ?_
  walk_at "st"
  walk_at "wv"
  refine ⟨_, _, rfl, rfl, ⟨rfl, by rw [enumD_len, List.length_map]; omega⟩, ?_⟩
  refine lc_ok (fun p acc Z => acc = (List.range p).map (fun i => dS [cAt y i (pol.getD i 0).toNat]) ∧ Z = [some (.dat (dY y)), some (.dat (.tuple (pol.map .int))), none, none]) ?_ ?_ ⟨rfl, rfl⟩
  · rintro i d acc Z hi ⟨rfl, rfl⟩
    have hlt : i < y.length := by
      have := (List.getElem?_eq_some_iff.mp hi).1
      rwa [enumD_len, List.length_map] at this
    obtain ⟨b, e1, e2, e3, e4⟩ := hp.at_ hlt
    rw [enumD_get (d := dS (y.getD i [])) (by rw [List.getElem?_map, e2]; rfl)] at hi
    cases hi
    walk_at "wv"
    refine okTo_eq (a := .int (b : Nat)) (ixD_nat (ds := pol.map PyData.int) (by rw [List.getElem?_map, e1]; rfl)) ?_
    walk_at "wv"
    refine okTo_eq (a := dC (cAt y i b)) (ixD_nat (ds := (y.getD i []).map dC) (by rw [List.getElem?_map, e3]; rfl)) ?_
    walk_at "wv"
    refine ⟨by simp, ?_⟩
    rw [List.range_succ, List.map_append, List.map_singleton, e4]
    exact ⟨rfl, by first | trivial | rfl⟩
  rintro acc Z ⟨rfl, rfl⟩
  rw [enumD_len, List.length_map]
  walk_at "wv"
  unfold chY dY at h
  rw [List.map_map] at h
  exact h
theorem at_targets_ok {z : List (List Cho)} {tg : List Int} {a b : Rat} {k : PyData → Prop} (hz : z.length ≤ 1000) (h : k (dL2 ((List.range z.length).map fun i => if ((i : Nat) : Int) ∈ tg then a else b))) : (den_at_targets [dY z, dL tg, dQ a, dQ b]).okTo k := by
  unfold den_at_targets body_at_targets
  refine w_denP ?_
  walk_at "st"
  walk_at "wv"
  refine okTo_eq gLen_y ?_
  walk_at "wv"
  refine ⟨_, rfl, ⟨by omega, by omega⟩, ⟨rfl, by rw [rangeD_len]; omega⟩, ?_⟩
  rw [Int.toNat_natCast]
  refine lc_ok (fun p acc Z => acc = ((List.range p).map fun i => if ((i : Nat) : Int) ∈ tg then a else b).map dQ ∧ Z = [some (.dat (dY z)), some (.dat (dL tg)), some (.dat (dQ a)), some (.dat (dQ b)), none]) ?_ ?_ ⟨rfl, rfl⟩
  · rintro p dp acc Z hp ⟨rfl, rfl⟩
    obtain ⟨hp1, rfl⟩ := rangeD_get hp
    rw [Int.zero_add]
    walk_at "wv"
    refine okTo_eq in_tg ?_
    walk_at "wv"
    by_cases c : ((p : Nat) : Int) ∈ tg
    · rw [if_pos (decide_eq_true c)]
      walk_at "wv"
      rw [List.range_succ, List.map_append, List.map_append, List.map_singleton, if_pos c]
      exact ⟨rfl, by first | trivial | rfl⟩
    · rw [if_neg (by simpa using c)]
      walk_at "wv"
      rw [List.range_succ, List.map_append, List.map_append, List.map_singleton, if_neg c]
      exact ⟨rfl, by first | trivial | rfl⟩
  rintro acc Z ⟨rfl, rfl⟩
  rw [rangeD_len]
  walk_at "wv"
  exact h
end Bo

/-! ### backward through a chain -/
namespace Bo
open PySem L2
local macro_rules | `(tactic| walk_at "wv1") => `(tactic| (first
  | with_reducible refine w_seq ?_
  | with_reducible refine w_asg ?_
  | ((with_reducible refine w_var (d := ?wd) ?wh ?wq); (case wh => exact rfl))
  | with_reducible refine w_c ?_
  | with_reducible refine w_op ?_
  | with_reducible refine w_un ?_
  | with_reducible refine w_and ?_
  | with_reducible refine w_or ?_
  | with_reducible refine w_not ?_
  | with_reducible refine w_toB ?_
  | with_reducible refine w_toI ?_
  | with_reducible refine w_tst ?_
  | with_reducible refine w_tnot ?_
  | with_reducible refine w_tand ?_
  | with_reducible refine w_tor ?_
  | with_reducible refine w_tru ?_
  | with_reducible refine w_if ?_
  | with_reducible refine w_chain ?_
  | with_reducible refine w_nil ?_
  | with_reducible refine w_cons ?_
  | with_reducible refine w_tup ?_
  | with_reducible refine w_lst ?_
  | with_reducible refine w_lstF ?_
  | with_reducible refine w_call ?_
  | with_reducible refine w_callP ?_
  | with_reducible refine w_callL ?_
  | ((with_reducible refine w_own (ds := ?wd) ?wh ?wq); (case wh => exact rfl))
  | with_reducible refine w_callB ?_
  | ((with_reducible refine w_callS (ns := ?wd) ?wh ?wq); (case wh => exact rfl))
  | with_reducible refine w_consO ?_
  | with_reducible refine w_fr ?_
  | with_reducible refine w_lenO ?_
  | with_reducible refine w_tupleO ?_
  | with_reducible refine w_listO ?_
  | with_reducible refine w_ixO ?_
  | with_reducible refine w_inO ?_
  | with_reducible refine w_truO ?_
  | with_reducible refine w_app ?_
  | with_reducible refine w_setI ?_
  | with_reducible refine w_sl ?_
  | with_reducible refine w_noPart ?_
  | with_reducible refine w_part ?_
  | with_reducible refine w_iter ?_
  | with_reducible refine w_iterT ?_
  | with_reducible refine w_range1 ?_
  | with_reducible refine w_listRg ?_
  | with_reducible refine w_enumK ?_
  | with_reducible refine w_zipK ?_
  | with_reducible refine w_repF ?_
  | with_reducible refine w_lc ?_
  | with_reducible refine w_yes ?_
  | with_reducible refine w_next ?_
  | with_reducible refine w_ret ?_
  | with_reducible refine w_retN ?_
  | with_reducible refine w_drop ?_
  | with_reducible refine w_aName ?_
  | with_reducible refine w_aTup rfl ?_
  | with_reducible refine w_aNil ?_
  | with_reducible refine w_aCons ?_
  | with_reducible refine w_ifS ?_
  | with_reducible refine w_ownS ?_
  | ((with_reducible refine w_frz (ds := ?wd) ?wh ?wq); (case wh => exact rfl))
  | with_reducible refine w_for ?_
  | ((with_reducible refine w_aug (a := ?wd) ?wh ?wq); (case wh => exact rfl))
  | with_reducible refine w_gI ?_
  | with_reducible refine w_gIB ?_
  | with_reducible refine w_gIC ?_
  | with_reducible refine w_gEqI ?_
  | with_reducible refine w_gNeI ?_
  | with_reducible refine w_gIxL ?_
  | with_reducible refine w_gIxT ?_
  | with_reducible refine w_gCat ?_
  | with_reducible refine w_gCatT ?_
  | with_reducible refine w_isN ?_
  | with_reducible refine w_notN ?_
  | with_reducible refine w_gInL ?_
  | with_reducible refine w_gLenL ?_
  | with_reducible refine w_gLenT ?_
  | with_reducible refine w_gIntI ?_
  | with_reducible refine w_gTuple ?_
  | with_reducible refine w_gBools ?_
  | with_reducible refine w_gInts ?_
  | with_reducible refine w_gNeD ?_
  | with_reducible refine w_gEqD ?_
  | with_reducible refine w_gRevL ?_
  | with_reducible refine w_gSlL ?_
  | with_reducible refine w_gSlT ?_
  | with_reducible refine w_itT ?_
  | with_reducible refine w_itF ?_
  | with_reducible refine w_itTT ?_
  | with_reducible refine w_itFT ?_
  | with_reducible refine w_gList ?_
  | with_reducible refine w_gSortI ?_
  | with_reducible refine w_range2 ?_
  | ((with_reducible refine w_lcO (ds := ?wd) ?wh ?wq ?wr); (case wh => exact rfl); (case wq => exact rfl))
  | with_reducible refine w_aUnl rfl ?_
  | with_reducible refine w_listF ?_
  | with_reducible refine w_brk ?_
  | with_reducible refine w_cnt ?_
  | with_reducible refine w_neg ?_
  | with_reducible refine w_gIntB ?_
  | simp only [wipeS, backS, List.set_cons_zero, List.set_cons_succ, List.getElem?_cons_zero, List.getElem?_cons_succ, Option.join_some, Option.join_none, Bool.not_true, Bool.not_false]))
local macro_rules | `(tactic| walk_at "wv") => `(tactic| ((repeat (walk_at "wv1"; try dsimp only)); try simp only [List.set_cons_zero, List.set_cons_succ]))
local macro_rules | `(tactic| walk_at "st") => `(tactic| simp only [startS, List.map_cons, List.map_nil, List.length_cons, List.length_nil, Nat.reduceAdd, Nat.reduceSub, List.replicate_succ, List.replicate_zero, List.cons_append, List.nil_append])

def dCh (z : List Cho) : PyData := .list (z.map fun c => .tuple [.int c.1, .list (mvD c.2)])
def EG (z : List (List (Int × Int))) (i _k j : Nat) : Prop := ∃ es e, z[i]? = some es ∧ e ∈ es ∧ e.1 = ((j : Nat) : Int)
def Rb (z : List (List (Int × Int))) (rest known : List Nat) : Nat → Prop := Rch (EG z) (fun i k => i ∈ rest ∧ k = 0) (· ∈ known)
def hitF (F : List Nat) (es : List (Int × Int)) : List (Int × Int) := es.filter fun e => decide (e.1.toNat ∈ F)
def Hit (z : List (List (Int × Int))) (F : List Nat) (x : Nat) : Prop := ∃ es, z[x]? = some es ∧ hitF F es ≠ []
def Clo (z : List (List (Int × Int))) (rest F : List Nat) : Prop := ∀ x ∈ rest, x ∉ F → ¬ Hit z F x
def cntF (rest F : List Nat) : Nat := (rest.filter fun x => decide (x ∈ F)).length
structure GOk (n : Nat) (z : List (List (Int × Int))) : Prop where
  len : z.length = n
  le : n ≤ 20
  es : ∀ es ∈ z, es.length ≤ 1000 ∧ ∀ e ∈ es, 0 ≤ e.1
section
variable {z : List (List (Int × Int))} {rest known F F' : List Nat} {n x : Nat} {es : List (Int × Int)}
theorem hit_some : hitF F es ≠ [] ↔ ∃ e ∈ es, e.1.toNat ∈ F := by
  unfold hitF
  rw [Ne, List.filter_eq_nil_iff]
  simp
theorem hit_rb (hz : GOk n z) (hx : x ∈ rest) (hF : ∀ y ∈ F, Rb z rest known y) (h : Hit z F x) : Rb z rest known x := by
  obtain ⟨es, h1, h2⟩ := h
  obtain ⟨e, h3, h4⟩ := hit_some.mp h2
  have := (hz.es es (List.mem_of_getElem? h1)).2 e h3
  exact .step ⟨hx, rfl⟩ ⟨es, e, h1, h3, by omega⟩ (hF _ h4)
theorem clo_rb (hk : ∀ y ∈ known, y ∈ F) (hc : Clo z rest F) (h : Rb z rest known x) : x ∈ F := by
  induction h with
  | goal t => exact hk _ t
  | @step s k j u e _ ih =>
    refine Classical.byContradiction fun no => hc s u.1 no ?_
    obtain ⟨es, e, h1, h2, h3⟩ := e
    exact ⟨es, h1, hit_some.mpr ⟨e, h2, by rw [h3, Int.toNat_natCast]; exact ih⟩⟩
theorem cnt_le : cntF rest F ≤ rest.length := List.length_filter_le _ _
theorem cnt_lt (h : ∀ y ∈ F, y ∈ F') (hx : x ∈ rest) (h1 : x ∉ F) (h2 : x ∈ F') : cntF rest F < cntF rest F' :=
  filter_lt (fun y _ q => decide_eq_true (h y (of_decide_eq_true q))) ⟨x, hx, decide_eq_true h2, decide_eq_false h1⟩
theorem cnt_full (h : rest.length ≤ cntF rest F) : Clo z rest F := fun x hx no _ => by
  have e := filter_same (p := fun x => decide (x ∈ F)) (l := rest) (Nat.le_antisymm (List.length_filter_le _ _) h)
  rw [← e] at hx
  exact no (of_decide_eq_true (List.mem_filter.mp hx).2)
end
theorem backward_ok {n : Nat} {z : List Cho} {zz : List (List (Int × Int))} {rest known : List Nat} {k : PyData → Prop} (hzz : zz = z.map (·.2)) (hz : GOk n zz) (hr : rest.length ≤ n) (hn : ∀ x ∈ rest, x < n) (hk : known.length ≤ 1000)
    (h : ∀ F : List Nat, (∀ x, x ∈ F ↔ Rb zz rest known x) → F.length ≤ known.length + n → k (dN F)) : (den_l_backward [dCh z, dN rest, dN known]).okTo k := by
  have n20 := hz.le
  have zl : z.length = n := by
    have := hz.len
    rwa [hzz, List.length_map] at this
  unfold den_l_backward body_l_backward dCh dN
  refine w_denP ?_
  walk_at "st"
  walk_at "wv"
  refine ⟨_, rfl, ?_⟩
  walk_at "wv"
  rw [List.length_map, zl]
  refine ⟨(n : Nat), rfl, by omega, ?_⟩
  rw [Int.toNat_natCast]
  refine loop_ok (fun i S => ∃ (F : List Nat) (a b : Option SV) (c : Option PyData), S = [some (.dat (.list (z.map fun c => .tuple [.int c.1, .list (mvD c.2)]))), some (.dat (.list (rest.map fun k => .int (k : Nat)))), some (.dat (.list (known.map fun k => .int (k : Nat)))), some (.own (F.map fun k => .int (k : Nat))), a, b, c.map SV.dat] ∧
    (∀ x ∈ F, Rb zz rest known x) ∧ (∀ x ∈ known, x ∈ F) ∧ F.length ≤ known.length + cntF rest F ∧ (Clo zz rest F ∨ i ≤ cntF rest F)) ?_ ?_ ⟨known, none, none, none, rfl, fun x hx => .goal hx, fun _ hx => hx, Nat.le_add_right _ _, .inr (Nat.zero_le _)⟩
  · rintro i d S hi ⟨F0, a, b, c, rfl, f1, f2, f3, f4⟩
    walk_at "wv"
    refine ⟨_, rfl, ?_⟩
    refine loop_ok (fun j S => ∃ (F : List Nat) (b : Option SV) (c : Option PyData), S = [some (.dat (.list (z.map fun c => .tuple [.int c.1, .list (mvD c.2)]))), some (.dat (.list (rest.map fun k => .int (k : Nat)))), some (.dat (.list (known.map fun k => .int (k : Nat)))), some (.own (F.map fun k => .int (k : Nat))), some (.dat d), b, c.map SV.dat] ∧
      (∀ x ∈ F, Rb zz rest known x) ∧ (∀ x ∈ F0, x ∈ F) ∧ F.length ≤ known.length + cntF rest F ∧ (Clo zz rest F0 → F = F0) ∧ ∀ x ∈ rest.take j, Hit zz F0 x → x ∈ F) ?_ ?_ ⟨F0, b, c, rfl, f1, fun _ hx => hx, f3, fun _ => rfl, fun x hx => nomatch hx⟩
    · rintro j dj S hj ⟨F, b, c, rfl, g1, g2, g3, g4, g5⟩
      rw [List.getElem?_map] at hj
      obtain ⟨x, hx, rfl⟩ := Option.map_eq_some_iff.mp hj
      have hxr := List.mem_of_getElem? hx
      have hxz : x < z.length := by rw [zl]; exact hn x hxr
      have ec : z[x]? = some z[x] := List.getElem?_eq_getElem hxz
      generalize z[x] = cc at ec
      have ez : zz[x]? = some cc.2 := by rw [hzz, List.getElem?_map, ec]; rfl
      generalize hes : cc.2 = es at ez
      obtain ⟨l1, l2⟩ := hz.es es (List.mem_of_getElem? ez)
      have lF : F.length ≤ 2000 := by have := cnt_le (rest := rest) (F := F); omega
      walk_at "wv"
      refine ⟨⟨rfl, flat_nats _⟩, ?_⟩
      rw [inD_nat]
      by_cases m : x ∈ F
      · rw [decide_eq_true m]
        simp only [if_true, Bool.not_true]
        walk_at "wv"
        refine ⟨F, _, c, rfl, g1, g2, g3, g4, fun y hy hh => ?_⟩
        rw [List.take_add_one, hx, List.mem_append] at hy
        rcases hy with hy | hy
        · exact g5 y hy hh
        · rw [Option.toList_some, List.mem_singleton] at hy
          rw [hy]
          exact m
      · rw [decide_eq_false m]
        simp only [if_true, Bool.not_false]
        walk_at "wv"
        refine okTo_eq (a := .tuple [.int cc.1, .list (mvD es)]) (ixD_nat (by rw [List.getElem?_map, ec, ← hes]; rfl)) ?_
        walk_at "wv"
        refine okTo_eq (a := .list (mvD es)) rfl ?_
        refine ⟨_, rfl, ⟨by cases c <;> rfl, by unfold mvD; rw [List.length_map]; omega⟩, ?_⟩
        walk_at "wv"
        refine lc_ok (fun q acc S => acc = (hitF F (es.take q)).map (fun e => PyData.tuple [.int e.1, dQ (Rat.divInt e.2 (wsum es))]) ∧ S = [some (.dat (.list (z.map fun c => .tuple [.int c.1, .list (mvD c.2)]))), some (.dat (.list (rest.map fun k => .int (k : Nat)))), some (.dat (.list (known.map fun k => .int (k : Nat)))), some (.own (F.map fun k => .int (k : Nat))), some (.dat d), some (.dat (.int (x : Nat))), none]) ?_ ?_ ⟨rfl, rfl⟩
        · rintro q dq acc S hq ⟨rfl, rfl⟩
          unfold mvD at hq
          rw [List.getElem?_map] at hq
          obtain ⟨e, he, rfl⟩ := Option.map_eq_some_iff.mp hq
          have e0 := l2 e (List.mem_of_getElem? he)
          have ee : e.1 = ((e.1.toNat : Nat) : Int) := by omega
          walk_at "wv"
          refine okTo_eq (a := .int ((e.1.toNat : Nat) : Int)) (by rw [← ee]; rfl) ?_
          walk_at "wv"
          refine ⟨⟨rfl, flat_nats _⟩, ?_⟩
          rw [inD_nat]
          have next : hitF F (es.take (q + 1)) = hitF F (es.take q) ++ if e.1.toNat ∈ F then [e] else [] := by
            unfold hitF
            rw [List.take_add_one, he, Option.toList_some, List.filter_append]
            congr 1
            by_cases c : e.1.toNat ∈ F
            · simp [c]
            · simp [c]
          rw [next]
          by_cases c : e.1.toNat ∈ F
          · rw [decide_eq_true c, if_pos c]
            simp only [Bool.false_eq_true, if_false]
            walk_at "wv"
            simp
          · rw [decide_eq_false c, if_neg c]
            simp only [Bool.false_eq_true, if_false]
            walk_at "wv"
            simp
        · rintro acc S ⟨rfl, rfl⟩
          rw [show (mvD es).length = es.length by simp [mvD], List.take_length]
          walk_at "wv"
          rw [List.length_map]
          by_cases t : hitF F es = []
          · rw [t]
            simp only [List.length_nil]
            walk_at "wv"
            refine ⟨F, _, c, rfl, g1, g2, g3, g4, fun y hy hh => ?_⟩
            rw [List.take_add_one, hx, List.mem_append] at hy
            rcases hy with hy | hy
            · exact g5 y hy hh
            · rw [Option.toList_some, List.mem_singleton] at hy
              subst hy
              obtain ⟨es', h1, h2⟩ := hh
              rw [ez] at h1
              cases h1
              obtain ⟨e, h3, h4⟩ := hit_some.mp h2
              have : hitF F es ≠ [] := hit_some.mpr ⟨e, h3, g2 _ h4⟩
              exact absurd t this
          · have pos : 0 < (hitF F es).length := List.length_pos_iff.mpr t
            have pos' : decide ((0 : Int) < ((hitF F es).length : Nat)) = true := decide_eq_true (by omega)
            rw [pos']
            walk_at "wv"
            refine ⟨by rw [List.length_map]; omega, F ++ [x], _, c, by rw [List.map_append]; rfl, ?_, ?_, ?_, ?_, ?_⟩
            · intro y hy
              rcases List.mem_append.mp hy with hy | hy
              · exact g1 y hy
              · rw [List.mem_singleton.mp hy]
                exact hit_rb hz hxr g1 ⟨es, ez, t⟩
            · exact fun y hy => List.mem_append_left _ (g2 y hy)
            · have := cnt_lt (rest := rest) (F := F) (F' := F ++ [x]) (fun y hy => List.mem_append_left _ hy) hxr m (List.mem_append_right _ (List.mem_singleton.mpr rfl))
              rw [List.length_append, List.length_singleton]
              omega
            · intro cl
              rw [g4 cl] at m t
              exact absurd ⟨es, ez, t⟩ (cl x hxr m)
            · intro y hy hh
              rw [List.take_add_one, hx, List.mem_append] at hy
              rcases hy with hy | hy
              · exact List.mem_append_left _ (g5 y hy hh)
              · rw [Option.toList_some] at hy
                exact List.mem_append_right _ hy
    · rintro S ⟨F, b, c, rfl, g1, g2, g3, g4, g5⟩
      rw [List.length_map, List.take_length] at g5
      refine ⟨F, _, b, c, rfl, g1, fun x hx => g2 x (f2 x hx), g3, ?_⟩
      by_cases cl : Clo zz rest F0
      · rw [g4 cl]
        exact .inl cl
      · right
        have f5 := f4.resolve_left cl
        have : ∃ x ∈ rest, x ∉ F0 ∧ Hit zz F0 x := Classical.byContradiction fun no => cl fun x hx h1 h2 => no ⟨x, hx, h1, h2⟩
        obtain ⟨x, hx, h1, h2⟩ := this
        have := cnt_lt g2 hx h1 (g5 x hx h2)
        omega
  · rintro S ⟨F, a, b, c, rfl, f1, f2, f3, f4⟩
    rw [rangeD_len] at f4
    walk_at "wv"
    have cl : Clo zz rest F := by
      rcases f4 with q | q
      · exact q
      · exact cnt_full (by omega)
    refine h F (fun x => ⟨f1 x, clo_rb f2 cl⟩) ?_
    have := cnt_le (rest := rest) (F := F)
    omega
end Bo

/-! ### chains: the rows of the equations, as the program makes them -/
namespace Bo
open PySem L2
local macro_rules | `(tactic| walk_at "wv1") => `(tactic| (first
  | with_reducible refine w_seq ?_
  | with_reducible refine w_asg ?_
  | ((with_reducible refine w_var (d := ?wd) ?wh ?wq); (case wh => exact rfl))
  | with_reducible refine w_c ?_
  | with_reducible refine w_op ?_
  | with_reducible refine w_un ?_
  | with_reducible refine w_and ?_
  | with_reducible refine w_or ?_
  | with_reducible refine w_not ?_
  | with_reducible refine w_toB ?_
  | with_reducible refine w_toI ?_
  | with_reducible refine w_tst ?_
  | with_reducible refine w_tnot ?_
  | with_reducible refine w_tand ?_
  | with_reducible refine w_tor ?_
  | with_reducible refine w_tru ?_
  | with_reducible refine w_if ?_
  | with_reducible refine w_chain ?_
  | with_reducible refine w_nil ?_
  | with_reducible refine w_cons ?_
  | with_reducible refine w_tup ?_
  | with_reducible refine w_lst ?_
  | with_reducible refine w_lstF ?_
  | with_reducible refine w_call ?_
  | with_reducible refine w_callP ?_
  | with_reducible refine w_callL ?_
  | ((with_reducible refine w_own (ds := ?wd) ?wh ?wq); (case wh => exact rfl))
  | with_reducible refine w_callB ?_
  | ((with_reducible refine w_callS (ns := ?wd) ?wh ?wq); (case wh => exact rfl))
  | with_reducible refine w_consO ?_
  | with_reducible refine w_fr ?_
  | with_reducible refine w_lenO ?_
  | with_reducible refine w_tupleO ?_
  | with_reducible refine w_listO ?_
  | with_reducible refine w_ixO ?_
  | with_reducible refine w_inO ?_
  | with_reducible refine w_truO ?_
  | with_reducible refine w_app ?_
  | with_reducible refine w_setI ?_
  | with_reducible refine w_sl ?_
  | with_reducible refine w_noPart ?_
  | with_reducible refine w_part ?_
  | with_reducible refine w_iter ?_
  | with_reducible refine w_iterT ?_
  | with_reducible refine w_range1 ?_
  | with_reducible refine w_listRg ?_
  | with_reducible refine w_enumK ?_
  | with_reducible refine w_zipK ?_
  | with_reducible refine w_repF ?_
  | with_reducible refine w_lc ?_
  | with_reducible refine w_yes ?_
  | with_reducible refine w_next ?_
  | with_reducible refine w_ret ?_
  | with_reducible refine w_retN ?_
  | with_reducible refine w_drop ?_
  | with_reducible refine w_aName ?_
  | with_reducible refine w_aTup rfl ?_
  | with_reducible refine w_aNil ?_
  | with_reducible refine w_aCons ?_
  | with_reducible refine w_ifS ?_
  | with_reducible refine w_ownS ?_
  | ((with_reducible refine w_frz (ds := ?wd) ?wh ?wq); (case wh => exact rfl))
  | with_reducible refine w_for ?_
  | ((with_reducible refine w_aug (a := ?wd) ?wh ?wq); (case wh => exact rfl))
  | with_reducible refine w_gI ?_
  | with_reducible refine w_gIB ?_
  | with_reducible refine w_gIC ?_
  | with_reducible refine w_gEqI ?_
  | with_reducible refine w_gNeI ?_
  | with_reducible refine w_gIxL ?_
  | with_reducible refine w_gIxT ?_
  | with_reducible refine w_gCat ?_
  | with_reducible refine w_gCatT ?_
  | with_reducible refine w_isN ?_
  | with_reducible refine w_notN ?_
  | with_reducible refine w_gInL ?_
  | with_reducible refine w_gLenL ?_
  | with_reducible refine w_gLenT ?_
  | with_reducible refine w_gIntI ?_
  | with_reducible refine w_gTuple ?_
  | with_reducible refine w_gBools ?_
  | with_reducible refine w_gInts ?_
  | with_reducible refine w_gNeD ?_
  | with_reducible refine w_gEqD ?_
  | with_reducible refine w_gRevL ?_
  | with_reducible refine w_gSlL ?_
  | with_reducible refine w_gSlT ?_
  | with_reducible refine w_itT ?_
  | with_reducible refine w_itF ?_
  | with_reducible refine w_itTT ?_
  | with_reducible refine w_itFT ?_
  | with_reducible refine w_gList ?_
  | with_reducible refine w_gSortI ?_
  | with_reducible refine w_range2 ?_
  | ((with_reducible refine w_lcO (ds := ?wd) ?wh ?wq ?wr); (case wh => exact rfl); (case wq => exact rfl))
  | with_reducible refine w_aUnl rfl ?_
  | with_reducible refine w_listF ?_
  | with_reducible refine w_brk ?_
  | with_reducible refine w_cnt ?_
  | with_reducible refine w_neg ?_
  | with_reducible refine w_gIntB ?_
  | simp only [wipeS, backS, List.set_cons_zero, List.set_cons_succ, List.getElem?_cons_zero, List.getElem?_cons_succ, Option.join_some, Option.join_none, Bool.not_true, Bool.not_false]))
local macro_rules | `(tactic| walk_at "wv") => `(tactic| ((repeat (walk_at "wv1"; try dsimp only)); try simp only [List.set_cons_zero, List.set_cons_succ]))
local macro_rules | `(tactic| walk_at "st") => `(tactic| simp only [startS, List.map_cons, List.map_nil, List.length_cons, List.length_nil, Nat.reduceAdd, Nat.reduceSub, List.replicate_succ, List.replicate_zero, List.cons_append, List.nil_append])

theorem w_dictL {i : Nat} {fa : VE} {S : SS} {kS : FL → Prop} (h : (fa S).okTo fun p => ∃ ds kvs, p.1 = .list ds ∧ pairsD ds = some kvs ∧ kS (.nx (p.2.set i (some (.dic (mergeD [] kvs)))))) : (vDictL i fa S).okTo kS := by
  unfold vDictL
  refine okTo_bind.mpr (h.mono fun p ⟨ds, kvs, e1, e2, q⟩ => ?_)
  rw [e1]
  dsimp only
  rw [e2]
  exact q
theorem w_get2 {i : Nat} {fk fx : VE} {S : SS} {kE : PyData × SS → Prop} (h : (dicD S i).okTo fun _ => (fk S).okTo fun p => (keyD p.1).okTo fun y => (fx p.2).okTo fun q => (dicD q.2 i).okTo fun kvs => kE ((valD kvs y).getD q.1, q.2)) : (vGet2 i fk fx S).okTo kE := by
  unfold vGet2
  simp only [okTo_bind]
  exact h
theorem w_index {fa fb : VE} {S : SS} {kE : PyData × SS → Prop} (h : (fa S).okTo fun p => ∃ ds, p.1 = .list ds ∧ (fb p.2).okTo fun q => (gIndex (.list ds) q.1).okTo fun z => kE (z, q.2)) : (vIndex fa fb S).okTo kE := by
  unfold vIndex
  refine okTo_bind.mpr (h.mono fun p ⟨ds, e, q⟩ => ?_)
  rw [e]
  exact okTo_bind.mpr (q.mono fun q h => okTo_bind.mpr (h.mono fun z hz => hz))
theorem minus_ok {q r : Rat} {k : PyData → Prop} (hq : Bq4 q) (hr : Bq4 r) (h : k (dQ (q - r))) : (den_minus [dQ q, dQ r]).okTo k := by
  have d1 := den_ne q
  have d2 := den_ne r
  have m3 : ∀ i j : Int, i.natAbs < 2 ^ 3000 → j.natAbs < 2 ^ 3000 → cMul i j = true := fun i j a b => cMul3 a b
  unfold den_minus body_minus
  generalize cMul = cm at m3 ⊢
  refine w_denP ?_
  walk_at "st"
  walk_at "wv"
  rw [dq_n q]
  refine okTo_ok.mpr ?_
  walk_at "wv"
  rw [dq_d r]
  refine okTo_ok.mpr ?_
  walk_at "wv"
  refine ⟨m3 _ _ hq.1 (by rw [Int.natAbs_natCast]; exact hr.2), ?_⟩
  walk_at "wv"
  rw [dq_n r]
  refine okTo_ok.mpr ?_
  walk_at "wv"
  rw [dq_d q]
  refine okTo_ok.mpr ?_
  walk_at "wv"
  refine ⟨m3 _ _ hr.1 (by rw [Int.natAbs_natCast]; exact hq.2), ?_⟩
  walk_at "wv"
  rw [dq_d q]
  refine okTo_ok.mpr ?_
  walk_at "wv"
  rw [dq_d r]
  refine okTo_ok.mpr ?_
  walk_at "wv"
  refine ⟨m3 _ _ (by rw [Int.natAbs_natCast]; exact hq.2) (by rw [Int.natAbs_natCast]; exact hr.2), ?_⟩
  walk_at "wv"
  refine ⟨rfl, ratio_ok (Int.mul_ne_zero d1 d2) (by rw [Int.natAbs_mul, Int.natAbs_natCast, Int.natAbs_natCast]; exact mul_lt3 hq.2 hr.2) ?_⟩
  rw [q_minus]
  exact h
theorem times_ok {q r : Rat} {k : PyData → Prop} (hq : Bq4 q) (hr : Bq4 r) (h : k (dQ (q * r))) : (den_times [dQ q, dQ r]).okTo k := by
  have d1 := den_ne q
  have d2 := den_ne r
  have m3 : ∀ i j : Int, i.natAbs < 2 ^ 3000 → j.natAbs < 2 ^ 3000 → cMul i j = true := fun i j a b => cMul3 a b
  unfold den_times body_times
  generalize cMul = cm at m3 ⊢
  refine w_denP ?_
  walk_at "st"
  walk_at "wv"
  rw [dq_n q]
  refine okTo_ok.mpr ?_
  walk_at "wv"
  rw [dq_n r]
  refine okTo_ok.mpr ?_
  walk_at "wv"
  refine ⟨m3 _ _ hq.1 hr.1, ?_⟩
  walk_at "wv"
  rw [dq_d q]
  refine okTo_ok.mpr ?_
  walk_at "wv"
  rw [dq_d r]
  refine okTo_ok.mpr ?_
  walk_at "wv"
  refine ⟨m3 _ _ (by rw [Int.natAbs_natCast]; exact hq.2) (by rw [Int.natAbs_natCast]; exact hr.2), ?_⟩
  walk_at "wv"
  refine ⟨rfl, ratio_ok (Int.mul_ne_zero d1 d2) (by rw [Int.natAbs_mul, Int.natAbs_natCast, Int.natAbs_natCast]; exact mul_lt3 hq.2 hr.2) ?_⟩
  rw [q_times]
  exact h
theorem Pd.b4 {s b : Nat} {q : Rat} (hs : s ≠ 0) (h : Pd s b q) (h1 : b < 2 ^ 3000) (h2 : s < 2 ^ 3000) : Bq4 q :=
  let ⟨x, y⟩ := h.small hs
  ⟨Nat.lt_of_le_of_lt x h1, Nat.lt_of_le_of_lt y h2⟩
theorem p3k : (1000000000000 : Nat) < 2 ^ 3000 ∧ (1000000000000 : Nat) < 2 ^ 8000 := by decide +kernel
/-- the chance of going to o -/
def prE (W : Int) (es : List (Int × Int)) (o : Int) : Rat := ((es.find? fun e => decide (e.1 = o)).map fun e => Rat.divInt e.2 W).getD 0
def prob (es : List (Int × Int)) (o : Int) : Rat := prE (wsum es) es o
/-- ends that are looked at -/
structure EsOk (n : Nat) (es : List (Int × Int)) : Prop where
  ne : es ≠ []
  len : es.length ≤ 20
  ends : ∀ e ∈ es, (0 ≤ e.1 ∧ e.1 < (n : Int)) ∧ 1 ≤ e.2 ∧ e.2 ≤ 1000
  rise : es.Pairwise fun x y => x.1 < y.1
theorem wsum_bd : ∀ {es : List (Int × Int)}, (∀ e ∈ es, 1 ≤ e.2 ∧ e.2 ≤ 1000) → (es.length : Int) ≤ wsum es ∧ wsum es ≤ 1000 * (es.length : Int)
  | [], _ => ⟨Int.le_refl _, Int.le_refl _⟩
  | e :: es, h => by
    obtain ⟨h1, h2⟩ := wsum_bd (es := es) fun x hx => h x (List.mem_cons_of_mem _ hx)
    obtain ⟨g1, g2⟩ := h e List.mem_cons_self
    have : wsum (e :: es) = e.2 + wsum es := rfl
    rw [this, List.length_cons]
    omega
theorem EsOk.pos {n : Nat} {es : List (Int × Int)} (h : EsOk n es) : 1 ≤ wsum es ∧ wsum es ≤ 20000 := by
  have := wsum_bd fun e he => (h.ends e he).2
  have := List.length_pos_iff.mpr h.ne
  have := h.len
  omega
theorem EsOk.pd {n : Nat} {es : List (Int × Int)} (h : EsOk n es) {e : Int × Int} (he : e ∈ es) : Pd (wsum es).natAbs 1000 (Rat.divInt e.2 (wsum es)) := by
  have := h.pos
  have : Rat.divInt e.2 (wsum es) = Rat.divInt e.2 ((wsum es).natAbs : Int) := by congr 1; omega
  rw [this]
  have := (h.ends e he).2
  exact Pd.of (by omega) (by omega)
theorem EsOk.prob {n : Nat} {es : List (Int × Int)} (h : EsOk n es) (o : Int) : Pd (wsum es).natAbs 1000 (prob es o) := by
  unfold Bo.prob prE
  cases q : es.find? fun e => decide (e.1 = o) with
  | none => exact .mono (.zero _ 0) (Nat.zero_le _)
  | some e => exact h.pd (List.mem_of_find?_eq_some q)
theorem pairs_mv {W : Int} : ∀ es : List (Int × Int), pairsD (es.map fun e => .tuple [.int e.1, dQ (Rat.divInt e.2 W)]) = some (es.map fun e => (Sum.inl e.1, dQ (Rat.divInt e.2 W)))
  | [] => rfl
  | e :: es => by
    rw [List.map_cons, pairsD, pairs_mv es]
    rfl
theorem merge_new : ∀ (l acc : List (Key × PyData)), (∀ a ∈ acc, ∀ b ∈ l, a.1 ≠ b.1) → l.Pairwise (fun a b => a.1 ≠ b.1) → mergeD acc l = acc ++ l
  | [], acc, _, _ => by rw [List.append_nil]; rfl
  | x :: l, acc, h, p => by
    have px := List.pairwise_cons.mp p
    show mergeD (putD acc x.1 x.2) l = _
    have e : putD acc x.1 x.2 = acc ++ [x] := by
      unfold putD
      rw [if_neg]
      intro z
      obtain ⟨a, ha, q⟩ := List.any_eq_true.mp z
      exact h a ha x List.mem_cons_self (of_decide_eq_true q)
    rw [e, merge_new l (acc ++ [x]) (fun a ha b hb => ?_) px.2, List.append_assoc]
    · rfl
    · rcases List.mem_append.mp ha with q | q
      · exact h a q b (List.mem_cons_of_mem x hb)
      · rw [List.mem_singleton.mp q]
        exact px.1 b hb
theorem val_mv {W : Int} {o : Int} : ∀ es : List (Int × Int), valD (es.map fun e => (Sum.inl e.1, dQ (Rat.divInt e.2 W))) (.inl o) = (es.find? fun e => decide (e.1 = o)).map fun e => dQ (Rat.divInt e.2 W)
  | [] => rfl
  | e :: es => by
    have ih := val_mv (W := W) (o := o) es
    unfold valD at ih ⊢
    rw [List.map_cons, List.find?_cons, List.find?_cons]
    by_cases c : e.1 = o
    · have : decide ((Sum.inl e.1 : Key) = Sum.inl o) = true := decide_eq_true (by rw [c])
      simp only [this, decide_eq_true c]
      rfl
    · have : decide ((Sum.inl e.1 : Key) = Sum.inl o) = false := decide_eq_false fun z => c (Sum.inl.inj z)
      simp only [this, decide_eq_false c]
      exact ih
theorem get_mv {es : List (Int × Int)} {o : Int} : (valD (es.map fun e => ((Sum.inl e.1 : Key), dQ (Rat.divInt e.2 (wsum es)))) (.inl o)).getD (dQ 0) = dQ (prob es o) := by
  rw [val_mv]
  unfold prob prE
  cases es.find? fun e => decide (e.1 = o) <;> rfl
/-- a row of the equations -/
def rowOf (hp : List Nat) (es : List (Int × Int)) (i : Nat) : List Rat := hp.map fun o => (if o = i then 1 else 0) - prob es (o : Nat)
theorem own_row_ok {z : List (List Cho)} {hp : List Nat} {i n : Nat} {c : Cho} {k : PyData → Prop} (hz : z[i]? = some [c]) (he : EsOk n c.2) (hl : hp.length ≤ 1000) (h : k (dL2 (rowOf hp c.2 i))) : (den_own_row [dY z, dN hp, .int (i : Nat)]).okTo k := by
  obtain ⟨w1, w2⟩ := he.pos
  obtain ⟨p3, p8⟩ := p3k
  unfold den_own_row body_own_row
  refine w_denP ?_
  walk_at "st"
  walk_at "wv"
  refine w_dictL ?_
  walk_at "wv"
  have wn : wsum c.2 ≠ 0 := by omega
  refine ⟨rfl, moves_ok hz (b := 0) rfl (by have := he.len; omega) wn (Nat.lt_of_le_of_lt (show (wsum c.2).natAbs ≤ 1000000000000 by omega) p8) ?_⟩
  walk_at "wv"
  have nd : (c.2.map fun e => ((Sum.inl e.1 : Key), dQ (Rat.divInt e.2 (wsum c.2)))).Pairwise fun a b => a.1 ≠ b.1 := by
    rw [List.pairwise_map]
    exact he.rise.imp fun a z => by have := Sum.inl.inj z; omega
  refine ⟨_, _, rfl, pairs_mv c.2, ?_⟩
  rw [merge_new _ [] (fun a ha => nomatch ha) nd, List.nil_append]
  walk_at "wv"
  refine ⟨by simp, ?_⟩
  walk_at "wv"
  refine ⟨_, rfl, ?_⟩
  refine loop_ok (fun p S => ∃ (e5 e6 : Option PyData), S = [some (.dat (dY z)), some (.dat (dN hp)), some (.dat (.int (i : Nat))), some (.dic (c.2.map fun e => ((Sum.inl e.1 : Key), dQ (Rat.divInt e.2 (wsum c.2))))), some (.own ((rowOf (hp.take p) c.2 i).map dQ)), e5.map SV.dat, e6.map SV.dat]) ?_ ?_ ⟨none, none, rfl⟩
  · rintro p dp S hp' ⟨e5, e6, rfl⟩
    rw [List.getElem?_map] at hp'
    obtain ⟨o, ho, rfl⟩ := Option.map_eq_some_iff.mp hp'
    walk_at "wv"
    have pb : Bq4 (prob c.2 (o : Nat)) := (he.prob _).b4 (by omega) (by omega) (by omega)
    have rest : ∀ q : Rat, q = (if o = i then 1 else 0) → Bq4 q → ((aName 6 (dQ q) [some (.dat (dY z)), some (.dat (dN hp)), some (.dat (.int (i : Nat))), some (.dic (c.2.map fun e => ((Sum.inl e.1 : Key), dQ (Rat.divInt e.2 (wsum c.2))))), some (.own ((rowOf (hp.take p) c.2 i).map dQ)), some (.dat (.int (o : Nat))), e6.map SV.dat]).okTo fun S1 => (vDrop (vApp 4 (vCallP 2 den_minus (vCons (vVar 6) (vCons (vGet2 3 (vVar 5) (vTup (vCons (vC (.int 0)) (vCons (vC (.int 1)) vNil)))) vNil)))) S1).okTo fun fl => match fl with
        | .nx S2 => ∃ (e5 e6 : Option PyData), S2 = [some (.dat (dY z)), some (.dat (dN hp)), some (.dat (.int (i : Nat))), some (.dic (c.2.map fun e => ((Sum.inl e.1 : Key), dQ (Rat.divInt e.2 (wsum c.2))))), some (.own ((rowOf (hp.take (p + 1)) c.2 i).map dQ)), e5.map SV.dat, e6.map SV.dat]
        | _ => False) := fun q hq bq => by
      walk_at "wv"
      refine w_get2 ?_
      refine okTo_eq (a := c.2.map fun e => ((Sum.inl e.1 : Key), dQ (Rat.divInt e.2 (wsum c.2)))) rfl ?_
      walk_at "wv"
      refine okTo_eq (a := Sum.inl (o : Int)) rfl ?_
      walk_at "wv"
      refine ⟨by simp, ?_⟩
      rw [zero_Q]
      walk_at "wv"
      refine okTo_eq (a := c.2.map fun e => ((Sum.inl e.1 : Key), dQ (Rat.divInt e.2 (wsum c.2)))) rfl ?_
      rw [get_mv]
      walk_at "wv"
      refine ⟨rfl, minus_ok bq pb ?_⟩
      walk_at "wv"
      refine ⟨by unfold rowOf; rw [List.length_map, List.length_map, List.length_take]; omega, some (.int (o : Nat)), some (dQ q), ?_⟩
      have rs : rowOf (hp.take (p + 1)) c.2 i = rowOf (hp.take p) c.2 i ++ [q - prob c.2 (o : Nat)] := by
        unfold rowOf
        rw [List.take_add_one, ho, Option.toList_some, List.map_append, hq]
        rfl
      rw [rs, List.map_append]
      rfl
    have one4 : Bq4 1 := ⟨Nat.lt_of_le_of_lt (show (1 : Rat).num.natAbs ≤ 1000000000000 by decide) p3, Nat.lt_of_le_of_lt (show (1 : Rat).den ≤ 1000000000000 by decide) p3⟩
    have zer4 : Bq4 0 := ⟨Nat.lt_of_le_of_lt (show (0 : Rat).num.natAbs ≤ 1000000000000 by decide) p3, Nat.lt_of_le_of_lt (show (0 : Rat).den ≤ 1000000000000 by decide) p3⟩
    by_cases q : o = i
    · rw [if_pos (decide_eq_true (by rw [q]))]
      walk_at "wv"
      refine ⟨by simp, ?_⟩
      rw [one_Q]
      refine (rest 1 (by rw [if_pos q]) one4).mono fun S1 h1 => h1.mono fun fl h2 => ?_
      cases fl <;> first | exact h2 | exact h2.elim
    · rw [if_neg (by simp; omega)]
      walk_at "wv"
      refine ⟨by simp, ?_⟩
      rw [zero_Q]
      refine (rest 0 (by rw [if_neg q]) zer4).mono fun S1 h1 => h1.mono fun fl h2 => ?_
      cases fl <;> first | exact h2 | exact h2.elim
  · rintro S ⟨e5, e6, rfl⟩
    rw [List.length_map, List.take_length]
    walk_at "wv"
    exact h
end Bo

/-! ### chains: the right sides, and what is settled -/
namespace Bo
open PySem L2
local macro_rules | `(tactic| walk_at "wv1") => `(tactic| (first
  | with_reducible refine w_seq ?_
  | with_reducible refine w_asg ?_
  | ((with_reducible refine w_var (d := ?wd) ?wh ?wq); (case wh => exact rfl))
  | with_reducible refine w_c ?_
  | with_reducible refine w_op ?_
  | with_reducible refine w_un ?_
  | with_reducible refine w_and ?_
  | with_reducible refine w_or ?_
  | with_reducible refine w_not ?_
  | with_reducible refine w_toB ?_
  | with_reducible refine w_toI ?_
  | with_reducible refine w_tst ?_
  | with_reducible refine w_tnot ?_
  | with_reducible refine w_tand ?_
  | with_reducible refine w_tor ?_
  | with_reducible refine w_tru ?_
  | with_reducible refine w_if ?_
  | with_reducible refine w_chain ?_
  | with_reducible refine w_nil ?_
  | with_reducible refine w_cons ?_
  | with_reducible refine w_tup ?_
  | with_reducible refine w_lst ?_
  | with_reducible refine w_lstF ?_
  | with_reducible refine w_call ?_
  | with_reducible refine w_callP ?_
  | with_reducible refine w_callL ?_
  | ((with_reducible refine w_own (ds := ?wd) ?wh ?wq); (case wh => exact rfl))
  | with_reducible refine w_callB ?_
  | ((with_reducible refine w_callS (ns := ?wd) ?wh ?wq); (case wh => exact rfl))
  | with_reducible refine w_consO ?_
  | with_reducible refine w_fr ?_
  | with_reducible refine w_lenO ?_
  | with_reducible refine w_tupleO ?_
  | with_reducible refine w_listO ?_
  | with_reducible refine w_ixO ?_
  | with_reducible refine w_inO ?_
  | with_reducible refine w_truO ?_
  | with_reducible refine w_app ?_
  | with_reducible refine w_setI ?_
  | with_reducible refine w_sl ?_
  | with_reducible refine w_noPart ?_
  | with_reducible refine w_part ?_
  | with_reducible refine w_iter ?_
  | with_reducible refine w_iterT ?_
  | with_reducible refine w_range1 ?_
  | with_reducible refine w_listRg ?_
  | with_reducible refine w_enumK ?_
  | with_reducible refine w_zipK ?_
  | with_reducible refine w_repF ?_
  | with_reducible refine w_lc ?_
  | with_reducible refine w_yes ?_
  | with_reducible refine w_next ?_
  | with_reducible refine w_ret ?_
  | with_reducible refine w_retN ?_
  | with_reducible refine w_drop ?_
  | with_reducible refine w_aName ?_
  | with_reducible refine w_aTup rfl ?_
  | with_reducible refine w_aNil ?_
  | with_reducible refine w_aCons ?_
  | with_reducible refine w_ifS ?_
  | with_reducible refine w_ownS ?_
  | ((with_reducible refine w_frz (ds := ?wd) ?wh ?wq); (case wh => exact rfl))
  | with_reducible refine w_for ?_
  | ((with_reducible refine w_aug (a := ?wd) ?wh ?wq); (case wh => exact rfl))
  | with_reducible refine w_gI ?_
  | with_reducible refine w_gIB ?_
  | with_reducible refine w_gIC ?_
  | with_reducible refine w_gEqI ?_
  | with_reducible refine w_gNeI ?_
  | with_reducible refine w_gIxL ?_
  | with_reducible refine w_gIxT ?_
  | with_reducible refine w_gCat ?_
  | with_reducible refine w_gCatT ?_
  | with_reducible refine w_isN ?_
  | with_reducible refine w_notN ?_
  | with_reducible refine w_gInL ?_
  | with_reducible refine w_gLenL ?_
  | with_reducible refine w_gLenT ?_
  | with_reducible refine w_gIntI ?_
  | with_reducible refine w_gTuple ?_
  | with_reducible refine w_gBools ?_
  | with_reducible refine w_gInts ?_
  | with_reducible refine w_gNeD ?_
  | with_reducible refine w_gEqD ?_
  | with_reducible refine w_gRevL ?_
  | with_reducible refine w_gSlL ?_
  | with_reducible refine w_gSlT ?_
  | with_reducible refine w_itT ?_
  | with_reducible refine w_itF ?_
  | with_reducible refine w_itTT ?_
  | with_reducible refine w_itFT ?_
  | with_reducible refine w_gList ?_
  | with_reducible refine w_gSortI ?_
  | with_reducible refine w_range2 ?_
  | ((with_reducible refine w_lcO (ds := ?wd) ?wh ?wq ?wr); (case wh => exact rfl); (case wq => exact rfl))
  | with_reducible refine w_aUnl rfl ?_
  | with_reducible refine w_listF ?_
  | with_reducible refine w_brk ?_
  | with_reducible refine w_cnt ?_
  | with_reducible refine w_neg ?_
  | with_reducible refine w_gIntB ?_
  | simp only [wipeS, backS, List.set_cons_zero, List.set_cons_succ, List.getElem?_cons_zero, List.getElem?_cons_succ, Option.join_some, Option.join_none, Bool.not_true, Bool.not_false]))
local macro_rules | `(tactic| walk_at "wv") => `(tactic| ((repeat (walk_at "wv1"; try dsimp only)); try simp only [List.set_cons_zero, List.set_cons_succ]))
local macro_rules | `(tactic| walk_at "st") => `(tactic| simp only [startS, List.map_cons, List.map_nil, List.length_cons, List.length_nil, Nat.reduceAdd, Nat.reduceSub, List.replicate_succ, List.replicate_zero, List.cons_append, List.nil_append])

theorem in_dN {k : Nat} {hp : List Nat} : gIn false (.int (k : Nat)) (dN hp) = .ok (.bool (decide (k ∈ hp))) := by
  unfold gIn dN
  show R.when (flatD (.int (k : Nat)) = true ∧ (hp.map fun k => PyData.int (k : Nat)).all flatD = true) _ = _
  rw [inD_nat]
  exact if_pos ⟨rfl, flat_nats hp⟩
theorem in_dNN {k : Nat} {hp : List Nat} : gIn true (.int (k : Nat)) (dN hp) = .ok (.bool (!decide (k ∈ hp))) := by
  unfold gIn dN
  show R.when (flatD (.int (k : Nat)) = true ∧ (hp.map fun k => PyData.int (k : Nat)).all flatD = true) _ = _
  rw [inD_nat]
  exact if_pos ⟨rfl, flat_nats hp⟩
/-- what the ends outside add -/
def sOut (W : Int) (hp : List Nat) (vals : List Rat) : List (Int × Int) → Rat
  | [] => 0
  | e :: es => (if e.1.toNat ∈ hp then 0 else Rat.divInt e.2 W * vals.getD e.1.toNat 0) + sOut W hp vals es
theorem sOut_app {W : Int} {hp : List Nat} {vals : List Rat} : ∀ a b : List (Int × Int), sOut W hp vals (a ++ b) = sOut W hp vals a + sOut W hp vals b
  | [], b => by simp only [sOut, List.nil_append]; grind
  | e :: a, b => by
    simp only [sOut, List.cons_append, sOut_app a b]
    grind
def sideOf (hp : List Nat) (vals paid : List Rat) (es : List (Int × Int)) (i : Nat) : Rat := paid.getD i 0 + sOut (wsum es) hp vals es
theorem sOut_pd {t u : Nat} {hp : List Nat} {vals : List Rat} {W : Int} (hW : 1 ≤ W) : ∀ es : List (Int × Int), (∀ e ∈ es, 1 ≤ e.2 ∧ e.2 ≤ 1000) → (∀ e ∈ es, Pd t u (vals.getD e.1.toNat 0)) → Pd (W.natAbs * t) (es.length * (1000 * u)) (sOut W hp vals es)
  | [], _, _ => .mono (.zero _ 0) (Nat.zero_le _)
  | e :: es, h, g => by
    have ih := sOut_pd (hp := hp) hW es (fun x hx => h x (List.mem_cons_of_mem e hx)) fun x hx => g x (List.mem_cons_of_mem e hx)
    have h1 := h e List.mem_cons_self
    have one : Pd (W.natAbs * t) (1000 * u) (if e.1.toNat ∈ hp then 0 else Rat.divInt e.2 W * vals.getD e.1.toNat 0) := by
      split
      · exact .mono (.zero _ 0) (Nat.zero_le _)
      · have : Rat.divInt e.2 W = Rat.divInt e.2 (W.natAbs : Int) := by congr 1; omega
        rw [this]
        exact (Pd.of (by omega) (show e.2.natAbs ≤ 1000 by omega)).mul (g e List.mem_cons_self)
    have := one.add ih
    rw [List.length_cons, Nat.succ_mul, Nat.add_comm]
    exact this
/-- a chain of at most 20 states -/
structure ChOk (z : List (List Cho)) : Prop where
  len : z.length ≤ 20
  at_ : ∀ i, i < z.length → z[i]? = some [cAt z i 0] ∧ EsOk z.length (cAt z i 0).2
def eAt (z : List (List Cho)) (i : Nat) : List (Int × Int) := (cAt z i 0).2
/-- numbers that are known, and what is paid -/
structure ValOk (n t u : Nat) (vals paid : List Rat) : Prop where
  lv : vals.length = n
  lp : paid.length = n
  v : ∀ q ∈ vals, Pd t u q
  p : ∀ i, i < n → Pd t u (paid.getD i 0)
  t0 : t ≠ 0
  t1 : t < 2 ^ 1000
  u1 : u < 2 ^ 1000
theorem p1000b : 2 ^ 1000 * 20000 < 2 ^ 3000 ∧ 1000 * 2 ^ 1000 < 2 ^ 3000 ∧ 20000 * 2 ^ 1000 + 20 * (1000 * 2 ^ 1000) < 2 ^ 3000 ∧ (2 : Nat) ^ 1000 < 2 ^ 3000 ∧ 20000 * 2 ^ 1000 < 2 ^ 3000 := by decide +kernel
theorem outside_ok {z : List (List Cho)} {hp : List Nat} {vals paid : List Rat} {t u i : Nat} {k : PyData → Prop} (hz : ChOk z) (hi : i < z.length) (hv : ValOk z.length t u vals paid) (h : k (dQ (sideOf hp vals paid (eAt z i) i))) : (den_outside_part [dY z, dL2 vals, dN hp, dL2 paid, .int (i : Nat)]).okTo k := by
  obtain ⟨z1, he⟩ := hz.at_ i hi
  obtain ⟨w1, w2⟩ := he.pos
  obtain ⟨p3, p8⟩ := p3k
  unfold den_outside_part body_outside_part
  refine w_denP ?_
  walk_at "st"
  walk_at "wv"
  have ep : paid[i]? = some (paid.getD i 0) := by rw [List.getD_eq_getElem?_getD, List.getElem?_eq_getElem (show i < paid.length by rw [hv.lp]; exact hi)]; rfl
  refine okTo_eq (a := dQ (paid.getD i 0)) (ixD_nat (ds := paid.map dQ) (by rw [List.getElem?_map, ep]; rfl)) ?_
  walk_at "wv"
  have wn : wsum (cAt z i 0).2 ≠ 0 := by omega
  refine ⟨rfl, moves_ok z1 (b := 0) rfl (by have := he.len; omega) wn (Nat.lt_of_le_of_lt (show (wsum (cAt z i 0).2).natAbs ≤ 1000000000000 by omega) p8) ?_⟩
  have ee : (cAt z i 0).2 = eAt z i := rfl
  rw [ee] at he w1 w2 wn ⊢
  generalize eAt z i = es at he w1 w2 wn h ⊢
  walk_at "wv"
  refine ⟨mvD es, rfl, ?_⟩
  refine loop_ok (fun p S => ∃ (e6 e7 : Option PyData), S = [some (.dat (dY z)), some (.dat (dL2 vals)), some (.dat (dN hp)), some (.dat (dL2 paid)), some (.dat (.int (i : Nat))), some (.dat (dQ (paid.getD i 0 + sOut (wsum es) hp vals (es.take p)))), e6.map SV.dat, e7.map SV.dat]) ?_ ?_ ⟨none, none, by
    have : paid.getD i 0 + sOut (wsum es) hp vals (es.take 0) = paid.getD i 0 := by
      rw [List.take_zero]
      simp only [sOut]
      grind
    rw [this]
    rfl⟩
  · rintro p dp S hp' ⟨e6, e7, rfl⟩
    unfold mvD at hp'
    rw [List.getElem?_map] at hp'
    obtain ⟨e, hee, rfl⟩ := Option.map_eq_some_iff.mp hp'
    have em := List.mem_of_getElem? hee
    obtain ⟨⟨g0, g1⟩, g2, g3⟩ := he.ends e em
    obtain ⟨j, hj⟩ : ∃ j : Nat, e.1 = (j : Int) := ⟨e.1.toNat, by omega⟩
    have jn : j < z.length := by omega
    rw [hj]
    walk_at "wv"
    refine okTo_eq in_dNN ?_
    walk_at "wv"
    have sn : sOut (wsum es) hp vals (es.take (p + 1)) = sOut (wsum es) hp vals (es.take p) + if j ∈ hp then 0 else Rat.divInt e.2 (wsum es) * vals.getD j 0 := by
      rw [List.take_add_one, hee, Option.toList_some, sOut_app]
      simp only [sOut]
      rw [hj, Int.toNat_natCast]
      grind
    by_cases c : j ∈ hp
    · rw [if_neg (by simp [c])]
      walk_at "wv"
      refine ⟨some (.int (j : Nat)), some (dQ (Rat.divInt e.2 (wsum es))), ?_⟩
      rw [sn, if_pos c, show sOut (wsum es) hp vals (es.take p) + 0 = sOut (wsum es) hp vals (es.take p) by grind]
      rfl
    · rw [if_pos (by simp [c])]
      walk_at "wv"
      have ev : vals[j]? = some (vals.getD j 0) := by rw [List.getD_eq_getElem?_getD, List.getElem?_eq_getElem (show j < vals.length by rw [hv.lv]; exact jn)]; rfl
      refine okTo_eq (a := dQ (vals.getD j 0)) (ixD_nat (ds := vals.map dQ) (by rw [List.getElem?_map, ev]; rfl)) ?_
      walk_at "wv"
      obtain ⟨q1, q2, q3, q4, q5⟩ := p1000b
      have t1 := hv.t1
      have u1 := hv.u1
      have pc := he.pd em
      have pv := hv.v _ (List.mem_of_getElem? ev)
      have pm := pc.mul pv
      have wt : (wsum es).natAbs * t < 2 ^ 3000 := by
        refine Nat.lt_of_le_of_lt (Nat.mul_le_mul (show (wsum es).natAbs ≤ 20000 by omega) (Nat.le_of_lt t1)) ?_
        exact q5
      have wt0 : (wsum es).natAbs * t ≠ 0 := Nat.mul_ne_zero (by omega) hv.t0
      have um : 1000 * u < 2 ^ 3000 := Nat.lt_of_le_of_lt (Nat.mul_le_mul_left 1000 (Nat.le_of_lt u1)) q2
      refine ⟨rfl, times_ok (pc.b4 (by omega) (by omega) (by omega)) (pv.b4 hv.t0 (Nat.lt_trans u1 q4) (Nat.lt_trans t1 q4)) ?_⟩
      walk_at "wv"
      have ps := sOut_pd (t := t) (u := u) (hp := hp) (vals := vals) w1 (es.take p) (fun x hx => (he.ends x (List.mem_of_mem_take hx)).2) fun x hx => by
        obtain ⟨⟨a, b⟩, _⟩ := he.ends x (List.mem_of_mem_take hx)
        have : x.1.toNat < vals.length := by rw [hv.lv]; omega
        rw [List.getD_eq_getElem?_getD, List.getElem?_eq_getElem this]
        exact hv.v _ (List.getElem_mem this)
      have pp := (hv.p i hi).scale (t := (wsum es).natAbs)
      rw [Nat.mul_comm t] at pp
      have pt := pp.add ps
      have tl : (es.take p).length ≤ 20 := by have := he.len; rw [List.length_take]; omega
      have bt : u * (wsum es).natAbs + (es.take p).length * (1000 * u) < 2 ^ 3000 := by
        refine Nat.lt_of_le_of_lt (Nat.add_le_add ?_ (Nat.mul_le_mul tl (Nat.mul_le_mul_left 1000 (Nat.le_of_lt u1)))) q3
        rw [Nat.mul_comm]
        exact Nat.mul_le_mul (show (wsum es).natAbs ≤ 20000 by omega) (Nat.le_of_lt u1)
      refine ⟨rfl, plus_ok (pt.b4 wt0 bt wt) (pm.b4 wt0 um wt) ?_⟩
      walk_at "wv"
      refine ⟨some (.int (j : Nat)), some (dQ (Rat.divInt e.2 (wsum es))), ?_⟩
      rw [sn, if_neg c, show paid.getD i 0 + (sOut (wsum es) hp vals (es.take p) + Rat.divInt e.2 (wsum es) * vals.getD j 0) = paid.getD i 0 + sOut (wsum es) hp vals (es.take p) + Rat.divInt e.2 (wsum es) * vals.getD j 0 by grind]
      rfl
  · rintro S ⟨e6, e7, rfl⟩
    rw [show (mvD es).length = es.length by simp [mvD], List.take_length]
    walk_at "wv"
    exact h
def rowsOf (z : List (List Cho)) (hp : List Nat) : List (List Rat) := hp.map fun i => rowOf hp (eAt z i) i
def sidesOf (z : List (List Cho)) (hp : List Nat) (vals paid : List Rat) : List Rat := hp.map fun i => sideOf hp vals paid (eAt z i) i
def setAll (vals : List Rat) (hp : List Nat) (u : Nat → Rat) : Nat → List Rat
  | 0 => vals
  | k + 1 => (setAll vals hp u k).set (hp.getD k 0) (u k)
theorem setAll_len {vals : List Rat} {hp : List Nat} {u : Nat → Rat} : ∀ k, (setAll vals hp u k).length = vals.length
  | 0 => rfl
  | k + 1 => by unfold setAll; rw [List.length_set, setAll_len k]
theorem set_map {vs : List Rat} {i : Nat} {q : Rat} : (vs.map dQ).set i (dQ q) = (vs.set i q).map dQ := by rw [List.map_set]
theorem settled_ok {z : List (List Cho)} {hp : List Nat} {vals paid : List Rat} {t u : Nat} {Sol : (Nat → Rat) → Prop} {k : PyData → Prop} (hz : ChOk z) (hh : ∀ i ∈ hp, i < z.length) (hl : hp.length ≤ 20) (hv : ValOk z.length t u vals paid)
    (hs : ∀ k' : PyData → Prop, (∀ x, Sol x → k' (dL2 ((List.range hp.length).map x))) → (den_solve [dM (rowsOf z hp), dL2 (sidesOf z hp vals paid)]).okTo k') (h : ∀ x, Sol x → k (dL2 (setAll vals hp x hp.length))) : (den_settled [dY z, dL2 vals, dN hp, dL2 paid]).okTo k := by
  unfold den_settled body_settled
  refine w_denP ?_
  walk_at "st"
  walk_at "wv"
  refine ⟨_, rfl, ?_⟩
  walk_at "wv"
  refine ⟨_, rfl, ⟨rfl, by rw [List.length_map]; omega⟩, ?_⟩
  refine lc_ok (fun p acc Z => acc = ((hp.take p).map fun i => rowOf hp (eAt z i) i).map dL2 ∧ Z = [some (.dat (dY z)), some (.dat (dL2 vals)), some (.dat (dN hp)), some (.dat (dL2 paid)), some (.own (vals.map dQ)), none, none, none]) ?_ ?_ ⟨rfl, rfl⟩
  · rintro p dp acc Z hp' ⟨rfl, rfl⟩
    rw [List.getElem?_map] at hp'
    obtain ⟨o, ho, rfl⟩ := Option.map_eq_some_iff.mp hp'
    have on := hh o (List.mem_of_getElem? ho)
    walk_at "wv"
    refine ⟨rfl, own_row_ok (hz.at_ o on).1 (hz.at_ o on).2 (by omega) ?_⟩
    walk_at "wv"
    rw [List.take_add_one, ho, Option.toList_some, List.map_append, List.map_append]
    exact ⟨rfl, by first | trivial | rfl⟩
  rintro acc Z ⟨rfl, rfl⟩
  rw [List.length_map, List.take_length]
  walk_at "wv"
  refine ⟨_, rfl, ⟨rfl, by rw [List.length_map]; omega⟩, ?_⟩
  refine lc_ok (fun p acc Z => acc = ((hp.take p).map fun i => sideOf hp vals paid (eAt z i) i).map dQ ∧ Z = [some (.dat (dY z)), some (.dat (dL2 vals)), some (.dat (dN hp)), some (.dat (dL2 paid)), some (.own (vals.map dQ)), none, none, none]) ?_ ?_ ⟨rfl, rfl⟩
  · rintro p dp acc Z hp' ⟨rfl, rfl⟩
    rw [List.getElem?_map] at hp'
    obtain ⟨o, ho, rfl⟩ := Option.map_eq_some_iff.mp hp'
    have on := hh o (List.mem_of_getElem? ho)
    walk_at "wv"
    refine ⟨rfl, outside_ok hz on hv ?_⟩
    walk_at "wv"
    rw [List.take_add_one, ho, Option.toList_some, List.map_append, List.map_append]
    exact ⟨rfl, by first | trivial | rfl⟩
  rintro acc Z ⟨rfl, rfl⟩
  rw [List.length_map, List.take_length]
  walk_at "wv"
  refine ⟨rfl, hs _ fun x hx => ?_⟩
  walk_at "wv"
  refine ⟨_, _, _, _, rfl, rfl, rfl, ?_⟩
  have zg : ∀ p, p < hp.length → (zipD (hp.map fun k => PyData.int (k : Nat)) (((List.range hp.length).map x).map dQ))[p]? = some (.tuple [.int (hp.getD p 0 : Nat), dQ (x p)]) := fun p hp' => by
    unfold zipD
    rw [List.getElem?_map]
    have : ((hp.map fun k => PyData.int (k : Nat)).zip (((List.range hp.length).map x).map dQ))[p]? = some (.int (hp.getD p 0 : Nat), dQ (x p)) := by
      rw [List.getElem?_zip_eq_some]
      refine ⟨?_, ?_⟩
      · rw [List.getElem?_map, List.getD_eq_getElem?_getD, List.getElem?_eq_getElem hp']
        rfl
      · rw [List.getElem?_map, List.getElem?_map, List.getElem?_range hp']
        rfl
    rw [this]
    rfl
  have zl : (zipD (hp.map fun k => PyData.int (k : Nat)) (((List.range hp.length).map x).map dQ)).length = hp.length := by
    unfold zipD
    simp
  refine loop_ok (fun p S => ∃ (e6 e7 : Option PyData), S = [some (.dat (dY z)), some (.dat (dL2 vals)), some (.dat (dN hp)), some (.dat (dL2 paid)), some (.own ((setAll vals hp x p).map dQ)), some (.dat (dL2 ((List.range hp.length).map x))), e6.map SV.dat, e7.map SV.dat]) ?_ ?_ ⟨none, none, rfl⟩
  · rintro p dp S hp' ⟨e6, e7, rfl⟩
    have pl : p < hp.length := by
      have := (List.getElem?_eq_some_iff.mp hp').1
      rwa [zl] at this
    rw [zg p pl] at hp'
    cases hp'
    have hm : hp.getD p 0 < z.length := by
      refine hh _ ?_
      rw [List.getD_eq_getElem?_getD, List.getElem?_eq_getElem pl]
      exact List.getElem_mem pl
    walk_at "wv"
    refine ⟨hp.getD p 0, by rw [List.length_map, setAll_len, hv.lv]; exact ixN_nat hm, some (.int (hp.getD p 0 : Nat)), some (dQ (x p)), ?_⟩
    rw [set_map]
    rfl
  · rintro S ⟨e6, e7, rfl⟩
    rw [zl]
    walk_at "wv"
    exact h x hx
end Bo

/-! ### chains: the equations have one solution, and how great their numbers are -/
namespace Bo
open PySem L2
theorem sm_congr {u v : Nat → Rat} {r : Row} : ∀ cs : List Nat, (∀ c ∈ cs, u c = v c) → sm u r cs = sm v r cs
  | [], _ => rfl
  | c :: cs, h => by
    simp only [sm]
    rw [h c List.mem_cons_self, sm_congr cs fun d hd => h d (List.mem_cons_of_mem c hd)]
theorem sm_congr2 {u : Nat → Rat} {r s : Row} : ∀ cs : List Nat, (∀ c ∈ cs, r c = s c) → sm u r cs = sm u s cs
  | [], _ => rfl
  | c :: cs, h => by
    simp only [sm]
    rw [h c List.mem_cons_self, sm_congr2 cs fun d hd => h d (List.mem_cons_of_mem c hd)]
theorem sm_uz {u : Nat → Rat} {r : Row} : ∀ cs : List Nat, (∀ c ∈ cs, u c = 0) → sm u r cs = 0
  | [], _ => rfl
  | c :: cs, h => by
    simp only [sm]
    rw [h c List.mem_cons_self, sm_uz cs fun d hd => h d (List.mem_cons_of_mem c hd)]
    grind
/-- what x is worth at the state o -/
def xAt (hp : List Nat) (x : Nat → Rat) (o : Nat) : Rat := sm x (fun j => if hp.getD j 0 = o then 1 else 0) (List.range hp.length)
theorem nd_at {hp : List Nat} (nd : hp.Nodup) {i j : Nat} (hi : i < hp.length) (hj : j < hp.length) (h : hp.getD j 0 = hp.getD i 0) : j = i := by
  rw [List.getD_eq_getElem?_getD, List.getD_eq_getElem?_getD, List.getElem?_eq_getElem hi, List.getElem?_eq_getElem hj] at h
  have h : hp[j] = hp[i] := h
  have pw := List.pairwise_iff_getElem.mp nd
  rcases Nat.lt_trichotomy j i with q | q | q
  · exact absurd h (pw j i hj hi q)
  · exact q
  · exact absurd h.symm (pw i j hi hj q)
theorem xAt_at {hp : List Nat} {x : Nat → Rat} (nd : hp.Nodup) {i : Nat} (hi : i < hp.length) : xAt hp x (hp.getD i 0) = x i := by
  unfold xAt
  rw [sm_one (k := i) hp.length fun d hd => by
    by_cases e : d = i
    · subst e
      rw [if_pos rfl, if_pos rfl]
    · rw [if_neg e, if_neg fun z => e (nd_at nd hi hd z)], if_pos hi]
theorem xAt_out {hp : List Nat} {x : Nat → Rat} {o : Nat} (h : o ∉ hp) : xAt hp x o = 0 := by
  unfold xAt
  refine sm_zero _ fun c hc => if_neg fun z => h ?_
  have cl := List.mem_range.mp hc
  rw [← z, List.getD_eq_getElem?_getD, List.getElem?_eq_getElem cl]
  exact List.getElem_mem cl
def pSum (W : Int) (es : List (Int × Int)) (o : Int) : Rat := match es with
  | [] => 0
  | e :: es => (if e.1 = o then Rat.divInt e.2 W else 0) + pSum W es o
theorem pSum_none {W o : Int} : ∀ {es : List (Int × Int)}, (∀ e ∈ es, e.1 ≠ o) → pSum W es o = 0
  | [], _ => rfl
  | e :: es, h => by
    unfold pSum
    rw [if_neg (h e List.mem_cons_self), pSum_none fun x hx => h x (List.mem_cons_of_mem e hx)]
    grind
theorem prE_sum {W o : Int} : ∀ {es : List (Int × Int)}, (es.Pairwise fun x y => x.1 < y.1) → prE W es o = pSum W es o
  | [], _ => rfl
  | e :: es, p => by
    have pe := List.pairwise_cons.mp p
    have ih := prE_sum (W := W) (o := o) pe.2
    unfold prE at ih ⊢
    unfold pSum
    rw [List.find?_cons]
    by_cases c : e.1 = o
    · simp only [decide_eq_true c, if_pos c]
      rw [pSum_none fun x hx z => by have := pe.1 x hx; omega]
      show Rat.divInt e.2 W = Rat.divInt e.2 W + 0
      grind
    · simp only [decide_eq_false c, if_neg c]
      rw [ih]
      grind
/-- the mean of what x is worth behind a choice -/
def mX (W : Int) (X : Nat → Rat) : List (Int × Int) → Rat
  | [] => 0
  | e :: es => Rat.divInt e.2 W * X e.1.toNat + mX W X es
theorem sm_prob {W : Int} {hp : List Nat} {x : Nat → Rat} : ∀ es : List (Int × Int), (∀ e ∈ es, 0 ≤ e.1) → sm x (fun j => pSum W es (hp.getD j 0 : Nat)) (List.range hp.length) = mX W (xAt hp x) es
  | [], _ => sm_zero _ fun _ _ => rfl
  | e :: es, h => by
    have ih := sm_prob (W := W) (hp := hp) (x := x) es fun y hy => h y (List.mem_cons_of_mem e hy)
    have e0 := h e List.mem_cons_self
    unfold mX
    rw [← ih]
    have split : ∀ cs : List Nat, sm x (fun j => pSum W (e :: es) (hp.getD j 0 : Nat)) cs = Rat.divInt e.2 W * sm x (fun j => if hp.getD j 0 = e.1.toNat then 1 else 0) cs + sm x (fun j => pSum W es (hp.getD j 0 : Nat)) cs := by
      intro cs
      induction cs with
      | nil => simp only [sm]; grind
      | cons c cs ihc =>
        simp only [sm]
        rw [ihc]
        have : pSum W (e :: es) (hp.getD c 0 : Nat) = (if hp.getD c 0 = e.1.toNat then Rat.divInt e.2 W else 0) + pSum W es (hp.getD c 0 : Nat) := by
          show (if e.1 = ((hp.getD c 0 : Nat) : Int) then _ else _) + _ = _
          by_cases q : hp.getD c 0 = e.1.toNat
          · rw [if_pos (by omega), if_pos q]
          · rw [if_neg (by omega), if_neg q]
        rw [this]
        by_cases q : hp.getD c 0 = e.1.toNat
        · rw [if_pos q, if_pos q]
          grind
        · rw [if_neg q, if_neg q]
          grind
    rw [split]
    rfl
theorem cell_at {z : List (List Cho)} {hp : List Nat} {i j : Nat} (hi : i < hp.length) (hj : j < hp.length) : cell (rowsOf z hp) i j = (if hp.getD j 0 = hp.getD i 0 then 1 else 0) - prob (eAt z (hp.getD i 0)) (hp.getD j 0 : Nat) := by
  unfold cell rowsOf
  have ei : hp[i]? = some (hp.getD i 0) := by rw [List.getD_eq_getElem?_getD, List.getElem?_eq_getElem hi]; rfl
  have ej : hp[j]? = some (hp.getD j 0) := by rw [List.getD_eq_getElem?_getD, List.getElem?_eq_getElem hj]; rfl
  have e1 : (hp.map fun i => rowOf hp (eAt z i) i).getD i [] = rowOf hp (eAt z (hp.getD i 0)) (hp.getD i 0) := by
    rw [List.getD_eq_getElem?_getD, List.getElem?_map, ei]
    rfl
  rw [e1]
  unfold rowOf
  rw [List.getD_eq_getElem?_getD, List.getElem?_map, ej]
  rfl
theorem cell_sm {z : List (List Cho)} {hp : List Nat} {x : Nat → Rat} (hz : ChOk z) (hh : ∀ i ∈ hp, i < z.length) (nd : hp.Nodup) {i : Nat} (hi : i < hp.length) : sm x (cell (rowsOf z hp) i) (List.range hp.length) = x i - mX (wsum (eAt z (hp.getD i 0))) (xAt hp x) (eAt z (hp.getD i 0)) := by
  have hm : hp.getD i 0 < z.length := by
    refine hh _ ?_
    rw [List.getD_eq_getElem?_getD, List.getElem?_eq_getElem hi]
    exact List.getElem_mem hi
  have he := (hz.at_ _ hm).2
  have ee : (cAt z (hp.getD i 0) 0).2 = eAt z (hp.getD i 0) := rfl
  rw [ee] at he
  rw [sm_congr2 (s := rAdd (fun j => if hp.getD j 0 = hp.getD i 0 then 1 else 0) (fun j => pSum (wsum (eAt z (hp.getD i 0))) (eAt z (hp.getD i 0)) (hp.getD j 0 : Nat)) (-1)) _ fun c hc => by
    rw [cell_at hi (List.mem_range.mp hc)]
    simp only [rAdd]
    unfold prob
    rw [prE_sum he.rise]
    grind, sm_add, sm_prob _ fun e h => (he.ends e h).1.1]
  have := xAt_at (x := x) nd hi
  unfold xAt at this
  rw [this]
  grind
theorem frac_pos {a W : Int} (ha : 1 ≤ a) (hW : 1 ≤ W) : 0 < Rat.divInt a W := by
  rw [Rat.divInt_eq_div]
  have h1 : (0 : Rat) < (a : Rat) := by exact_mod_cast (show (0 : Int) < a by omega)
  have h2 : (0 : Rat) < (W : Rat) := by exact_mod_cast (show (0 : Int) < W by omega)
  rw [Rat.div_def]
  exact Rat.mul_pos h1 (Rat.inv_pos.mpr h2)
theorem mX_le {W : Int} {X : Nat → Rat} {M : Rat} (hW : 1 ≤ W) : ∀ es : List (Int × Int), (∀ e ∈ es, 1 ≤ e.2) → (∀ e ∈ es, X e.1.toNat ≤ M) → mX W X es ≤ Rat.divInt (wsum es) W * M ∧ ((∃ e ∈ es, X e.1.toNat < M) → mX W X es < Rat.divInt (wsum es) W * M)
  | [], _, _ => by
    have : Rat.divInt (wsum []) W * M = 0 := by
      have : wsum [] = 0 := rfl
      rw [this, Rat.zero_divInt]
      grind
    rw [this]
    exact ⟨by show (0 : Rat) ≤ 0; grind, fun ⟨_, h, _⟩ => nomatch h⟩
  | e :: es, h, g => by
    obtain ⟨i1, i2⟩ := mX_le (X := X) (M := M) hW es (fun x hx => h x (List.mem_cons_of_mem e hx)) fun x hx => g x (List.mem_cons_of_mem e hx)
    have fp := frac_pos (h e List.mem_cons_self) hW
    have ge := g e List.mem_cons_self
    have wn : W ≠ 0 := by omega
    have ws : Rat.divInt (wsum (e :: es)) W = Rat.divInt e.2 W + Rat.divInt (wsum es) W := by
      have : wsum (e :: es) = e.2 + wsum es := rfl
      rw [this, Rat.divInt_add_divInt _ _ wn wn, ← Int.add_mul, Rat.divInt_mul_right wn]
    unfold mX
    rw [ws]
    have m1 : Rat.divInt e.2 W * X e.1.toNat ≤ Rat.divInt e.2 W * M := Rat.mul_le_mul_of_nonneg_left ge (Rat.le_of_lt fp)
    refine ⟨by grind, ?_⟩
    rintro ⟨x, hx, lt⟩
    rcases List.mem_cons.mp hx with rfl | hx
    · have m2 : Rat.divInt x.2 W * X x.1.toNat < Rat.divInt x.2 W * M := Rat.mul_lt_mul_of_pos_left lt fp
      grind
    · have := i2 ⟨x, hx, lt⟩
      grind
theorem arg_max (x : Nat → Rat) : ∀ m, 0 < m → ∃ i, i < m ∧ ∀ j, j < m → x j ≤ x i
  | 1, _ => ⟨0, by omega, fun j hj => by
    have : j = 0 := by omega
    rw [this]
    grind⟩
  | m + 2, _ => by
    obtain ⟨i, h1, h2⟩ := arg_max x (m + 1) (by omega)
    by_cases c : x (m + 1) ≤ x i
    · refine ⟨i, by omega, fun j hj => ?_⟩
      by_cases e : j = m + 1
      · rw [e]; exact c
      · exact h2 j (by omega)
    · refine ⟨m + 1, by omega, fun j hj => ?_⟩
      by_cases e : j = m + 1
      · rw [e]; grind
      · have := h2 j (by omega)
        grind
end Bo

/-! ### chains: one solution, told by the program and by the law -/
namespace Bo
open PySem L2
/-- from a state that is asked some way leads out of these -/
inductive Rc (z : List (List Cho)) (hp : List Nat) : Nat → Prop where
  | out {s : Nat} {e : Int × Int} : s ∈ hp → e ∈ eAt z s → e.1.toNat ∉ hp → Rc z hp s
  | step {s : Nat} {e : Int × Int} : s ∈ hp → e ∈ eAt z s → Rc z hp e.1.toNat → Rc z hp s
theorem Rc.mem {z : List (List Cho)} {hp : List Nat} {s : Nat} (h : Rc z hp s) : s ∈ hp := by cases h <;> assumption
/-- the states that are asked, in a chain -/
structure Hop (z : List (List Cho)) (hp : List Nat) : Prop where
  ch : ChOk z
  lt : ∀ i ∈ hp, i < z.length
  nd : hp.Nodup
  rc : ∀ i ∈ hp, Rc z hp i
theorem Hop.get {z : List (List Cho)} {hp : List Nat} (h : Hop z hp) {i : Nat} (hi : i < hp.length) : hp.getD i 0 ∈ hp ∧ hp.getD i 0 < z.length ∧ EsOk z.length (eAt z (hp.getD i 0)) := by
  have m : hp.getD i 0 ∈ hp := by
    rw [List.getD_eq_getElem?_getD, List.getElem?_eq_getElem hi]
    exact List.getElem_mem hi
  exact ⟨m, h.lt _ m, (h.ch.at_ _ (h.lt _ m)).2⟩
theorem Hop.idx {z : List (List Cho)} {hp : List Nat} (h : Hop z hp) {s : Nat} (hs : s ∈ hp) : ∃ i, i < hp.length ∧ hp.getD i 0 = s := by
  obtain ⟨i, hi, e⟩ := List.getElem_of_mem hs
  refine ⟨i, hi, ?_⟩
  rw [List.getD_eq_getElem?_getD, List.getElem?_eq_getElem hi]
  exact e
theorem Hop.less {z : List (List Cho)} {hp : List Nat} (h : Hop z hp) {x : Nat → Rat} {M : Rat} (hM : 0 < M) (hx : ∀ i, i < hp.length → x i ≤ M) (ker : ∀ i, i < hp.length → x i = mX (wsum (eAt z (hp.getD i 0))) (xAt hp x) (eAt z (hp.getD i 0))) {s : Nat} (r : Rc z hp s) : ∀ i, i < hp.length → hp.getD i 0 = s → x i < M := by
  have all : ∀ o, xAt hp x o ≤ M := fun o => by
    by_cases q : o ∈ hp
    · obtain ⟨j, hj, rfl⟩ := h.idx q
      rw [xAt_at h.nd hj]
      exact hx j hj
    · rw [xAt_out q]
      exact Rat.le_of_lt hM
  have fin : ∀ i, i < hp.length → (∃ e ∈ eAt z (hp.getD i 0), xAt hp x e.1.toNat < M) → x i < M := fun i hi ex => by
    have he := (h.get hi).2.2
    have w := he.pos
    have := (mX_le (W := wsum (eAt z (hp.getD i 0))) (X := xAt hp x) (M := M) w.1 _ (fun e hh => (he.ends e hh).2.1) fun e _ => all _).2 ex
    rw [← ker i hi] at this
    have one : Rat.divInt (wsum (eAt z (hp.getD i 0))) (wsum (eAt z (hp.getD i 0))) = 1 := by
      have e := Rat.divInt_mul_right (n := 1) (d := 1) (a := wsum (eAt z (hp.getD i 0))) (by omega)
      rw [Int.one_mul] at e
      rw [e]
      rfl
    rw [one, Rat.one_mul] at this
    exact this
  induction r with
  | @out s e hs he no => exact fun i hi es => fin i hi ⟨e, by rw [es]; exact he, by rw [xAt_out no]; exact hM⟩
  | @step s e hs he r' ih =>
    intro i hi es
    obtain ⟨j, hj, ej⟩ := h.idx r'.mem
    refine fin i hi ⟨e, by rw [es]; exact he, ?_⟩
    rw [← ej, xAt_at h.nd hj]
    exact ih j hj ej
theorem Hop.top {z : List (List Cho)} {hp : List Nat} (h : Hop z hp) {x : Nat → Rat} (ker : ∀ i, i < hp.length → sm x (cell (rowsOf z hp) i) (List.range hp.length) = 0) : ∀ i, i < hp.length → x i ≤ 0 := by
  intro i hi
  obtain ⟨i0, h0, h1⟩ := arg_max x hp.length (by omega)
  have k2 : ∀ i, i < hp.length → x i = mX (wsum (eAt z (hp.getD i 0))) (xAt hp x) (eAt z (hp.getD i 0)) := fun i hi => by
    have := ker i hi
    rw [cell_sm h.ch h.lt h.nd hi] at this
    grind
  have h2 := h1 i hi
  by_cases c : 0 < x i0
  · have := h.less c h1 k2 (h.rc _ (h.get h0).1) i0 h0 rfl
    grind
  · grind
theorem Hop.ker {z : List (List Cho)} {hp : List Nat} (h : Hop z hp) {x : Nat → Rat} (ker : ∀ i, i < hp.length → sm x (cell (rowsOf z hp) i) (List.range hp.length) = 0) (i : Nat) (hi : i < hp.length) : x i = 0 := by
  have a := h.top ker i hi
  have b := h.top (x := fun j => 0 - 1 * x j) (fun i hi => by
    rw [sm_mix (u := fun _ => 0) (v := x) (t := 1) _ fun c _ => rfl, ker i hi, sm_uz _ fun _ _ => rfl]
    grind) i hi
  grind
/-- no column of the equations is made of those before it -/
theorem Hop.free {z : List (List Cho)} {hp : List Nat} (h : Hop z hp) {c : Nat} (hc : c < hp.length) {v : Nat → Rat} : ¬ ∀ i, i < hp.length → cell (rowsOf z hp) i c = sm v (cell (rowsOf z hp) i) (List.range c) := fun q => by
  have := h.ker (x := fun j => if j < c then v j else if j = c then -1 else 0) (fun i hi => by
    have e : List.range hp.length = List.range c ++ (c :: List.range' (c + 1) (hp.length - (c + 1))) := by
      rw [List.range_eq_range', List.range_eq_range', ← List.range'_succ, show hp.length - (c + 1) + 1 = hp.length - c by omega]
      have := List.range'_append (s := 0) (m := c) (n := hp.length - c) (step := 1)
      rw [show 0 + 1 * c = c by omega, show c + (hp.length - c) = hp.length by omega] at this
      exact this.symm
    rw [e, sm_app, sm_congr (u := fun j => if j < c then v j else if j = c then -1 else 0) (v := v) (List.range c) fun d hd => if_pos (List.mem_range.mp hd), ← q i hi]
    simp only [sm]
    rw [sm_uz _ fun d hd => by
      have := (List.mem_range'_1.mp hd).1
      show (if d < c then v d else if d = c then -1 else 0) = (0 : Rat)
      rw [if_neg (by omega), if_neg (by omega)], if_neg (Nat.lt_irrefl c), if_pos trivial]
    grind) c hc
  have e : (if c < c then v c else if c = c then (-1 : Rat) else 0) = -1 := by rw [if_neg (Nat.lt_irrefl c), if_pos rfl]
  have this : (if c < c then v c else if c = c then (-1 : Rat) else 0) = 0 := this
  rw [e] at this
  grind
/-- two solutions are the same -/
theorem Hop.one {z : List (List Cho)} {hp : List Nat} (h : Hop z hp) {u v : Nat → Rat} {b : Nat → Rat} (hu : ∀ i, i < hp.length → b i = sm u (cell (rowsOf z hp) i) (List.range hp.length)) (hv : ∀ i, i < hp.length → b i = sm v (cell (rowsOf z hp) i) (List.range hp.length)) (i : Nat) (hi : i < hp.length) : u i = v i := by
  have := h.ker (x := fun j => u j - 1 * v j) (fun i hi => by
    rw [sm_mix (u := u) (v := v) (t := 1) _ fun c _ => rfl, ← hu i hi, ← hv i hi]
    grind) i hi
  grind
end Bo

/-! ### chains: solve and the law's elimination tell the same -/
namespace Bo
open PySem L2
theorem whole_le {s b : Nat} {qs : List Rat} {q : Rat} (hq : q ∈ qs) (h0 : s ≠ 0) (h : ∀ q ∈ qs, Pd s b q) : (q.num * Int.fdiv (lcms qs : Int) (q.den : Int)).natAbs ≤ b := by
  have c := whole_cast hq
  obtain ⟨m, e, n⟩ := h q hq
  have ll : lcms qs ≤ s := Nat.le_of_dvd (by omega) (lcms_dvd fun q hq => (h q hq).dvd h0)
  generalize q.num * Int.fdiv (lcms qs : Int) (q.den : Int) = z at c ⊢
  have e2 : z * (s : Int) = (lcms qs : Int) * m := by
    have : ((z * (s : Int) : Int) : Rat) = (((lcms qs : Int) * m : Int) : Rat) := by
      rw [Rat.intCast_mul, Rat.intCast_mul, c, Rat.intCast_natCast, Rat.intCast_natCast, ← e]
      grind
    exact_mod_cast this
  have e3 : z.natAbs * s = lcms qs * m.natAbs := by
    have := congrArg Int.natAbs e2
    rwa [Int.natAbs_mul, Int.natAbs_mul, Int.natAbs_natCast, Int.natAbs_natCast] at this
  have e4 : z.natAbs * s ≤ b * s := by
    rw [e3, Nat.mul_comm b]
    exact Nat.mul_le_mul ll n
  exact Nat.le_of_mul_le_mul_right e4 (by omega)
/-- rows whose numbers are over small denominators -/
structure RowsOk (n S B : Nat) (rows : List (List Rat)) (right : List Rat) : Prop where
  len : rows.length = n
  row : ∀ r ∈ rows, r.length = n
  rgt : right.length = n
  pd : ∀ i, i < n → ∃ s b, s ≠ 0 ∧ s ≤ S ∧ b ≤ B ∧ ∀ q ∈ rows.getD i [] ++ [right.getD i 0], Pd s b q
theorem RowsOk.asked {n S B : Nat} {rows : List (List Rat)} {right : List Rat} (h : RowsOk n S B rows right) (hn : n ≤ 900) (hS : S < 2 ^ 3000) (hB : B < 2 ^ 3000) (hP : ((n + 1) * (B + 1)) ^ (n + 1) < 2 ^ 3000) : Asked n B rows right := by
  have at_ : ∀ p ∈ rows.zip right, ∃ s b, s ≠ 0 ∧ s ≤ S ∧ b ≤ B ∧ ∀ q ∈ p.1 ++ [p.2], Pd s b q := fun p hp => by
    obtain ⟨i, hi, e⟩ := List.getElem_of_mem hp
    have l : i < n := by
      rw [List.length_zip, h.len, h.rgt, Nat.min_self] at hi
      exact hi
    obtain ⟨s, b, h0, h1, h2, h3⟩ := h.pd i l
    refine ⟨s, b, h0, h1, h2, ?_⟩
    have e1 : rows.getD i [] = p.1 := by
      rw [List.getD_eq_getElem?_getD, List.getElem?_eq_getElem (show i < rows.length by rw [h.len]; exact l), ← e]
      rw [List.getElem_zip]
      rfl
    have e2 : right.getD i 0 = p.2 := by
      rw [List.getD_eq_getElem?_getD, List.getElem?_eq_getElem (show i < right.length by rw [h.rgt]; exact l), ← e]
      rw [List.getElem_zip]
      rfl
    rw [← e1, ← e2]
    exact h3
  refine ⟨h.len, h.row, h.rgt, hn, fun p hp i => ?_, fun p hp q hq => ?_, fun p hp z hz => ?_, hP⟩
  · obtain ⟨s, b, h0, h1, h2, h3⟩ := at_ p hp
    exact Nat.lt_of_le_of_lt (Nat.le_trans (Nat.le_of_dvd (by omega) (lcms_dvd fun q hq => (h3 q (List.mem_of_mem_take hq)).dvd h0)) h1) hS
  · obtain ⟨s, b, h0, h1, h2, h3⟩ := at_ p hp
    have := (h3 q hq).small h0
    exact ⟨Nat.lt_of_le_of_lt (Nat.le_trans this.2 h1) hS, Nat.lt_of_le_of_lt (Nat.le_trans this.1 h2) hB⟩
  · obtain ⟨s, b, h0, h1, h2, h3⟩ := at_ p hp
    unfold whole at hz
    obtain ⟨q, hq, rfl⟩ := List.mem_map.mp hz
    exact Nat.le_trans (whole_le hq h0 h3) h2
def R0of (rows : List (List Rat)) (right : List Rat) (i : Nat) : Row := fun j => (rows.getD i [] ++ [right.getD i 0]).getD j 0
theorem Asked.j0 {n B : Nat} {rows : List (List Rat)} {right : List Rat} (a : Asked n B rows right) : J n 0 (R0of rows right) [] (fun k => rowZ ((wOf rows right).getD k [])) (fun k => 1 / (lcms (rows.getD k [] ++ [right.getD k 0]) : Rat)) ((wOf rows right).map rowZ) := by
  refine .start (fun k _ => ?_) (fun k hk => ?_) (fun w hw => ?_) fun k hk => ?_
  · have := a.unscale k
    intro z
    grind
  · funext j
    have rl := a.rlen hk
    have un := a.unscale k
    rw [a.get hk]
    show R0of rows right k j = 1 / _ * ((rowZ (whole (rows.getD k [] ++ [right.getD k 0])) j : Int) : Rat)
    by_cases c : j < (rows.getD k [] ++ [right.getD k 0]).length
    · rw [whole_at c]
      unfold R0of
      grind
    · have z1 : rowZ (whole (rows.getD k [] ++ [right.getD k 0])) j = 0 := by
        unfold rowZ whole
        rw [List.getD_eq_getElem?_getD, List.getElem?_eq_none (by rw [List.length_map]; omega)]
        rfl
      have z2 : R0of rows right k j = 0 := by
        unfold R0of
        rw [List.getD_eq_getElem?_getD, List.getElem?_eq_none (by omega)]
        rfl
      rw [z1, z2]
      have : ((0 : Int) : Rat) = 0 := rfl
      rw [this]
      grind
  · obtain ⟨v, hv, rfl⟩ := List.mem_map.mp hw
    obtain ⟨i, hi, rfl⟩ := a.mem hv
    exact ⟨i, hi, rfl⟩
  · exact List.mem_map_of_mem (a.isw hk)
theorem rowL_of {n : Nat} {l : List Rat} (h : l.length = n + 1) : l = rowL n fun j => l.getD j 0 := by
  refine List.ext_getElem? fun j => ?_
  unfold rowL
  by_cases c : j < n + 1
  · rw [List.getElem?_map, List.getElem?_range c, List.getElem?_eq_getElem (by omega), Option.map_some, List.getD_eq_getElem?_getD, List.getElem?_eq_getElem (by omega)]
    rfl
  · rw [List.getElem?_eq_none (by omega), List.getElem?_eq_none (by simp; omega)]
theorem Asked.r0 {n B : Nat} {rows : List (List Rat)} {right : List Rat} (a : Asked n B rows right) {i : Nat} (hi : i < n) : rows.getD i [] ++ [right.getD i 0] = rowL n (R0of rows right i) :=
  rowL_of (by have := a.rlen hi; rw [List.length_append, List.length_singleton]; omega)
/-- told of the whole rows, told of the rows -/
theorem Asked.is_cell {n B : Nat} {rows : List (List Rat)} {right : List Rat} (a : Asked n B rows right) {c : Nat} (hc : c < n) {v : Nat → Rat} (h : ∀ w ∈ (wOf rows right).map rowZ, Is (List.range c) v c (rQ w)) (i : Nat) (hi : i < n) : Bo.cell rows i c = sm v (Bo.cell rows i) (List.range c) := by
  have e : rQ (rowZ ((wOf rows right).getD i [])) c = sm v (rQ (rowZ ((wOf rows right).getD i []))) (List.range c) := h _ (List.mem_map_of_mem (a.isw hi))
  have e1 := a.cell hi hc
  rw [sm_scale (x := Bo.cell rows i) (y := rQ (rowZ ((wOf rows right).getD i []))) (t := (lcms (rows.getD i [] ++ [right.getD i 0]) : Rat)) (List.range c) fun d hd => a.cell hi (Nat.lt_trans (List.mem_range.mp hd) hc)] at e
  have ne := a.unscale i
  have e2 : (lcms (rows.getD i [] ++ [right.getD i 0]) : Rat) * Bo.cell rows i c = (lcms (rows.getD i [] ++ [right.getD i 0]) : Rat) * sm v (Bo.cell rows i) (List.range c) := e1.symm.trans e
  grind
theorem Asked.is_last {n B : Nat} {rows : List (List Rat)} {right : List Rat} (a : Asked n B rows right) {v : Nat → Rat} (h : ∀ w ∈ (wOf rows right).map rowZ, Is (List.range n) v n (rQ w)) (i : Nat) (hi : i < n) : right.getD i 0 = sm v (Bo.cell rows i) (List.range n) := by
  have e1 : rQ (rowZ ((wOf rows right).getD i [])) n = sm v (rQ (rowZ ((wOf rows right).getD i []))) (List.range n) := h _ (List.mem_map_of_mem (a.isw hi))
  rw [sm_scale (x := Bo.cell rows i) (y := rQ (rowZ ((wOf rows right).getD i []))) (t := (lcms (rows.getD i [] ++ [right.getD i 0]) : Rat)) (List.range n) fun d hd => a.cell hi (List.mem_range.mp hd)] at e1
  have e2 := a.last hi
  have ne := a.unscale i
  have e3 : (lcms (rows.getD i [] ++ [right.getD i 0]) : Rat) * right.getD i 0 = (lcms (rows.getD i [] ++ [right.getD i 0]) : Rat) * sm v (Bo.cell rows i) (List.range n) := e2.symm.trans e1
  grind
/-- the equations of a chain: there is a solution, in which both agree -/
theorem both {z : List (List Cho)} {hp : List Nat} {right : List Rat} {S B : Nat} (h : Hop z hp) (r : RowsOk hp.length S B (rowsOf z hp) right) (hn : hp.length ≤ 20) (hS : S < 2 ^ 200) (hB : B < 2 ^ 200) (hs1 : 1 ≤ S) (hM : bigM hp.length B * S < 2 ^ 200) :
    ∃ x : Nat → Rat, (∀ i, i < hp.length → right.getD i 0 = sm x (cell (rowsOf z hp) i) (List.range hp.length)) ∧
      (∀ k : PyData → Prop, k (dL2 ((List.range hp.length).map x)) → (den_solve [dM (rowsOf z hp), dL2 right]).okTo k) ∧
      ∀ k : PyData → Prop, k (dL2 ((List.range hp.length).map x)) → (den_l_solve [dM (rowsOf z hp), dL2 right]).okTo k := by
  have up : (2 : Nat) ^ 200 < 2 ^ 3000 := Nat.pow_lt_pow_right (by decide) (by decide)
  have hP : ((hp.length + 1) * (B + 1)) ^ (hp.length + 1) < 2 ^ 3000 := Nat.lt_of_le_of_lt (Nat.le_mul_of_pos_right _ hs1) (Nat.lt_trans hM up)
  have a := r.asked (by omega) (Nat.lt_trans hS up) (Nat.lt_trans hB up) hP
  have free : ∀ c, c < hp.length → ¬ ∃ v : Nat → Rat, ∀ w ∈ (wOf (rowsOf z hp) right).map rowZ, Is (List.range c) v c (rQ w) := fun c hc ⟨v, hv⟩ => h.free hc (a.is_cell hc hv)
  have ex : ∃ x : Nat → Rat, ∀ w ∈ (wOf (rowsOf z hp) right).map rowZ, Is (List.range hp.length) x hp.length (rQ w) := by
    rcases elim_all hp.length ((wOf (rowsOf z hp) right).map rowZ) (by rw [List.length_map, a.wlen]) with ⟨qs, p, e⟩ | ⟨c, u, hc, hu⟩
    · obtain ⟨x, hx⟩ := e.sol hp.length
      exact ⟨x, fun w hw => hx _ (List.mem_map_of_mem (p.mem_iff.mpr hw))⟩
    · exact absurd ⟨u, hu⟩ (free c hc)
  obtain ⟨x, hx⟩ := ex
  have sol := a.is_last hx
  refine ⟨x, sol, fun k hk => solve_all a (fun _ ⟨c, u, hc, hu⟩ => absurd hu (h.free hc)) fun u _ hu _ => ?_, fun k hk => ?_⟩
  · have : (List.range hp.length).map u = (List.range hp.length).map x := List.map_congr_left fun i hi => h.one hu sol i (List.mem_range.mp hi)
    rw [this]
    exact hk
  · refine l_solve_ok (B := B) (s := S) r.len r.rgt (by omega) (fun i hi => a.r0 hi) a.j0 (fun w hw d => ?_) (fun k _ hk => ?_) hM hs1 free hx hk
    · obtain ⟨v, hv, rfl⟩ := List.mem_map.mp hw
      obtain ⟨p, hp', rfl⟩ := List.mem_map.mp hv
      exact Nat.le_succ_of_le (getD_small (a.bnd p hp') d)
    · obtain ⟨s, b, h0, h1, h2, h3⟩ := r.pd k hk
      exact ⟨lcms _, lcms_ne, Nat.le_trans (Nat.le_of_dvd (by omega) (lcms_dvd fun q hq => (h3 q hq).dvd h0)) h1, rfl⟩
end Bo

/-! ### chains: how great the numbers of the equations are -/
namespace Bo
open PySem L2
theorem mem_wsum {es : List (Int × Int)} (h : ∀ e ∈ es, 1 ≤ e.2) : ∀ e : Int × Int, e ∈ es → e.2 ≤ wsum es := by
  induction es with
  | nil => exact fun _ h => nomatch h
  | cons a es ih =>
    intro e he
    have ih := ih fun x hx => h x (List.mem_cons_of_mem a hx)
    have ha := h a List.mem_cons_self
    have w : wsum (a :: es) = a.2 + wsum es := rfl
    have pos : ∀ l : List (Int × Int), (∀ x ∈ l, 1 ≤ x.2) → 0 ≤ wsum l := by
      intro l
      induction l with
      | nil => exact fun _ => Int.le_refl _
      | cons b l ih2 =>
        intro hl
        have := ih2 fun x hx => hl x (List.mem_cons_of_mem b hx)
        have := hl b List.mem_cons_self
        have w : wsum (b :: l) = b.2 + wsum l := rfl
        omega
    have p := pos es fun x hx => h x (List.mem_cons_of_mem a hx)
    rcases List.mem_cons.mp he with rfl | he
    · omega
    · have := ih e he
      omega
theorem EsOk.probT {n : Nat} {es : List (Int × Int)} (h : EsOk n es) (o : Int) (c : Prop) [Decidable c] : Pd (wsum es).natAbs (wsum es).natAbs ((if c then 1 else 0) - Bo.prob es o) := by
  have hp := h.pos
  have ex : ∃ w : Int, Bo.prob es o * ((wsum es).natAbs : Rat) = (w : Rat) ∧ 0 ≤ w ∧ w ≤ wsum es := by
    unfold Bo.prob prE
    cases q : es.find? fun e => decide (e.1 = o) with
    | none => exact ⟨0, by
      show (0 : Rat) * _ = ((0 : Int) : Rat)
      rw [Rat.zero_mul]
      rfl, by omega, by omega⟩
    | some e =>
      have he := List.mem_of_find?_eq_some q
      have h1 := (h.ends e he).2.1
      refine ⟨e.2, ?_, by omega, mem_wsum (fun x hx => (h.ends x hx).2.1) e he⟩
      show Rat.divInt e.2 (wsum es) * _ = _
      have : ((wsum es).natAbs : Rat) = ((wsum es : Int) : Rat) := by
        rw [← Rat.intCast_natCast]
        congr 1
        omega
      rw [this, divInt_eq]
      have : ((wsum es : Int) : Rat) ≠ 0 := by
        have : wsum es ≠ 0 := by omega
        exact_mod_cast this
      grind
  obtain ⟨w, ew, w0, w1⟩ := ex
  by_cases q : c
  · rw [if_pos q]
    refine ⟨(wsum es).natAbs - w, ?_, by omega⟩
    rw [Rat.intCast_sub, Rat.intCast_natCast, ← ew]
    grind
  · rw [if_neg q]
    refine ⟨-w, ?_, by omega⟩
    rw [Rat.intCast_neg, ← ew]
    grind
theorem sOut_pdT {t u : Nat} {hp : List Nat} {vals : List Rat} {W : Int} (hW : 1 ≤ W) : ∀ es : List (Int × Int), (∀ e ∈ es, 1 ≤ e.2 ∧ e.2 ≤ 1000) → (∀ e ∈ es, Pd t u (vals.getD e.1.toNat 0)) → Pd (W.natAbs * t) ((wsum es).natAbs * u) (sOut W hp vals es)
  | [], _, _ => .mono (.zero _ 0) (Nat.zero_le _)
  | e :: es, h, g => by
    have ih := sOut_pdT (hp := hp) hW es (fun x hx => h x (List.mem_cons_of_mem e hx)) fun x hx => g x (List.mem_cons_of_mem e hx)
    have h1 := h e List.mem_cons_self
    have w0 := (wsum_bd fun x hx => h x (List.mem_cons_of_mem e hx)).1
    have one : Pd (W.natAbs * t) (e.2.natAbs * u) (if e.1.toNat ∈ hp then 0 else Rat.divInt e.2 W * vals.getD e.1.toNat 0) := by
      split
      · exact .mono (.zero _ 0) (Nat.zero_le _)
      · have : Rat.divInt e.2 W = Rat.divInt e.2 (W.natAbs : Int) := by congr 1; omega
        rw [this]
        exact (Pd.of (by omega) (Nat.le_refl _)).mul (g e List.mem_cons_self)
    have := one.add ih
    have w : wsum (e :: es) = e.2 + wsum es := rfl
    have w2 : (wsum (e :: es)).natAbs = e.2.natAbs + (wsum es).natAbs := by omega
    rw [w2, Nat.add_mul]
    exact this
theorem rows_ok {z : List (List Cho)} {hp : List Nat} {vals paid : List Rat} {t u p0 Wm B : Nat} (h : Hop z hp) (hv : ValOk z.length t u vals paid) (h0 : ∀ i, i < z.length → Pd t p0 (paid.getD i 0)) (hW : ∀ i, i < z.length → wsum (eAt z i) ≤ (Wm : Int)) (b1 : Wm * t ≤ B) (b2 : Wm * (p0 + u) ≤ B) : RowsOk hp.length (Wm * t) B (rowsOf z hp) (sidesOf z hp vals paid) where
  len := by simp [rowsOf]
  row := fun r hr => by
    obtain ⟨i, _, rfl⟩ := List.mem_map.mp hr
    simp [rowOf]
  rgt := by simp [sidesOf]
  pd := fun i hi => by
    obtain ⟨m, lt, he⟩ := h.get hi
    obtain ⟨w1, w2⟩ := he.pos
    have wm := hW _ lt
    have e1 : (rowsOf z hp).getD i [] = rowOf hp (eAt z (hp.getD i 0)) (hp.getD i 0) := by
      unfold rowsOf
      rw [List.getD_eq_getElem?_getD, List.getElem?_map, show hp[i]? = some (hp.getD i 0) by rw [List.getD_eq_getElem?_getD, List.getElem?_eq_getElem hi]; rfl]
      rfl
    have e2 : (sidesOf z hp vals paid).getD i 0 = sideOf hp vals paid (eAt z (hp.getD i 0)) (hp.getD i 0) := by
      unfold sidesOf
      rw [List.getD_eq_getElem?_getD, List.getElem?_map, show hp[i]? = some (hp.getD i 0) by rw [List.getD_eq_getElem?_getD, List.getElem?_eq_getElem hi]; rfl]
      rfl
    rw [e1, e2]
    generalize hp.getD i 0 = s at he w1 w2 wm lt
    have tw : (wsum (eAt z s)).natAbs ≤ Wm := by omega
    refine ⟨(wsum (eAt z s)).natAbs * t, B, Nat.mul_ne_zero (by omega) hv.t0, Nat.mul_le_mul_right t tw, Nat.le_refl _, fun q hq => ?_⟩
    rcases List.mem_append.mp hq with c | c
    · unfold rowOf at c
      obtain ⟨o, _, rfl⟩ := List.mem_map.mp c
      exact ((he.probT (o : Nat) (o = s)).scale (t := t)).mono (Nat.le_trans (Nat.mul_le_mul_right t tw) b1)
    · rw [List.mem_singleton.mp c]
      unfold sideOf
      have p1 := (h0 s lt).scale (t := (wsum (eAt z s)).natAbs)
      rw [Nat.mul_comm t] at p1
      have p2 := sOut_pdT (t := t) (u := u) (hp := hp) (vals := vals) w1 (eAt z s) (fun e he' => (he.ends e he').2) fun e he' => by
        obtain ⟨⟨a, b⟩, _⟩ := he.ends e he'
        have : e.1.toNat < vals.length := by rw [hv.lv]; omega
        rw [List.getD_eq_getElem?_getD, List.getElem?_eq_getElem this]
        exact hv.v _ (List.getElem_mem this)
      refine (p1.add p2).mono (Nat.le_trans ?_ b2)
      rw [Nat.mul_add]
      refine Nat.add_le_add ?_ (Nat.mul_le_mul_right u tw)
      rw [Nat.mul_comm]
      exact Nat.mul_le_mul_right p0 tw
end Bo

/-! ### k16: the law's chain, and what it fills in -/
namespace Bo
open PySem L2
local macro_rules | `(tactic| walk_at "wv1") => `(tactic| (first
  | with_reducible refine w_seq ?_
  | with_reducible refine w_asg ?_
  | ((with_reducible refine w_var (d := ?wd) ?wh ?wq); (case wh => exact rfl))
  | with_reducible refine w_c ?_
  | with_reducible refine w_op ?_
  | with_reducible refine w_un ?_
  | with_reducible refine w_and ?_
  | with_reducible refine w_or ?_
  | with_reducible refine w_not ?_
  | with_reducible refine w_toB ?_
  | with_reducible refine w_toI ?_
  | with_reducible refine w_tst ?_
  | with_reducible refine w_tnot ?_
  | with_reducible refine w_tand ?_
  | with_reducible refine w_tor ?_
  | with_reducible refine w_tru ?_
  | with_reducible refine w_if ?_
  | with_reducible refine w_chain ?_
  | with_reducible refine w_nil ?_
  | with_reducible refine w_cons ?_
  | with_reducible refine w_tup ?_
  | with_reducible refine w_lst ?_
  | with_reducible refine w_lstF ?_
  | with_reducible refine w_call ?_
  | with_reducible refine w_callP ?_
  | with_reducible refine w_callL ?_
  | ((with_reducible refine w_own (ds := ?wd) ?wh ?wq); (case wh => exact rfl))
  | with_reducible refine w_callB ?_
  | ((with_reducible refine w_callS (ns := ?wd) ?wh ?wq); (case wh => exact rfl))
  | with_reducible refine w_consO ?_
  | with_reducible refine w_fr ?_
  | with_reducible refine w_lenO ?_
  | with_reducible refine w_tupleO ?_
  | with_reducible refine w_listO ?_
  | with_reducible refine w_ixO ?_
  | with_reducible refine w_inO ?_
  | with_reducible refine w_truO ?_
  | with_reducible refine w_app ?_
  | with_reducible refine w_setI ?_
  | with_reducible refine w_sl ?_
  | with_reducible refine w_noPart ?_
  | with_reducible refine w_part ?_
  | with_reducible refine w_iter ?_
  | with_reducible refine w_iterT ?_
  | with_reducible refine w_range1 ?_
  | with_reducible refine w_listRg ?_
  | with_reducible refine w_enumK ?_
  | with_reducible refine w_zipK ?_
  | with_reducible refine w_repF ?_
  | with_reducible refine w_lc ?_
  | with_reducible refine w_yes ?_
  | with_reducible refine w_next ?_
  | with_reducible refine w_ret ?_
  | with_reducible refine w_retN ?_
  | with_reducible refine w_drop ?_
  | with_reducible refine w_aName ?_
  | with_reducible refine w_aTup rfl ?_
  | with_reducible refine w_aNil ?_
  | with_reducible refine w_aCons ?_
  | with_reducible refine w_ifS ?_
  | with_reducible refine w_ownS ?_
  | ((with_reducible refine w_frz (ds := ?wd) ?wh ?wq); (case wh => exact rfl))
  | with_reducible refine w_for ?_
  | ((with_reducible refine w_aug (a := ?wd) ?wh ?wq); (case wh => exact rfl))
  | with_reducible refine w_gI ?_
  | with_reducible refine w_gIB ?_
  | with_reducible refine w_gIC ?_
  | with_reducible refine w_gEqI ?_
  | with_reducible refine w_gNeI ?_
  | with_reducible refine w_gIxL ?_
  | with_reducible refine w_gIxT ?_
  | with_reducible refine w_gCat ?_
  | with_reducible refine w_gCatT ?_
  | with_reducible refine w_isN ?_
  | with_reducible refine w_notN ?_
  | with_reducible refine w_gInL ?_
  | with_reducible refine w_gLenL ?_
  | with_reducible refine w_gLenT ?_
  | with_reducible refine w_gIntI ?_
  | with_reducible refine w_gTuple ?_
  | with_reducible refine w_gBools ?_
  | with_reducible refine w_gInts ?_
  | with_reducible refine w_gNeD ?_
  | with_reducible refine w_gEqD ?_
  | with_reducible refine w_gRevL ?_
  | with_reducible refine w_gSlL ?_
  | with_reducible refine w_gSlT ?_
  | with_reducible refine w_itT ?_
  | with_reducible refine w_itF ?_
  | with_reducible refine w_itTT ?_
  | with_reducible refine w_itFT ?_
  | with_reducible refine w_gList ?_
  | with_reducible refine w_gSortI ?_
  | with_reducible refine w_range2 ?_
  | ((with_reducible refine w_lcO (ds := ?wd) ?wh ?wq ?wr); (case wh => exact rfl); (case wq => exact rfl))
  | with_reducible refine w_aUnl rfl ?_
  | with_reducible refine w_listF ?_
  | with_reducible refine w_brk ?_
  | with_reducible refine w_cnt ?_
  | with_reducible refine w_neg ?_
  | with_reducible refine w_gIntB ?_
  | simp only [wipeS, backS, List.set_cons_zero, List.set_cons_succ, List.getElem?_cons_zero, List.getElem?_cons_succ, Option.join_some, Option.join_none, Bool.not_true, Bool.not_false]))
local macro_rules | `(tactic| walk_at "wv") => `(tactic| ((repeat (walk_at "wv1"; try dsimp only)); try simp only [List.set_cons_zero, List.set_cons_succ]))
local macro_rules | `(tactic| walk_at "st") => `(tactic| simp only [startS, List.map_cons, List.map_nil, List.length_cons, List.length_nil, Nat.reduceAdd, Nat.reduceSub, List.replicate_succ, List.replicate_zero, List.cons_append, List.nil_append])

/-- the chain as the law has it -/
def chC (z : List (List Cho)) : List Cho := (List.range z.length).map fun i => cAt z i 0
theorem cAt_ch {y : List (List Cho)} {pol : List Int} {i : Nat} (hi : i < y.length) : cAt (chY y pol) i 0 = cAt y i (pol.getD i 0).toNat := by
  unfold cAt chY
  rw [List.getD_eq_getElem?_getD (l := (List.range y.length).map _), List.getElem?_map, List.getElem?_range hi]
  rfl
theorem chY_len {y : List (List Cho)} {pol : List Int} : (chY y pol).length = y.length := by simp [chY]
theorem l_chain_ok {y : List (List Cho)} {pol : List Int} {k : PyData → Prop} (hy : y.length ≤ 20) (hp : PolOk y pol) (hz : ChOk (chY y pol)) (h : k (dCh (chC (chY y pol)))) : (den_l_chain [dY y, .tuple (pol.map .int)]).okTo k := by
  unfold den_l_chain body_l_chain
  refine w_denP ?_
  walk_at "st"
  walk_at "wv"
  refine ⟨by simp, ?_⟩
  walk_at "wv"
  refine okTo_eq gLen_y ?_
  walk_at "wv"
  refine ⟨_, rfl, ⟨by omega, by omega⟩, ?_⟩
  rw [Int.toNat_natCast]
  refine loop_ok (fun p S => ∃ (e3 e4 e5 e6 : Option PyData), S = [some (.dat (dY y)), some (.dat (.tuple (pol.map .int))), some (.own ((List.range p).map fun i => PyData.tuple [.int (cAt (chY y pol) i 0).1, .list (mvD (cAt (chY y pol) i 0).2)])), e3.map SV.dat, e4.map SV.dat, e5.map SV.dat, e6.map SV.dat, none]) ?_ ?_ ⟨none, none, none, none, rfl⟩
  · rintro i di S hi ⟨e3, e4, e5, e6, rfl⟩
    obtain ⟨hi1, rfl⟩ := rangeD_get hi
    rw [Int.zero_add]
    obtain ⟨b, f1, f2, f3, f4⟩ := hp.at_ hi1
    have ec : cAt (chY y pol) i 0 = cAt y i b := by rw [cAt_ch hi1, f4]
    have he := (hz.at_ i (by rw [chY_len]; exact hi1)).2
    rw [ec] at he
    generalize cAt y i b = c at f3 ec he
    obtain ⟨w1, w2⟩ := he.pos
    obtain ⟨pa, pb⟩ : (1000000 : Nat) < 2 ^ 400 ∧ (1000000 : Nat) < 2 ^ 900 := by decide +kernel
    walk_at "wv"
    refine okTo_eq (a := dS (y.getD i [])) (ixD_nat (ds := y.map dS) (by rw [List.getElem?_map, f2]; rfl)) ?_
    walk_at "wv"
    refine okTo_eq (a := .int (b : Nat)) (ixD_nat (ds := pol.map PyData.int) (by rw [List.getElem?_map, f1]; rfl)) ?_
    walk_at "wv"
    refine okTo_eq (a := dC c) (ixD_nat (ds := (y.getD i []).map dC) (by rw [List.getElem?_map, f3]; rfl)) ?_
    rw [show dC c = PyData.tuple [.int c.1, .tuple (c.2.map prD)] from rfl]
    walk_at "wv"
    refine ⟨_, rfl, ⟨rfl, by rw [List.length_map]; have := he.len; omega⟩, ?_⟩
    refine lc_ok (fun p acc Z => acc = ((c.2.take p).map (·.2)).map PyData.int ∧ Z = [some (.dat (dY y)), some (.dat (.tuple (pol.map .int))), some (.own ((List.range i).map fun i => PyData.tuple [.int (cAt (chY y pol) i 0).1, .list (mvD (cAt (chY y pol) i 0).2)])), some (.dat (.int (i : Nat))), e4.map SV.dat, some (.dat (.int c.1)), some (.dat (.tuple (c.2.map prD))), none]) ?_ ?_ ⟨rfl, rfl⟩
    · rintro p dp acc Z hp ⟨rfl, rfl⟩
      rw [List.getElem?_map] at hp
      obtain ⟨e, hee, rfl⟩ := Option.map_eq_some_iff.mp hp
      walk_at "wv"
      refine okTo_eq (a := .int e.2) rfl ?_
      rw [List.take_add_one, hee, Option.toList_some, List.map_append, List.map_append]
      exact ⟨rfl, by first | trivial | rfl⟩
    rintro acc Z ⟨rfl, rfl⟩
    rw [List.length_map, List.take_length]
    walk_at "wv"
    rw [show (c.2.map (·.2)).sum = wsum c.2 from rfl]
    refine ⟨_, rfl, ⟨rfl, by rw [List.length_map]; have := he.len; omega⟩, ?_⟩
    refine lc_ok (fun p acc Z => acc = (c.2.take p).map (fun e => .tuple [.int e.1, dQ (Rat.divInt e.2 (wsum c.2))]) ∧ Z = [some (.dat (dY y)), some (.dat (.tuple (pol.map .int))), some (.own ((List.range i).map fun i => PyData.tuple [.int (cAt (chY y pol) i 0).1, .list (mvD (cAt (chY y pol) i 0).2)])), some (.dat (.int (i : Nat))), some (.dat (.int (wsum c.2))), some (.dat (.int c.1)), some (.dat (.tuple (c.2.map prD))), none]) ?_ ?_ ⟨rfl, rfl⟩
    · rintro p dp acc Z hp ⟨rfl, rfl⟩
      rw [List.getElem?_map] at hp
      obtain ⟨e, hee, rfl⟩ := Option.map_eq_some_iff.mp hp
      have xb := (he.ends e (List.mem_of_getElem? hee)).2
      walk_at "wv"
      refine okTo_eq (a := .int e.1) rfl ?_
      walk_at "wv"
      refine okTo_eq (a := .int e.2) rfl ?_
      walk_at "wv"
      refine ⟨rfl, l_ratio_ok (by omega) (Nat.lt_of_le_of_lt (show e.2.natAbs ≤ 1000000 by omega) pb) (Nat.lt_of_le_of_lt (show (wsum c.2).natAbs ≤ 1000000 by omega) pb) ?_⟩
      walk_at "wv"
      refine ⟨by simp, ?_⟩
      rw [List.take_add_one, hee, Option.toList_some, List.map_append]
      exact ⟨rfl, by first | trivial | rfl⟩
    rintro acc Z ⟨rfl, rfl⟩
    rw [List.length_map, List.take_length]
    walk_at "wv"
    refine ⟨by simp, ?_⟩
    walk_at "wv"
    refine ⟨by rw [List.length_map, List.length_range]; omega, some (.int (i : Nat)), some (.int (wsum c.2)), some (.int c.1), some (.tuple (c.2.map prD)), ?_⟩
    rw [List.range_succ, List.map_append, List.map_singleton, ec]
    rfl
  · rintro S ⟨e3, e4, e5, e6, rfl⟩
    rw [rangeD_len]
    walk_at "wv"
    unfold dCh chC at h
    rw [List.map_map, chY_len] at h
    exact h
end Bo

/-! ### k16: what the law fills in -/
namespace Bo
open PySem L2
local macro_rules | `(tactic| walk_at "wv1") => `(tactic| (first
  | with_reducible refine w_seq ?_
  | with_reducible refine w_asg ?_
  | ((with_reducible refine w_var (d := ?wd) ?wh ?wq); (case wh => exact rfl))
  | with_reducible refine w_c ?_
  | with_reducible refine w_op ?_
  | with_reducible refine w_un ?_
  | with_reducible refine w_and ?_
  | with_reducible refine w_or ?_
  | with_reducible refine w_not ?_
  | with_reducible refine w_toB ?_
  | with_reducible refine w_toI ?_
  | with_reducible refine w_tst ?_
  | with_reducible refine w_tnot ?_
  | with_reducible refine w_tand ?_
  | with_reducible refine w_tor ?_
  | with_reducible refine w_tru ?_
  | with_reducible refine w_if ?_
  | with_reducible refine w_chain ?_
  | with_reducible refine w_nil ?_
  | with_reducible refine w_cons ?_
  | with_reducible refine w_tup ?_
  | with_reducible refine w_lst ?_
  | with_reducible refine w_lstF ?_
  | with_reducible refine w_call ?_
  | with_reducible refine w_callP ?_
  | with_reducible refine w_callL ?_
  | ((with_reducible refine w_own (ds := ?wd) ?wh ?wq); (case wh => exact rfl))
  | with_reducible refine w_callB ?_
  | ((with_reducible refine w_callS (ns := ?wd) ?wh ?wq); (case wh => exact rfl))
  | with_reducible refine w_consO ?_
  | with_reducible refine w_fr ?_
  | with_reducible refine w_lenO ?_
  | with_reducible refine w_tupleO ?_
  | with_reducible refine w_listO ?_
  | with_reducible refine w_ixO ?_
  | with_reducible refine w_inO ?_
  | with_reducible refine w_truO ?_
  | with_reducible refine w_app ?_
  | with_reducible refine w_setI ?_
  | with_reducible refine w_sl ?_
  | with_reducible refine w_noPart ?_
  | with_reducible refine w_part ?_
  | with_reducible refine w_iter ?_
  | with_reducible refine w_iterT ?_
  | with_reducible refine w_range1 ?_
  | with_reducible refine w_listRg ?_
  | with_reducible refine w_enumK ?_
  | with_reducible refine w_zipK ?_
  | with_reducible refine w_repF ?_
  | with_reducible refine w_lc ?_
  | with_reducible refine w_yes ?_
  | with_reducible refine w_next ?_
  | with_reducible refine w_ret ?_
  | with_reducible refine w_retN ?_
  | with_reducible refine w_drop ?_
  | with_reducible refine w_aName ?_
  | with_reducible refine w_aTup rfl ?_
  | with_reducible refine w_aNil ?_
  | with_reducible refine w_aCons ?_
  | with_reducible refine w_ifS ?_
  | with_reducible refine w_ownS ?_
  | ((with_reducible refine w_frz (ds := ?wd) ?wh ?wq); (case wh => exact rfl))
  | with_reducible refine w_for ?_
  | ((with_reducible refine w_aug (a := ?wd) ?wh ?wq); (case wh => exact rfl))
  | with_reducible refine w_gI ?_
  | with_reducible refine w_gIB ?_
  | with_reducible refine w_gIC ?_
  | with_reducible refine w_gEqI ?_
  | with_reducible refine w_gNeI ?_
  | with_reducible refine w_gIxL ?_
  | with_reducible refine w_gIxT ?_
  | with_reducible refine w_gCat ?_
  | with_reducible refine w_gCatT ?_
  | with_reducible refine w_isN ?_
  | with_reducible refine w_notN ?_
  | with_reducible refine w_gInL ?_
  | with_reducible refine w_gLenL ?_
  | with_reducible refine w_gLenT ?_
  | with_reducible refine w_gIntI ?_
  | with_reducible refine w_gTuple ?_
  | with_reducible refine w_gBools ?_
  | with_reducible refine w_gInts ?_
  | with_reducible refine w_gNeD ?_
  | with_reducible refine w_gEqD ?_
  | with_reducible refine w_gRevL ?_
  | with_reducible refine w_gSlL ?_
  | with_reducible refine w_gSlT ?_
  | with_reducible refine w_itT ?_
  | with_reducible refine w_itF ?_
  | with_reducible refine w_itTT ?_
  | with_reducible refine w_itFT ?_
  | with_reducible refine w_gList ?_
  | with_reducible refine w_gSortI ?_
  | with_reducible refine w_range2 ?_
  | ((with_reducible refine w_lcO (ds := ?wd) ?wh ?wq ?wr); (case wh => exact rfl); (case wq => exact rfl))
  | with_reducible refine w_aUnl rfl ?_
  | with_reducible refine w_listF ?_
  | with_reducible refine w_brk ?_
  | with_reducible refine w_cnt ?_
  | with_reducible refine w_neg ?_
  | with_reducible refine w_gIntB ?_
  | simp only [wipeS, backS, List.set_cons_zero, List.set_cons_succ, List.getElem?_cons_zero, List.getElem?_cons_succ, Option.join_some, Option.join_none, Bool.not_true, Bool.not_false]))
local macro_rules | `(tactic| walk_at "wv") => `(tactic| ((repeat (walk_at "wv1"; try dsimp only)); try simp only [List.set_cons_zero, List.set_cons_succ]))
local macro_rules | `(tactic| walk_at "st") => `(tactic| simp only [startS, List.map_cons, List.map_nil, List.length_cons, List.length_nil, Nat.reduceAdd, Nat.reduceSub, List.replicate_succ, List.replicate_zero, List.cons_append, List.nil_append])

theorem fi_nat {j : Nat} : ∀ {l : List Nat}, j ∈ l → ∃ a, a < l.length ∧ fiD (.int (j : Nat)) (l.map fun k => PyData.int (k : Nat)) = some a ∧ l.getD a 0 = j
  | x :: l, h => by
    by_cases c : x = j
    · subst c
      refine ⟨0, by simp, ?_, rfl⟩
      show (if eqP (.int (x : Nat)) (.int (x : Nat)) = true then some 0 else _) = _
      rw [if_pos (by simp [eqP])]
    · have hl := (List.mem_cons.mp h).resolve_left fun z => c z.symm
      obtain ⟨a, h1, h2, h3⟩ := fi_nat hl
      refine ⟨a + 1, by rw [List.length_cons]; omega, ?_, h3⟩
      show (if eqP (.int (x : Nat)) (.int (j : Nat)) = true then some 0 else _) = _
      rw [if_neg (by simp [eqP]; omega), h2]
      rfl
theorem idx_ok {j : Nat} {l : List Nat} (h : j ∈ l) : ∃ a, a < l.length ∧ gIndex (dN l) (.int (j : Nat)) = .ok (.int (a : Nat)) ∧ l.getD a 0 = j := by
  obtain ⟨a, h1, h2, h3⟩ := fi_nat h
  refine ⟨a, h1, ?_, h3⟩
  unfold gIndex dN
  show R.when (flatD (.int (j : Nat)) = true ∧ (l.map fun k => PyData.int (k : Nat)).all flatD = true) _ = _
  rw [h2]
  exact if_pos ⟨rfl, flat_nats l⟩
theorem pSum_app {W o : Int} : ∀ a b : List (Int × Int), pSum W (a ++ b) o = pSum W a o + pSum W b o
  | [], b => by
    show pSum W b o = 0 + _
    grind
  | e :: a, b => by
    show (if e.1 = o then _ else _) + pSum W (a ++ b) o = (if e.1 = o then _ else _) + pSum W a o + _
    rw [pSum_app a b]
    grind
theorem pSum_pd {n : Nat} {es : List (Int × Int)} (h : EsOk n es) (p : Nat) (o : Int) : Pd (wsum es).natAbs 1000 (pSum (wsum es) (es.take p) o) := by
  have rp : (es.take p).Pairwise fun x y => x.1 < y.1 := h.rise.sublist (List.take_sublist p es)
  rw [← prE_sum rp]
  unfold prE
  cases q : (es.take p).find? fun e => decide (e.1 = o) with
  | none => exact .mono (.zero _ 0) (Nat.zero_le _)
  | some e => exact h.pd (List.mem_of_mem_take (List.mem_of_find?_eq_some q))
theorem dele {c : Prop} [Decidable c] {b : Nat} (hb : 1 ≤ b) {s : Nat} {q : Rat} (h : Pd s b q) : Pd s (s + b) ((if c then 1 else 0) - q) := by
  have e : (if c then (1 : Rat) else 0) - q = (if c then (1 : Rat) else 0) + -q := by grind
  rw [e]
  refine Pd.add ?_ h.neg
  split
  · have := Pd.one.scale (t := s)
    rw [Nat.one_mul] at this
    exact this
  · exact .mono (.zero s 0) (Nat.zero_le _)
theorem Pd.b3' {s b : Nat} {q : Rat} (hs : s ≠ 0) (h : Pd s b q) (h1 : b < 2 ^ 400) (h2 : s < 2 ^ 400) : Bq3 q := h.b3 hs h1 h2
theorem p300 : 40000 < 2 ^ 400 ∧ 20000 * 2 ^ 300 < 2 ^ 400 ∧ 1000 * 2 ^ 300 < 2 ^ 400 ∧ 20000 * 2 ^ 300 + 20 * (1000 * 2 ^ 300) < 2 ^ 400 ∧ (2 : Nat) ^ 300 < 2 ^ 400 := by decide +kernel
def rowP (hp : List Nat) (es : List (Int × Int)) (one p : Nat) : List PyData := fL hp.length fun a => dQ ((if hp.getD a 0 = one then 1 else 0) - pSum (wsum es) (es.take p) (hp.getD a 0 : Nat))
theorem rowP_end {hp : List Nat} {es : List (Int × Int)} {one : Nat} (r : es.Pairwise fun x y => x.1 < y.1) : rowP hp es one es.length = (rowOf hp es one).map dQ := by
  unfold rowP rowOf
  rw [List.map_map, map_fL (d := 0) (n := hp.length) rfl, List.take_length]
  refine fL_congr fun a _ => ?_
  have e : prob es (hp.getD a 0 : Nat) = pSum (wsum es) es (hp.getD a 0 : Nat) := prE_sum r
  show dQ (_ - pSum (wsum es) es (hp.getD a 0 : Nat)) = dQ (_ - prob es (hp.getD a 0 : Nat))
  rw [e]
theorem pSum_step {W : Int} {es : List (Int × Int)} {p : Nat} {e : Int × Int} (h : es[p]? = some e) (o : Int) : pSum W (es.take (p + 1)) o = pSum W (es.take p) o + if e.1 = o then Rat.divInt e.2 W else 0 := by
  rw [List.take_add_one, h, Option.toList_some, pSum_app]
  show _ + ((if e.1 = o then _ else _) + (0 : Rat)) = _
  grind
theorem rowP_in {hp : List Nat} {es : List (Int × Int)} {one p a : Nat} {e : Int × Int} (nd : hp.Nodup) (al : a < hp.length) (h : es[p]? = some e) (aj : e.1 = (hp.getD a 0 : Nat)) : (rowP hp es one p).set a (dQ ((if hp.getD a 0 = one then 1 else 0) - pSum (wsum es) (es.take p) (hp.getD a 0 : Nat) + -(Rat.divInt e.2 (wsum es)))) = rowP hp es one (p + 1) := by
  unfold rowP
  rw [fL_set]
  refine fL_congr fun k hk => ?_
  by_cases q : k = a
  · subst q
    have h1 : pSum (wsum es) (es.take (p + 1)) (hp.getD k 0 : Nat) = pSum (wsum es) (es.take p) (hp.getD k 0 : Nat) + Rat.divInt e.2 (wsum es) := by rw [pSum_step h, if_pos aj]
    rw [h1]
    simp only [if_true]
    congr 1
    generalize (if hp.getD k 0 = one then (1 : Rat) else 0) = d
    grind
  · have h1 : pSum (wsum es) (es.take (p + 1)) (hp.getD k 0 : Nat) = pSum (wsum es) (es.take p) (hp.getD k 0 : Nat) := by
      rw [pSum_step h, if_neg fun y => q (nd_at nd al hk (by omega))]
      grind
    rw [h1]
    simp only [if_neg q]
theorem rowP_out {hp : List Nat} {es : List (Int × Int)} {one p j : Nat} {e : Int × Int} (h : es[p]? = some e) (ej : e.1 = (j : Int)) (no : j ∉ hp) : rowP hp es one (p + 1) = rowP hp es one p := by
  unfold rowP
  refine fL_congr fun k hk => ?_
  have h1 : pSum (wsum es) (es.take (p + 1)) (hp.getD k 0 : Nat) = pSum (wsum es) (es.take p) (hp.getD k 0 : Nat) := by
    rw [pSum_step h, if_neg fun y => no (by
      have : hp.getD k 0 = j := by omega
      rw [← this, List.getD_eq_getElem?_getD, List.getElem?_eq_getElem hk]
      exact List.getElem_mem hk)]
    grind
  rw [h1]
theorem filled_ok {z : List (List Cho)} {hp : List Nat} {vals paid : List Rat} {t u : Nat} {x : Nat → Rat} {k : PyData → Prop} (h : Hop z hp) (hl : hp.length ≤ 20) (hv : ValOk z.length t u vals paid) (t2 : t < 2 ^ 300) (u2 : u < 2 ^ 300)
    (hs : ∀ k' : PyData → Prop, k' (dL2 ((List.range hp.length).map x)) → (den_l_solve [dM (rowsOf z hp), dL2 (sidesOf z hp vals paid)]).okTo k') (hk : k (dL2 (setAll vals hp x hp.length))) : (den_l_filled [dCh (chC z), dN hp, dL2 vals, dL2 paid]).okTo k := by
  unfold den_l_filled body_l_filled
  refine w_denP ?_
  walk_at "st"
  walk_at "wv"
  refine ⟨by simp, ?_⟩
  walk_at "wv"
  refine ⟨by simp, ?_⟩
  walk_at "wv"
  refine ⟨_, rfl, ?_⟩
  refine loop_ok (fun i S => ∃ (a7 a8 a9 a10 a11 : Option SV) (e6 e12 e13 e15 : Option PyData), S = [some (.dat (dCh (chC z))), some (.dat (dN hp)), some (.dat (dL2 vals)), some (.dat (dL2 paid)), some (.own (((hp.take i).map fun i => rowOf hp (eAt z i) i).map dL2)), some (.own (((hp.take i).map fun i => sideOf hp vals paid (eAt z i) i).map dQ)), e6.map SV.dat, a7, a8, a9, a10, a11, e12.map SV.dat, e13.map SV.dat, none, e15.map SV.dat]) ?_ ?_ ⟨none, none, none, none, none, none, none, none, none, rfl⟩
  · rintro i di S hi ⟨a7, a8, a9, a10, a11, e6, e12, e13, e15, rfl⟩
    rw [List.getElem?_map] at hi
    obtain ⟨one, ho, rfl⟩ := Option.map_eq_some_iff.mp hi
    have om := List.mem_of_getElem? ho
    have on := h.lt one om
    have he := (h.ch.at_ one on).2
    have ee : (cAt z one 0).2 = eAt z one := rfl
    rw [ee] at he
    obtain ⟨w1, w2⟩ := he.pos
    walk_at "wv"
    refine ⟨_, rfl, ⟨rfl, by rw [List.length_map]; omega⟩, ?_⟩
    generalize hA : ((hp.take i).map fun i => rowOf hp (eAt z i) i).map dL2 = A4
    generalize hB : ((hp.take i).map fun i => sideOf hp vals paid (eAt z i) i).map dQ = A5
    have lA : A4.length ≤ 20 := by rw [← hA, List.length_map, List.length_map, List.length_take]; omega
    have lB : A5.length ≤ 20 := by rw [← hB, List.length_map, List.length_map, List.length_take]; omega
    refine lc_ok (fun p acc Z => acc = (hp.take p).map (fun o => dQ (if o = one then 1 else 0)) ∧ Z = [some (.dat (dCh (chC z))), some (.dat (dN hp)), some (.dat (dL2 vals)), some (.dat (dL2 paid)), some (.own A4), some (.own A5), some (.dat (.int (one : Nat))), a7, a8, a9, a10, a11, e12.map SV.dat, e13.map SV.dat, none, e15.map SV.dat]) ?_ ?_ ⟨rfl, rfl⟩
    · rintro p dp acc Z hp' ⟨rfl, rfl⟩
      rw [List.getElem?_map] at hp'
      obtain ⟨o, hoo, rfl⟩ := Option.map_eq_some_iff.mp hp'
      walk_at "wv"
      refine ⟨by simp, ?_⟩
      rw [List.take_add_one, hoo, Option.toList_some, List.map_append, List.map_singleton]
      refine ⟨?_, by first | trivial | rfl⟩
      congr 1
      by_cases c : o = one
      · rw [decide_eq_true (show (o : Int) = (one : Int) by rw [c]), if_pos c]
        show [PyData.tuple [.int 1, .int 1]] = _
        rw [one_Q]
      · rw [decide_eq_false (show ¬ (o : Int) = (one : Int) by omega), if_neg c]
        show [PyData.tuple [.int 0, .int 1]] = _
        rw [zero_Q]
    rintro acc Z ⟨rfl, rfl⟩
    rw [List.length_map, List.take_length]
    generalize hE : eAt z one = es at he w1 w2 ee
    have r0 : hp.map (fun o => dQ (if o = one then 1 else 0)) = rowP hp es one 0 := by
      unfold rowP
      rw [map_fL (d := 0) (n := hp.length) rfl]
      refine fL_congr fun a _ => ?_
      congr 1
      rw [List.take_zero]
      show _ = _ - (0 : Rat)
      grind
    rw [r0]
    walk_at "wv"
    have ep : paid[one]? = some (paid.getD one 0) := by rw [List.getD_eq_getElem?_getD, List.getElem?_eq_getElem (show one < paid.length by rw [hv.lp]; exact on)]; rfl
    refine okTo_eq (a := dQ (paid.getD one 0)) (ixD_nat (ds := paid.map dQ) (by rw [List.getElem?_map, ep]; rfl)) ?_
    walk_at "wv"
    have ec : (chC z)[one]? = some (cAt z one 0) := by
      unfold chC
      rw [List.getElem?_map, List.getElem?_range on]
      rfl
    refine okTo_eq (a := .tuple [.int (cAt z one 0).1, .list (mvD (cAt z one 0).2)]) (show ixD ((chC z).map fun c => PyData.tuple [.int c.1, .list (mvD c.2)]) (one : Int) = _ from ixD_nat (by rw [List.getElem?_map, ec]; rfl)) ?_
    walk_at "wv"
    refine okTo_eq (a := .list (mvD es)) (by rw [ee]; rfl) ?_
    walk_at "wv"
    refine ⟨_, rfl, ?_⟩
    obtain ⟨q1, q2, q3, q4, q5⟩ := p300
    have wn : (wsum es).natAbs ≠ 0 := by omega
    refine loop_ok (fun p S => ∃ (e12 e13 e15 : Option PyData), S = [some (.dat (dCh (chC z))), some (.dat (dN hp)), some (.dat (dL2 vals)), some (.dat (dL2 paid)), some (.own A4), some (.own A5), some (.dat (.int (one : Nat))), a7, a8, a9, some (.own (rowP hp es one p)), some (.dat (dQ (paid.getD one 0 + sOut (wsum es) hp vals (es.take p)))), e12.map SV.dat, e13.map SV.dat, none, e15.map SV.dat]) ?_ ?_ ⟨e12, e13, e15, by
      have : paid.getD one 0 + sOut (wsum es) hp vals (es.take 0) = paid.getD one 0 := by
        rw [List.take_zero]
        simp only [sOut]
        grind
      rw [this]⟩
    · rintro p dp S hp' ⟨e12, e13, e15, rfl⟩
      unfold mvD at hp'
      rw [List.getElem?_map] at hp'
      obtain ⟨e, hee, rfl⟩ := Option.map_eq_some_iff.mp hp'
      have em := List.mem_of_getElem? hee
      obtain ⟨⟨g0, g1⟩, g2, g3⟩ := he.ends e em
      obtain ⟨j, hj⟩ : ∃ j : Nat, e.1 = (j : Int) := ⟨e.1.toNat, by omega⟩
      have jn : j < z.length := by omega
      have pc := he.pd em
      have sn : sOut (wsum es) hp vals (es.take (p + 1)) = sOut (wsum es) hp vals (es.take p) + if j ∈ hp then 0 else Rat.divInt e.2 (wsum es) * vals.getD j 0 := by
        rw [List.take_add_one, hee, Option.toList_some, sOut_app]
        simp only [sOut]
        rw [hj, Int.toNat_natCast]
        grind
      rw [hj]
      walk_at "wv"
      refine okTo_eq in_dN ?_
      walk_at "wv"
      by_cases c : j ∈ hp
      · rw [if_pos (decide_eq_true c)]
        obtain ⟨a, al, ai, aj⟩ := idx_ok c
        walk_at "wv"
        refine w_index ?_
        walk_at "wv"
        refine ⟨_, rfl, ?_⟩
        walk_at "wv"
        refine okTo_eq ai ?_
        walk_at "wv"
        have ra : ixD (rowP hp es one p) (a : Int) = .ok (dQ ((if hp.getD a 0 = one then 1 else 0) - pSum (wsum es) (es.take p) (hp.getD a 0 : Nat))) := ixD_nat (by unfold rowP fL; rw [List.getElem?_map, List.getElem?_range al]; rfl)
        refine okTo_eq ra ?_
        walk_at "wv"
        refine okTo_eq (dq_n _) ?_
        walk_at "wv"
        refine okTo_eq (dq_d _) ?_
        walk_at "wv"
        refine ⟨by simp, ?_⟩
        rw [sub0_Q]
        walk_at "wv"
        have pe := dele (c := hp.getD a 0 = one) (by decide) (pSum_pd he p (hp.getD a 0 : Nat))
        refine ⟨rfl, l_plus_ok (pe.b3 wn (by omega) (by omega)) (pc.neg.b3 wn (by omega) (by omega)) ?_⟩
        walk_at "wv"
        refine ⟨a, by unfold rowP; rw [fL_len]; exact ixN_nat al, some (.int (j : Nat)), some (dQ (Rat.divInt e.2 (wsum es))), some (.int (a : Nat)), ?_⟩
        have rs := rowP_in (one := one) h.nd al hee (by rw [aj]; exact hj)
        rw [rs, sn, if_pos c, show paid.getD one 0 + (sOut (wsum es) hp vals (es.take p) + 0) = paid.getD one 0 + sOut (wsum es) hp vals (es.take p) by grind]
        rfl
      · rw [if_neg (by simpa using c)]
        walk_at "wv"
        have ev : vals[j]? = some (vals.getD j 0) := by rw [List.getD_eq_getElem?_getD, List.getElem?_eq_getElem (show j < vals.length by rw [hv.lv]; exact jn)]; rfl
        refine okTo_eq (a := dQ (vals.getD j 0)) (ixD_nat (ds := vals.map dQ) (by rw [List.getElem?_map, ev]; rfl)) ?_
        walk_at "wv"
        have pv := hv.v _ (List.mem_of_getElem? ev)
        have pm := pc.mul pv
        have wt : (wsum es).natAbs * t < 2 ^ 400 := Nat.lt_of_le_of_lt (Nat.mul_le_mul (show (wsum es).natAbs ≤ 20000 by omega) (Nat.le_of_lt t2)) q2
        have wt0 : (wsum es).natAbs * t ≠ 0 := Nat.mul_ne_zero wn hv.t0
        have um : 1000 * u < 2 ^ 400 := Nat.lt_of_le_of_lt (Nat.mul_le_mul_left 1000 (Nat.le_of_lt u2)) q3
        refine ⟨rfl, l_times_ok (pc.b3 wn (by omega) (by omega)) (pv.b3 hv.t0 (Nat.lt_trans u2 q5) (Nat.lt_trans t2 q5)) ?_⟩
        walk_at "wv"
        have ps := sOut_pd (t := t) (u := u) (hp := hp) (vals := vals) w1 (es.take p) (fun x hx => (he.ends x (List.mem_of_mem_take hx)).2) fun x hx => by
          obtain ⟨⟨a, b⟩, _⟩ := he.ends x (List.mem_of_mem_take hx)
          have : x.1.toNat < vals.length := by rw [hv.lv]; omega
          rw [List.getD_eq_getElem?_getD, List.getElem?_eq_getElem this]
          exact hv.v _ (List.getElem_mem this)
        have pp := (hv.p one on).scale (t := (wsum es).natAbs)
        rw [Nat.mul_comm t] at pp
        have pt := pp.add ps
        have tl : (es.take p).length ≤ 20 := by have := he.len; rw [List.length_take]; omega
        have bt : u * (wsum es).natAbs + (es.take p).length * (1000 * u) < 2 ^ 400 := by
          refine Nat.lt_of_le_of_lt (Nat.add_le_add ?_ (Nat.mul_le_mul tl (Nat.mul_le_mul_left 1000 (Nat.le_of_lt u2)))) q4
          rw [Nat.mul_comm]
          exact Nat.mul_le_mul (show (wsum es).natAbs ≤ 20000 by omega) (Nat.le_of_lt u2)
        refine ⟨rfl, l_plus_ok (pt.b3 wt0 bt wt) (pm.b3 wt0 um wt) ?_⟩
        walk_at "wv"
        refine ⟨some (.int (j : Nat)), some (dQ (Rat.divInt e.2 (wsum es))), e15, ?_⟩
        have rs := rowP_out (one := one) hee hj c
        rw [rs, sn, if_neg c, show paid.getD one 0 + (sOut (wsum es) hp vals (es.take p) + Rat.divInt e.2 (wsum es) * vals.getD j 0) = paid.getD one 0 + sOut (wsum es) hp vals (es.take p) + Rat.divInt e.2 (wsum es) * vals.getD j 0 by grind]
        rfl
    · rintro S ⟨e12, e13, e15, rfl⟩
      rw [show (mvD es).length = es.length by simp [mvD], List.take_length, rowP_end he.rise]
      walk_at "wv"
      refine ⟨by omega, ?_⟩
      walk_at "wv"
      refine ⟨by omega, a7, a8, a9, some (.dat (dL2 (rowOf hp es one))), some (.dat (dQ (paid.getD one 0 + sOut (wsum es) hp vals es))), some (.int (one : Nat)), e12, e13, e15, ?_⟩
      rw [List.take_add_one, ho, Option.toList_some, List.map_append, List.map_append, List.map_append, List.map_append, hA, hB]
      rw [List.map_singleton, List.map_singleton, List.map_singleton, List.map_singleton, hE]
      rfl
  · rintro S ⟨a7, a8, a9, a10, a11, e6, e12, e13, e15, rfl⟩
    rw [List.length_map, List.take_length]
    walk_at "wv"
    refine ⟨rfl, hs _ ?_⟩
    walk_at "wv"
    refine ⟨_, rfl, ?_⟩
    walk_at "wv"
    refine okTo_eq (a := .int (hp.length : Nat)) (by
      show R.ok (PyData.int ((hp.map _).length : Nat)) = _
      rw [List.length_map]) ?_
    walk_at "wv"
    refine ⟨_, rfl, ⟨by omega, by omega⟩, ?_⟩
    rw [Int.toNat_natCast]
    refine loop_ok (fun p S => ∃ (a9 : Option SV), S = [some (.dat (dCh (chC z))), some (.dat (dN hp)), some (.dat (dL2 vals)), some (.dat (dL2 paid)), some (.dat (dM (rowsOf z hp))), some (.dat (dL2 (sidesOf z hp vals paid))), e6.map SV.dat, some (.dat (dL2 ((List.range hp.length).map x))), some (.own ((setAll vals hp x p).map dQ)), a9, a10, a11, e12.map SV.dat, e13.map SV.dat, none, e15.map SV.dat]) ?_ ?_ ⟨a9, rfl⟩
    · rintro p dp S hp' ⟨a9, rfl⟩
      obtain ⟨pl, rfl⟩ := rangeD_get hp'
      rw [Int.zero_add]
      have eh : hp[p]? = some (hp.getD p 0) := by rw [List.getD_eq_getElem?_getD, List.getElem?_eq_getElem pl]; rfl
      have hm := h.lt _ (List.mem_of_getElem? eh)
      walk_at "wv"
      refine okTo_eq (a := dQ (x p)) (ixD_nat (ds := ((List.range hp.length).map x).map dQ) (by rw [List.getElem?_map, List.getElem?_map, List.getElem?_range pl]; rfl)) ?_
      walk_at "wv"
      refine okTo_eq (a := .int (hp.getD p 0 : Nat)) (ixD_nat (ds := hp.map fun k => PyData.int (k : Nat)) (by rw [List.getElem?_map, eh]; rfl)) ?_
      walk_at "wv"
      refine ⟨hp.getD p 0, by rw [List.length_map, setAll_len, hv.lv]; exact ixN_nat hm, some (.dat (.int (p : Nat))), ?_⟩
      rw [set_map]
      rfl
    · rintro S ⟨a9, rfl⟩
      rw [rangeD_len]
      walk_at "wv"
      exact hk
end Bo

/-! ### k16: the chances, by the program and by the law -/
namespace Bo
open PySem L2
local macro_rules | `(tactic| walk_at "wv1") => `(tactic| (first
  | with_reducible refine w_seq ?_
  | with_reducible refine w_asg ?_
  | ((with_reducible refine w_var (d := ?wd) ?wh ?wq); (case wh => exact rfl))
  | with_reducible refine w_c ?_
  | with_reducible refine w_op ?_
  | with_reducible refine w_un ?_
  | with_reducible refine w_and ?_
  | with_reducible refine w_or ?_
  | with_reducible refine w_not ?_
  | with_reducible refine w_toB ?_
  | with_reducible refine w_toI ?_
  | with_reducible refine w_tst ?_
  | with_reducible refine w_tnot ?_
  | with_reducible refine w_tand ?_
  | with_reducible refine w_tor ?_
  | with_reducible refine w_tru ?_
  | with_reducible refine w_if ?_
  | with_reducible refine w_chain ?_
  | with_reducible refine w_nil ?_
  | with_reducible refine w_cons ?_
  | with_reducible refine w_tup ?_
  | with_reducible refine w_lst ?_
  | with_reducible refine w_lstF ?_
  | with_reducible refine w_call ?_
  | with_reducible refine w_callP ?_
  | with_reducible refine w_callL ?_
  | ((with_reducible refine w_own (ds := ?wd) ?wh ?wq); (case wh => exact rfl))
  | with_reducible refine w_callB ?_
  | ((with_reducible refine w_callS (ns := ?wd) ?wh ?wq); (case wh => exact rfl))
  | with_reducible refine w_consO ?_
  | with_reducible refine w_fr ?_
  | with_reducible refine w_lenO ?_
  | with_reducible refine w_tupleO ?_
  | with_reducible refine w_listO ?_
  | with_reducible refine w_ixO ?_
  | with_reducible refine w_inO ?_
  | with_reducible refine w_truO ?_
  | with_reducible refine w_app ?_
  | with_reducible refine w_setI ?_
  | with_reducible refine w_sl ?_
  | with_reducible refine w_noPart ?_
  | with_reducible refine w_part ?_
  | with_reducible refine w_iter ?_
  | with_reducible refine w_iterT ?_
  | with_reducible refine w_range1 ?_
  | with_reducible refine w_listRg ?_
  | with_reducible refine w_enumK ?_
  | with_reducible refine w_zipK ?_
  | with_reducible refine w_repF ?_
  | with_reducible refine w_lc ?_
  | with_reducible refine w_yes ?_
  | with_reducible refine w_next ?_
  | with_reducible refine w_ret ?_
  | with_reducible refine w_retN ?_
  | with_reducible refine w_drop ?_
  | with_reducible refine w_aName ?_
  | with_reducible refine w_aTup rfl ?_
  | with_reducible refine w_aNil ?_
  | with_reducible refine w_aCons ?_
  | with_reducible refine w_ifS ?_
  | with_reducible refine w_ownS ?_
  | ((with_reducible refine w_frz (ds := ?wd) ?wh ?wq); (case wh => exact rfl))
  | with_reducible refine w_for ?_
  | ((with_reducible refine w_aug (a := ?wd) ?wh ?wq); (case wh => exact rfl))
  | with_reducible refine w_gI ?_
  | with_reducible refine w_gIB ?_
  | with_reducible refine w_gIC ?_
  | with_reducible refine w_gEqI ?_
  | with_reducible refine w_gNeI ?_
  | with_reducible refine w_gIxL ?_
  | with_reducible refine w_gIxT ?_
  | with_reducible refine w_gCat ?_
  | with_reducible refine w_gCatT ?_
  | with_reducible refine w_isN ?_
  | with_reducible refine w_notN ?_
  | with_reducible refine w_gInL ?_
  | with_reducible refine w_gLenL ?_
  | with_reducible refine w_gLenT ?_
  | with_reducible refine w_gIntI ?_
  | with_reducible refine w_gTuple ?_
  | with_reducible refine w_gBools ?_
  | with_reducible refine w_gInts ?_
  | with_reducible refine w_gNeD ?_
  | with_reducible refine w_gEqD ?_
  | with_reducible refine w_gRevL ?_
  | with_reducible refine w_gSlL ?_
  | with_reducible refine w_gSlT ?_
  | with_reducible refine w_itT ?_
  | with_reducible refine w_itF ?_
  | with_reducible refine w_itTT ?_
  | with_reducible refine w_itFT ?_
  | with_reducible refine w_gList ?_
  | with_reducible refine w_gSortI ?_
  | with_reducible refine w_range2 ?_
  | ((with_reducible refine w_lcO (ds := ?wd) ?wh ?wq ?wr); (case wh => exact rfl); (case wq => exact rfl))
  | with_reducible refine w_aUnl rfl ?_
  | with_reducible refine w_listF ?_
  | with_reducible refine w_brk ?_
  | with_reducible refine w_cnt ?_
  | with_reducible refine w_neg ?_
  | with_reducible refine w_gIntB ?_
  | simp only [wipeS, backS, List.set_cons_zero, List.set_cons_succ, List.getElem?_cons_zero, List.getElem?_cons_succ, Option.join_some, Option.join_none, Bool.not_true, Bool.not_false]))
local macro_rules | `(tactic| walk_at "wv") => `(tactic| ((repeat (walk_at "wv1"; try dsimp only)); try simp only [List.set_cons_zero, List.set_cons_succ]))
local macro_rules | `(tactic| walk_at "st") => `(tactic| simp only [startS, List.map_cons, List.map_nil, List.length_cons, List.length_nil, Nat.reduceAdd, Nat.reduceSub, List.replicate_succ, List.replicate_zero, List.cons_append, List.nil_append])

noncomputable def hpOf (z : List (List Cho)) (al tg : List Int) : List Nat := (idxP z.length (Rch (Edge z) (Uy z al tg) (Gs tg))).filter fun i : Nat => !decide ((i : Int) ∈ tg)
theorem hp_mem {z : List (List Cho)} {al tg : List Int} {i : Nat} : i ∈ hpOf z al tg ↔ (i < z.length ∧ Rch (Edge z) (Uy z al tg) (Gs tg) i) ∧ (i : Int) ∉ tg := by
  unfold hpOf
  rw [List.mem_filter, mem_idxP]
  simp
theorem ch_edge {z : List (List Cho)} (hz : ChOk z) {i k j : Nat} (hi : i < z.length) : Edge z i k j ↔ k = 0 ∧ ∃ e ∈ eAt z i, e.1 = ((j : Nat) : Int) := by
  have e0 := (hz.at_ i hi).1
  unfold Edge
  constructor
  · rintro ⟨s, c, e, h1, h2, h3, h4⟩
    rw [e0] at h1
    cases h1
    cases k with
    | succ k => cases h2
    | zero =>
      cases h2
      exact ⟨rfl, e, h3, h4⟩
  · rintro ⟨rfl, e, h3, h4⟩
    exact ⟨_, _, e, e0, rfl, h3, h4⟩
theorem ch_yok {z : List (List Cho)} (hz : ChOk z) : YOk z where
  len := hz.len
  st := fun s hs => by
    obtain ⟨i, hi, rfl⟩ := List.getElem_of_mem hs
    have := (hz.at_ i hi).1
    rw [List.getElem?_eq_getElem hi] at this
    rw [Option.some.inj this]
    simp
  cho := fun s hs c hc => by
    obtain ⟨i, hi, rfl⟩ := List.getElem_of_mem hs
    have e := (hz.at_ i hi).1
    rw [List.getElem?_eq_getElem hi] at e
    rw [Option.some.inj e, List.mem_singleton] at hc
    rw [hc]
    have he := (hz.at_ i hi).2
    exact ⟨by have := he.len; omega, fun e h => (he.ends e h).1⟩
theorem hop_of {z : List (List Cho)} {al tg : List Int} (hz : ChOk z) : Hop z (hpOf z al tg) where
  ch := hz
  lt := fun i hi => (hp_mem.mp hi).1.1
  nd := by
    unfold hpOf idxP idx
    exact (List.nodup_range.filter _).filter _
  rc := fun i hi => by
    have go : ∀ s, Rch (Edge z) (Uy z al tg) (Gs tg) s → s ∈ hpOf z al tg → Rc z (hpOf z al tg) s := by
      intro s r
      induction r with
      | goal t => exact fun h => absurd t (hp_mem.mp h).2
      | @step s k j u e _ ih =>
        intro h
        obtain ⟨_, e', h1, h2⟩ := (ch_edge hz (hp_mem.mp h).1.1).mp e
        have ej : e'.1.toNat = j := by omega
        by_cases q : j ∈ hpOf z al tg
        · exact .step h h1 (by rw [ej]; exact ih q)
        · exact .out h h1 (by rw [ej]; exact q)
    exact go i (hp_mem.mp hi).1.2 hi
def v01 (n : Nat) (tg : List Int) : List Rat := (List.range n).map fun i => if ((i : Nat) : Int) ∈ tg then 1 else 0
theorem val_01 {n : Nat} {tg : List Int} : ValOk n 1 1 (v01 n tg) (List.replicate n (0 : Rat)) where
  lv := by simp [v01]
  lp := by simp
  v := fun q hq => by
    obtain ⟨i, _, rfl⟩ := List.mem_map.mp hq
    split
    · exact .one
    · exact .zero 1 1
  p := fun i hi => by
    rw [List.getD_eq_getElem?_getD, List.getElem?_replicate, if_pos hi]
    exact .zero 1 1
  t0 := by decide
  t1 := Nat.one_lt_two_pow (by decide)
  u1 := Nat.one_lt_two_pow (by decide)
theorem rep_flat {α : Type} (x : α) : ∀ m, (List.replicate m [x]).flatten = List.replicate m x
  | 0 => rfl
  | m + 1 => by rw [List.replicate_succ, List.flatten_cons, rep_flat x m]; rfl
theorem take_filter {α : Type} {p : α → Bool} {l : List α} {i : Nat} {a : α} (h : l[i]? = some a) : (l.take (i + 1)).filter p = (l.take i).filter p ++ if p a = true then [a] else [] := by
  rw [List.take_add_one, h, Option.toList_some, List.filter_append]
  congr 1
  by_cases c : p a = true
  · simp [c]
  · simp [c]
theorem policy_chances_ok {y : List (List Cho)} {pol al tg : List Int} {x : Nat → Rat} {k : PyData → Prop} (hy : y.length ≤ 20) (hp : PolOk y pol) (hz : ChOk (chY y pol)) (ht : TOk (chY y pol) tg)
    (hs : ∀ k' : PyData → Prop, k' (dL2 ((List.range (hpOf (chY y pol) al tg).length).map x)) → (den_solve [dM (rowsOf (chY y pol) (hpOf (chY y pol) al tg)), dL2 (sidesOf (chY y pol) (hpOf (chY y pol) al tg) (v01 y.length tg) (List.replicate y.length 0))]).okTo k')
    (h : k (dL2 (setAll (v01 y.length tg) (hpOf (chY y pol) al tg) x (hpOf (chY y pol) al tg).length))) : (den_policy_chances [dY y, .tuple (pol.map .int), dL al, dL tg]).okTo k := by
  have zl : (chY y pol).length = y.length := chY_len
  have hop := hop_of (al := al) (tg := tg) hz
  unfold den_policy_chances body_policy_chances
  refine w_denP ?_
  walk_at "st"
  walk_at "wv"
  refine ⟨rfl, chain_of_ok (by omega) hp ?_⟩
  generalize chY y pol = z at hz ht hs h zl hop ⊢
  walk_at "wv"
  refine ⟨by simp, ?_⟩
  rw [one_Q]
  walk_at "wv"
  refine ⟨by simp, ?_⟩
  rw [zero_Q]
  walk_at "wv"
  refine ⟨rfl, at_targets_ok (by omega) ?_⟩
  rw [zl, show (List.range y.length).map (fun i => if ((i : Nat) : Int) ∈ tg then (1 : Rat) else 0) = v01 y.length tg from rfl]
  walk_at "wv"
  refine ⟨rfl, possible_ok (ch_yok hz) ht ?_⟩
  walk_at "wv"
  have il : (idxP z.length (Rch (Edge z) (Uy z al tg) (Gs tg))).length ≤ z.length := by
    have := List.length_filter_le (fun i => (fun i => by classical exact decide (Rch (Edge z) (Uy z al tg) (Gs tg) i)) i) (List.range z.length)
    rw [List.length_range] at this
    unfold idxP idx
    exact Nat.le_trans (List.length_filter_le _ _) (by rw [List.length_range]; exact Nat.le_refl _)
  have eh : hpOf z al tg = (idxP z.length (Rch (Edge z) (Uy z al tg) (Gs tg))).filter fun i : Nat => !decide ((i : Int) ∈ tg) := rfl
  generalize idxP z.length (Rch (Edge z) (Uy z al tg) (Gs tg)) = ids at il eh ⊢
  refine ⟨_, rfl, ⟨rfl, by rw [List.length_map]; omega⟩, ?_⟩
  refine lc_ok (fun p acc Z => acc = ((ids.take p).filter fun i : Nat => !decide ((i : Int) ∈ tg)).map (fun k => PyData.int (k : Nat)) ∧ Z = [some (.dat (dY y)), some (.dat (.tuple (pol.map .int))), some (.dat (dL al)), some (.dat (dL tg)), some (.dat (dY z)), some (.dat (dL2 (v01 y.length tg))), none, none]) ?_ ?_ ⟨rfl, rfl⟩
  · rintro p dp acc Z hp' ⟨rfl, rfl⟩
    rw [List.getElem?_map] at hp'
    obtain ⟨o, ho, rfl⟩ := Option.map_eq_some_iff.mp hp'
    walk_at "wv"
    refine okTo_eq in_tgN ?_
    walk_at "wv"
    rw [take_filter ho]
    by_cases c : (o : Int) ∈ tg
    · rw [if_neg (by simp [c]), if_neg (by simp [c]), List.append_nil]
      exact ⟨rfl, by first | trivial | rfl⟩
    · rw [if_pos (by simp [c]), if_pos (by simp [c])]
      walk_at "wv"
      rw [List.map_append]
      exact ⟨rfl, by first | trivial | rfl⟩
  rintro acc Z ⟨rfl, rfl⟩
  rw [List.length_map, List.take_length, ← eh]
  walk_at "wv"
  refine ⟨by simp, ?_⟩
  rw [zero_Q]
  walk_at "wv"
  refine ⟨by simp, ?_⟩
  walk_at "wv"
  refine okTo_eq gLen_y ?_
  walk_at "wv"
  refine okTo_when.mpr ⟨⟨by rw [Int.toNat_natCast]; simp; omega, by omega, by omega⟩, ?_⟩
  rw [Int.toNat_natCast, rep_flat, zl, show List.replicate y.length (dQ 0) = (List.replicate y.length (0 : Rat)).map dQ by rw [List.map_replicate]]
  refine okTo_ok.mpr ?_
  walk_at "wv"
  have hl : (hpOf z al tg).length ≤ 20 := by
    rw [eh]
    have := List.length_filter_le (fun i : Nat => !decide ((i : Int) ∈ tg)) ids
    omega
  have vo : ValOk z.length 1 1 (v01 y.length tg) (List.replicate y.length (0 : Rat)) := by rw [zl]; exact val_01
  refine ⟨rfl, settled_ok (Sol := fun u => ∀ i, i < (hpOf z al tg).length → u i = x i) hz hop.lt hl vo (fun k' h' => hs _ (h' x fun _ _ => rfl)) fun u hu => ?_⟩
  walk_at "wv"
  have es : ∀ p, p ≤ (hpOf z al tg).length → setAll (v01 y.length tg) (hpOf z al tg) u p = setAll (v01 y.length tg) (hpOf z al tg) x p := by
    intro p
    induction p with
    | zero => exact fun _ => rfl
    | succ p ih =>
      intro hp'
      unfold setAll
      rw [ih (by omega), hu p (by omega)]
  rw [es _ (Nat.le_refl _)]
  exact h
end Bo

/-! ### k16: the chances, by the law -/
namespace Bo
open PySem L2
local macro_rules | `(tactic| walk_at "wv1") => `(tactic| (first
  | with_reducible refine w_seq ?_
  | with_reducible refine w_asg ?_
  | ((with_reducible refine w_var (d := ?wd) ?wh ?wq); (case wh => exact rfl))
  | with_reducible refine w_c ?_
  | with_reducible refine w_op ?_
  | with_reducible refine w_un ?_
  | with_reducible refine w_and ?_
  | with_reducible refine w_or ?_
  | with_reducible refine w_not ?_
  | with_reducible refine w_toB ?_
  | with_reducible refine w_toI ?_
  | with_reducible refine w_tst ?_
  | with_reducible refine w_tnot ?_
  | with_reducible refine w_tand ?_
  | with_reducible refine w_tor ?_
  | with_reducible refine w_tru ?_
  | with_reducible refine w_if ?_
  | with_reducible refine w_chain ?_
  | with_reducible refine w_nil ?_
  | with_reducible refine w_cons ?_
  | with_reducible refine w_tup ?_
  | with_reducible refine w_lst ?_
  | with_reducible refine w_lstF ?_
  | with_reducible refine w_call ?_
  | with_reducible refine w_callP ?_
  | with_reducible refine w_callL ?_
  | ((with_reducible refine w_own (ds := ?wd) ?wh ?wq); (case wh => exact rfl))
  | with_reducible refine w_callB ?_
  | ((with_reducible refine w_callS (ns := ?wd) ?wh ?wq); (case wh => exact rfl))
  | with_reducible refine w_consO ?_
  | with_reducible refine w_fr ?_
  | with_reducible refine w_lenO ?_
  | with_reducible refine w_tupleO ?_
  | with_reducible refine w_listO ?_
  | with_reducible refine w_ixO ?_
  | with_reducible refine w_inO ?_
  | with_reducible refine w_truO ?_
  | with_reducible refine w_app ?_
  | with_reducible refine w_setI ?_
  | with_reducible refine w_sl ?_
  | with_reducible refine w_noPart ?_
  | with_reducible refine w_part ?_
  | with_reducible refine w_iter ?_
  | with_reducible refine w_iterT ?_
  | with_reducible refine w_range1 ?_
  | with_reducible refine w_listRg ?_
  | with_reducible refine w_enumK ?_
  | with_reducible refine w_zipK ?_
  | with_reducible refine w_repF ?_
  | with_reducible refine w_lc ?_
  | with_reducible refine w_yes ?_
  | with_reducible refine w_next ?_
  | with_reducible refine w_ret ?_
  | with_reducible refine w_retN ?_
  | with_reducible refine w_drop ?_
  | with_reducible refine w_aName ?_
  | with_reducible refine w_aTup rfl ?_
  | with_reducible refine w_aNil ?_
  | with_reducible refine w_aCons ?_
  | with_reducible refine w_ifS ?_
  | with_reducible refine w_ownS ?_
  | ((with_reducible refine w_frz (ds := ?wd) ?wh ?wq); (case wh => exact rfl))
  | with_reducible refine w_for ?_
  | ((with_reducible refine w_aug (a := ?wd) ?wh ?wq); (case wh => exact rfl))
  | with_reducible refine w_gI ?_
  | with_reducible refine w_gIB ?_
  | with_reducible refine w_gIC ?_
  | with_reducible refine w_gEqI ?_
  | with_reducible refine w_gNeI ?_
  | with_reducible refine w_gIxL ?_
  | with_reducible refine w_gIxT ?_
  | with_reducible refine w_gCat ?_
  | with_reducible refine w_gCatT ?_
  | with_reducible refine w_isN ?_
  | with_reducible refine w_notN ?_
  | with_reducible refine w_gInL ?_
  | with_reducible refine w_gLenL ?_
  | with_reducible refine w_gLenT ?_
  | with_reducible refine w_gIntI ?_
  | with_reducible refine w_gTuple ?_
  | with_reducible refine w_gBools ?_
  | with_reducible refine w_gInts ?_
  | with_reducible refine w_gNeD ?_
  | with_reducible refine w_gEqD ?_
  | with_reducible refine w_gRevL ?_
  | with_reducible refine w_gSlL ?_
  | with_reducible refine w_gSlT ?_
  | with_reducible refine w_itT ?_
  | with_reducible refine w_itF ?_
  | with_reducible refine w_itTT ?_
  | with_reducible refine w_itFT ?_
  | with_reducible refine w_gList ?_
  | with_reducible refine w_gSortI ?_
  | with_reducible refine w_range2 ?_
  | ((with_reducible refine w_lcO (ds := ?wd) ?wh ?wq ?wr); (case wh => exact rfl); (case wq => exact rfl))
  | with_reducible refine w_aUnl rfl ?_
  | with_reducible refine w_listF ?_
  | with_reducible refine w_brk ?_
  | with_reducible refine w_cnt ?_
  | with_reducible refine w_neg ?_
  | with_reducible refine w_gIntB ?_
  | simp only [wipeS, backS, List.set_cons_zero, List.set_cons_succ, List.getElem?_cons_zero, List.getElem?_cons_succ, Option.join_some, Option.join_none, Bool.not_true, Bool.not_false]))
local macro_rules | `(tactic| walk_at "wv") => `(tactic| ((repeat (walk_at "wv1"; try dsimp only)); try simp only [List.set_cons_zero, List.set_cons_succ]))
local macro_rules | `(tactic| walk_at "st") => `(tactic| simp only [startS, List.map_cons, List.map_nil, List.length_cons, List.length_nil, Nat.reduceAdd, Nat.reduceSub, List.replicate_succ, List.replicate_zero, List.cons_append, List.nil_append])

theorem dL_dN {tg : List Int} (h : ∀ x ∈ tg, 0 ≤ x) : dL tg = dN (tg.map Int.toNat) := by
  unfold dL dN
  rw [List.map_map]
  congr 1
  refine List.map_congr_left fun x hx => ?_
  show PyData.int x = PyData.int ((x.toNat : Nat) : Int)
  have := h x hx
  congr 1
  omega
theorem mem_toNat {tg : List Int} (h : ∀ x ∈ tg, 0 ≤ x) {i : Nat} : i ∈ tg.map Int.toNat ↔ (i : Int) ∈ tg := by
  rw [List.mem_map]
  constructor
  · rintro ⟨x, hx, rfl⟩
    have := h x hx
    rw [show ((x.toNat : Nat) : Int) = x by omega]
    exact hx
  · exact fun hx => ⟨_, hx, by omega⟩
theorem zz_at {z : List (List Cho)} {i : Nat} (hi : i < z.length) : ((chC z).map (·.2))[i]? = some (eAt z i) := by
  unfold chC
  rw [List.getElem?_map, List.getElem?_map, List.getElem?_range hi]
  rfl
theorem rb_iff {z : List (List Cho)} {al tg : List Int} (hz : ChOk z) (h0 : ∀ x ∈ tg, 0 ≤ x) {i : Nat} : Rb ((chC z).map (·.2)) (idx z.length (onWay al tg)) (tg.map Int.toNat) i ↔ Rch (Edge z) (Uy z al tg) (Gs tg) i := by
  have uy : ∀ s, Uy z al tg s 0 ↔ s ∈ idx z.length (onWay al tg) := fun s => by
    rw [mem_idx]
    unfold Uy
    rw [us_usable]
    constructor
    · rintro ⟨st, h1, h2, h3, h4⟩
      exact ⟨(List.getElem?_eq_some_iff.mp h1).1, by unfold onWay; simp [h3, h4]⟩
    · rintro ⟨h1, h2⟩
      have e := (hz.at_ s h1).1
      unfold onWay at h2
      rw [Bool.and_eq_true] at h2
      exact ⟨_, e, by simp, of_decide_eq_true h2.1, by simpa using h2.2⟩
  constructor
  · intro r
    unfold Rb at r
    refine rch_mono (E := EG ((chC z).map (·.2))) (U := fun i k => i ∈ idx z.length (onWay al tg) ∧ k = 0) (T := (· ∈ tg.map Int.toNat)) (fun s k u => .inr ?_) (fun s k j u e => ?_) (fun s t => (mem_toNat h0).mp t) r
    · rw [u.2]
      exact (uy s).mpr u.1
    · have hs := (mem_idx.mp u.1).1
      obtain ⟨es, e', h1, h2, h3⟩ := e
      rw [zz_at hs] at h1
      cases h1
      exact (ch_edge hz hs).mpr ⟨u.2, e', h2, h3⟩
  · intro r
    unfold Rb
    have lt : ∀ s k, Uy z al tg s k → s < z.length ∧ k = 0 := fun s k u => by
      unfold Uy at u
      obtain ⟨st, h1, h2, _⟩ := us_usable.mp u
      have hs := (List.getElem?_eq_some_iff.mp h1).1
      rw [(hz.at_ s hs).1] at h1
      cases h1
      rw [List.length_singleton] at h2
      exact ⟨hs, by omega⟩
    refine rch_mono (E := Edge z) (U := Uy z al tg) (T := Gs tg) (fun s k u => .inr ?_) (fun s k j u e => ?_) (fun s t => (mem_toNat h0).mpr t) r
    · obtain ⟨hs, rfl⟩ := lt s k u
      exact ⟨(uy s).mp u, rfl⟩
    · obtain ⟨hs, rfl⟩ := lt s k u
      obtain ⟨_, e', h2, h3⟩ := (ch_edge hz hs).mp e
      exact ⟨_, e', zz_at hs, h2, h3⟩
theorem unk_eq {z : List (List Cho)} {al tg : List Int} {F : List Nat} (hz : ChOk z) (h0 : ∀ x ∈ tg, 0 ≤ x) (hF : ∀ x, x ∈ F ↔ Rb ((chC z).map (·.2)) (idx z.length (onWay al tg)) (tg.map Int.toNat) x) : (idx z.length (onWay al tg)).filter (fun k => decide (k ∈ F)) = hpOf z al tg := by
  unfold hpOf idxP idx
  rw [List.filter_filter, List.filter_filter]
  refine List.filter_congr fun i hi => ?_
  have hi' := List.mem_range.mp hi
  have f : i ∈ F ↔ Rch (Edge z) (Uy z al tg) (Gs tg) i := (hF i).trans (rb_iff hz h0)
  refine Bool.eq_iff_iff.mpr ?_
  simp only [Bool.and_eq_true, decide_eq_true_eq, f]
  constructor
  · rintro ⟨r, o⟩
    unfold onWay at o
    rw [Bool.and_eq_true] at o
    exact ⟨o.2, r⟩
  · rintro ⟨t, r⟩
    refine ⟨r, ?_⟩
    have t' : (i : Int) ∉ tg := by simpa using t
    cases r with
    | goal g => exact absurd g t'
    | step u e _ =>
      unfold Uy at u
      obtain ⟨st, h1, h2, h3, h4⟩ := us_usable.mp u
      unfold onWay
      simp [h3, h4]
theorem l_chances_ok {z : List (List Cho)} {al tg : List Int} {x : Nat → Rat} {k : PyData → Prop} (hz : ChOk z) (ht : TOk z tg)
    (hs : ∀ k' : PyData → Prop, k' (dL2 ((List.range (hpOf z al tg).length).map x)) → (den_l_solve [dM (rowsOf z (hpOf z al tg)), dL2 (sidesOf z (hpOf z al tg) (v01 z.length tg) (List.replicate z.length 0))]).okTo k')
    (h : k (dL2 (setAll (v01 z.length tg) (hpOf z al tg) x (hpOf z al tg).length))) : (den_l_chances [dCh (chC z), dL al, dL tg]).okTo k := by
  have zl := hz.len
  have hop := hop_of (al := al) (tg := tg) hz
  have h0 : ∀ x ∈ tg, 0 ≤ x := fun x hx => (ht.mem x hx).1
  have cl : (chC z).length = z.length := by simp [chC]
  unfold den_l_chances body_l_chances
  refine w_denP ?_
  walk_at "st"
  walk_at "wv"
  refine okTo_eq (a := .int (z.length : Nat)) (by
    show R.ok (PyData.int (((chC z).map _).length : Nat)) = _
    rw [List.length_map, cl]) ?_
  walk_at "wv"
  refine ⟨_, rfl, ⟨by omega, by omega⟩, ⟨rfl, by rw [rangeD_len]; omega⟩, ?_⟩
  rw [Int.toNat_natCast]
  refine lc_ok (fun p acc Z => acc = (idx p (onWay al tg)).map (fun k => PyData.int (k : Nat)) ∧ Z = [some (.dat (dCh (chC z))), some (.dat (dL al)), some (.dat (dL tg)), some (.dat (.int (z.length : Nat))), none, none, none, none]) ?_ ?_ ⟨rfl, rfl⟩
  · rintro p dp acc Z hp ⟨rfl, rfl⟩
    obtain ⟨hp1, rfl⟩ := rangeD_get hp
    rw [Int.zero_add]
    walk_at "wv"
    refine okTo_eq in_tg ?_
    walk_at "wv"
    have ow : onWay al tg p = (decide ((p : Int) ∈ al) && !decide ((p : Int) ∈ tg)) := rfl
    by_cases c1 : (p : Int) ∈ al
    · rw [if_pos (decide_eq_true c1)]
      rw [decide_eq_true c1, Bool.true_and] at ow
      walk_at "wv"
      refine okTo_eq in_tgN ?_
      walk_at "wv"
      rw [idx_succ, ow]
      by_cases c2 : (p : Int) ∈ tg
      · rw [decide_eq_true c2]
        rw [if_neg (show ¬ (!true) = true by decide), if_neg (show ¬ (!true) = true by decide), List.append_nil]
        exact ⟨rfl, by first | trivial | rfl⟩
      · rw [decide_eq_false c2]
        rw [if_pos (show (!false) = true from rfl), if_pos (show (!false) = true from rfl)]
        walk_at "wv"
        rw [List.map_append]
        exact ⟨rfl, by first | trivial | rfl⟩
    · rw [if_neg (by simpa using c1), if_neg Bool.false_ne_true]
      rw [decide_eq_false c1, Bool.false_and] at ow
      rw [idx_succ, ow, if_neg Bool.false_ne_true, List.append_nil]
      exact ⟨rfl, by first | trivial | rfl⟩
  rintro acc Z ⟨rfl, rfl⟩
  rw [rangeD_len]
  walk_at "wv"
  have rl : (idx z.length (onWay al tg)).length ≤ z.length := by
    unfold idx
    exact Nat.le_trans (List.length_filter_le _ _) (by rw [List.length_range]; exact Nat.le_refl _)
  have gok : GOk z.length ((chC z).map (·.2)) := ⟨by rw [List.length_map, cl], zl, fun es hes => by
    obtain ⟨i, hi, rfl⟩ := List.getElem_of_mem hes
    have hi' : i < z.length := by rwa [List.length_map, cl] at hi
    have e := zz_at hi'
    rw [List.getElem?_eq_getElem hi] at e
    rw [Option.some.inj e]
    have he := (hz.at_ i hi').2
    exact ⟨by have := he.len; unfold eAt; omega, fun e h => (he.ends e h).1.1⟩⟩
  refine ⟨rfl, ?_⟩
  rw [dL_dN h0]
  refine backward_ok rfl gok rl (fun x hx => (mem_idx.mp hx).1) (by rw [List.length_map]; exact ht.len) fun F hF lF => ?_
  rw [← dL_dN h0]
  walk_at "wv"
  refine ⟨_, rfl, ⟨by omega, by omega⟩, ⟨rfl, by rw [rangeD_len]; omega⟩, ?_⟩
  rw [Int.toNat_natCast]
  refine lc_ok (fun p acc Z => acc = ((List.range p).map fun i => if ((i : Nat) : Int) ∈ tg then (1 : Rat) else 0).map dQ ∧ Z = [some (.dat (dCh (chC z))), some (.dat (dL al)), some (.dat (dL tg)), some (.dat (.int (z.length : Nat))), some (.dat (dN (idx z.length (onWay al tg)))), some (.dat (dN F)), none, none]) ?_ ?_ ⟨rfl, rfl⟩
  · rintro p dp acc Z hp ⟨rfl, rfl⟩
    obtain ⟨hp1, rfl⟩ := rangeD_get hp
    rw [Int.zero_add]
    walk_at "wv"
    refine okTo_eq in_tg ?_
    walk_at "wv"
    refine ⟨by simp, ?_⟩
    rw [List.range_succ, List.map_append, List.map_append, List.map_singleton]
    refine ⟨?_, by first | trivial | rfl⟩
    congr 1
    by_cases c : ((p : Nat) : Int) ∈ tg
    · rw [if_pos c, decide_eq_true c]
      show [PyData.tuple [.int 1, .int 1]] = _
      rw [one_Q]
      rfl
    · rw [if_neg c, decide_eq_false c]
      show [PyData.tuple [.int 0, .int 1]] = _
      rw [zero_Q]
      rfl
  rintro acc Z ⟨rfl, rfl⟩
  rw [rangeD_len, show (List.range z.length).map (fun i => if ((i : Nat) : Int) ∈ tg then (1 : Rat) else 0) = v01 z.length tg from rfl]
  walk_at "wv"
  have ue := unk_eq (al := al) hz h0 hF
  generalize hR : idx z.length (onWay al tg) = rest at rl ue ⊢
  refine ⟨_, rfl, ⟨rfl, by rw [List.length_map]; omega⟩, ?_⟩
  refine lc_ok (fun p acc Z => acc = ((rest.take p).filter fun k => decide (k ∈ F)).map (fun k => PyData.int (k : Nat)) ∧ Z = [some (.dat (dCh (chC z))), some (.dat (dL al)), some (.dat (dL tg)), some (.dat (.int (z.length : Nat))), some (.dat (dN rest)), some (.dat (dN F)), some (.dat (dL2 (v01 z.length tg))), none]) ?_ ?_ ⟨rfl, rfl⟩
  · rintro p dp acc Z hp' ⟨rfl, rfl⟩
    rw [List.getElem?_map] at hp'
    obtain ⟨o, ho, rfl⟩ := Option.map_eq_some_iff.mp hp'
    walk_at "wv"
    refine okTo_eq in_dN ?_
    walk_at "wv"
    rw [take_filter ho]
    by_cases c : o ∈ F
    · rw [if_pos (by simp [c]), if_pos (by simp [c])]
      walk_at "wv"
      rw [List.map_append]
      exact ⟨rfl, by first | trivial | rfl⟩
    · rw [if_neg (by simp [c]), if_neg (by simp [c]), List.append_nil]
      exact ⟨rfl, by first | trivial | rfl⟩
  rintro acc Z ⟨rfl, rfl⟩
  rw [List.length_map, List.take_length, ue]
  walk_at "wv"
  refine ⟨by simp, ?_⟩
  rw [zero_Q]
  walk_at "wv"
  refine ⟨by simp, ?_⟩
  walk_at "wv"
  refine okTo_when.mpr ⟨⟨by rw [Int.toNat_natCast]; simp; omega, by omega, by omega⟩, ?_⟩
  rw [Int.toNat_natCast, rep_flat, show List.replicate z.length (dQ 0) = (List.replicate z.length (0 : Rat)).map dQ by rw [List.map_replicate]]
  refine okTo_ok.mpr ?_
  walk_at "wv"
  have hl : (hpOf z al tg).length ≤ 20 := by
    rw [← ue]
    exact Nat.le_trans (List.length_filter_le _ _) (by omega)
  refine ⟨rfl, filled_ok (t := 1) (u := 1) hop hl val_01 (Nat.one_lt_two_pow (by decide)) (Nat.one_lt_two_pow (by decide)) hs h⟩
end Bo

/-! ### k16: thin systems; the law -/
namespace Bo
open PySem L2
local macro_rules | `(tactic| walk_at "ev0") => `(tactic| simp only [okTo_bind, okTo_ok, okTo_noErr, okTo_when, R.bind_ok, seqF, vAsg, vVar, vC, vOp, vUn, vCall, vCons, vNil, vTup, vLst, vFr, vLstF, vTst, toB, toI, gI, gIC, gIB, gNeg, gInt, gLen, gEq, gNe, eqF, vAnd, vOr, vNot, tNotF, vYes, gTuple, gList, gRevL, wipeS, backS, okS, vIfS, vIf, vNext, vRet, vRetN, vDrop, vOwn, vFrz, frzS, aName, vFor, vScr, vRange1, vApp, ownD, vIxO, vSetI, gIxL, gIxT, vInO, vCallP, vCallB, vTupleO, vListO, vLenO, vLc, List.getElem?_cons_zero, List.getElem?_cons_succ, List.set_cons_zero, List.set_cons_succ, List.length_cons, List.length_nil, startS, List.map_cons, List.map_nil, List.replicate_succ, List.replicate_zero, List.cons_append, List.nil_append, denP, denB, denS, endP, endB, Nat.sub_self, Nat.reduceSub, Nat.reduceAdd, List.all_cons, List.all_nil, Bool.and_true, SV.mine, Bool.not_false, Option.join_some, true_and, and_true])
local macro_rules | `(tactic| walk_at "wv1") => `(tactic| (first
  | with_reducible refine w_seq ?_
  | with_reducible refine w_asg ?_
  | ((with_reducible refine w_var (d := ?wd) ?wh ?wq); (case wh => exact rfl))
  | with_reducible refine w_c ?_
  | with_reducible refine w_op ?_
  | with_reducible refine w_un ?_
  | with_reducible refine w_and ?_
  | with_reducible refine w_or ?_
  | with_reducible refine w_not ?_
  | with_reducible refine w_toB ?_
  | with_reducible refine w_toI ?_
  | with_reducible refine w_tst ?_
  | with_reducible refine w_tnot ?_
  | with_reducible refine w_tand ?_
  | with_reducible refine w_tor ?_
  | with_reducible refine w_tru ?_
  | with_reducible refine w_if ?_
  | with_reducible refine w_chain ?_
  | with_reducible refine w_nil ?_
  | with_reducible refine w_cons ?_
  | with_reducible refine w_tup ?_
  | with_reducible refine w_lst ?_
  | with_reducible refine w_lstF ?_
  | with_reducible refine w_call ?_
  | with_reducible refine w_callP ?_
  | with_reducible refine w_callL ?_
  | ((with_reducible refine w_own (ds := ?wd) ?wh ?wq); (case wh => exact rfl))
  | with_reducible refine w_callB ?_
  | ((with_reducible refine w_callS (ns := ?wd) ?wh ?wq); (case wh => exact rfl))
  | with_reducible refine w_consO ?_
  | with_reducible refine w_fr ?_
  | with_reducible refine w_lenO ?_
  | with_reducible refine w_tupleO ?_
  | with_reducible refine w_listO ?_
  | with_reducible refine w_ixO ?_
  | with_reducible refine w_inO ?_
  | with_reducible refine w_truO ?_
  | with_reducible refine w_app ?_
  | with_reducible refine w_setI ?_
  | with_reducible refine w_sl ?_
  | with_reducible refine w_noPart ?_
  | with_reducible refine w_part ?_
  | with_reducible refine w_iter ?_
  | with_reducible refine w_iterT ?_
  | with_reducible refine w_range1 ?_
  | with_reducible refine w_listRg ?_
  | with_reducible refine w_enumK ?_
  | with_reducible refine w_zipK ?_
  | with_reducible refine w_repF ?_
  | with_reducible refine w_lc ?_
  | with_reducible refine w_yes ?_
  | with_reducible refine w_next ?_
  | with_reducible refine w_ret ?_
  | with_reducible refine w_retN ?_
  | with_reducible refine w_drop ?_
  | with_reducible refine w_aName ?_
  | with_reducible refine w_aTup rfl ?_
  | with_reducible refine w_aNil ?_
  | with_reducible refine w_aCons ?_
  | with_reducible refine w_ifS ?_
  | with_reducible refine w_ownS ?_
  | ((with_reducible refine w_frz (ds := ?wd) ?wh ?wq); (case wh => exact rfl))
  | with_reducible refine w_for ?_
  | ((with_reducible refine w_aug (a := ?wd) ?wh ?wq); (case wh => exact rfl))
  | with_reducible refine w_gI ?_
  | with_reducible refine w_gIB ?_
  | with_reducible refine w_gIC ?_
  | with_reducible refine w_gEqI ?_
  | with_reducible refine w_gNeI ?_
  | with_reducible refine w_gIxL ?_
  | with_reducible refine w_gIxT ?_
  | with_reducible refine w_gCat ?_
  | with_reducible refine w_gCatT ?_
  | with_reducible refine w_isN ?_
  | with_reducible refine w_notN ?_
  | with_reducible refine w_gInL ?_
  | with_reducible refine w_gLenL ?_
  | with_reducible refine w_gLenT ?_
  | with_reducible refine w_gIntI ?_
  | with_reducible refine w_gTuple ?_
  | with_reducible refine w_gBools ?_
  | with_reducible refine w_gInts ?_
  | with_reducible refine w_gNeD ?_
  | with_reducible refine w_gEqD ?_
  | with_reducible refine w_gRevL ?_
  | with_reducible refine w_gSlL ?_
  | with_reducible refine w_gSlT ?_
  | with_reducible refine w_itT ?_
  | with_reducible refine w_itF ?_
  | with_reducible refine w_itTT ?_
  | with_reducible refine w_itFT ?_
  | with_reducible refine w_gList ?_
  | with_reducible refine w_gSortI ?_
  | with_reducible refine w_range2 ?_
  | ((with_reducible refine w_lcO (ds := ?wd) ?wh ?wq ?wr); (case wh => exact rfl); (case wq => exact rfl))
  | with_reducible refine w_aUnl rfl ?_
  | with_reducible refine w_listF ?_
  | with_reducible refine w_brk ?_
  | with_reducible refine w_cnt ?_
  | with_reducible refine w_neg ?_
  | with_reducible refine w_gIntB ?_
  | simp only [wipeS, backS, List.set_cons_zero, List.set_cons_succ, List.getElem?_cons_zero, List.getElem?_cons_succ, Option.join_some, Option.join_none, Bool.not_true, Bool.not_false]))
local macro_rules | `(tactic| walk_at "wv") => `(tactic| ((repeat (walk_at "wv1"; try dsimp only)); try simp only [List.set_cons_zero, List.set_cons_succ]))
local macro_rules | `(tactic| walk_at "st") => `(tactic| simp only [startS, List.map_cons, List.map_nil, List.length_cons, List.length_nil, Nat.reduceAdd, Nat.reduceSub, List.replicate_succ, List.replicate_zero, List.cons_append, List.nil_append])

theorem thin_ok {ts : List Int} {n : Int} {m : Nat} {bs : List PyData} {k : PyData × List PyData → Prop} (b : Box ts n bs) (hn : n ≤ 2 ^ 37) (hm : 1 ≤ m ∧ m ≤ 20)
    (h : ∀ (y : List (List Cho)) bs', SysOk 2 2 y → (∀ s ∈ y, ∀ c ∈ s, ∀ e ∈ c.2, e.2 ≤ 2) → y.length = m → Box ts (n + 10000) bs' → k (dY y, bs')) : (den_l_thin bs [.int (m : Int)]).okTo k := by
  unfold den_l_thin body_l_thin
  walk_at "ev0"
  refine seq_ok ?_
  walk_at "ev0"
  refine ⟨by decide, seq_ok ?_⟩
  walk_at "ev0"
  refine ⟨⟨by omega, by omega⟩, loop_ok (fun i S => ∃ (y : List (List Cho)) (bs : List PyData) (a c d e f : Option SV), S = [some (.own bs), some (.dat (.int (m : Int))), some (.own (y.map dS)), a, c, d, e, f] ∧ Box ts (n + 400 * i) bs ∧ y.length = i ∧ ∀ s ∈ y, (1 ≤ s.length ∧ s.length ≤ 2) ∧ ∀ c ∈ s, (ChoOk m 2 c ∧ ∀ e ∈ c.2, e.2 ≤ 2)) ?_ ?_
    ⟨[], bs, _, _, _, _, _, rfl, b.up (by omega), rfl, by simp⟩⟩
  · rintro i d S hi ⟨y, bs2, a, c, d1, e, f, rfl, b2, hl, hs⟩
    obtain ⟨hi1, rfl⟩ := rangeD_get hi
    rw [Int.toNat_natCast] at hi1
    walk_at "ev0"
    refine seq_ok ?_
    walk_at "ev0"
    refine ⟨by decide, seq_ok ?_⟩
    walk_at "ev0"
    refine take_ok b2 (by omega) (by omega) fun r bs3 r0 r1 b3 => ?_
    walk_at "ev0"
    refine ⟨by omega, loop_ok (fun j S => ∃ (s : List Cho) (bs : List PyData) (d e f : Option SV), S = [some (.own bs), some (.dat (.int (m : Int))), some (.own (y.map dS)), some (.dat (.int (0 + (i : Nat)))), some (.own (s.map dC)), d, e, f] ∧ Box ts (n + 400 * i + 1 + 30 * j) bs ∧ s.length = j ∧ ∀ c ∈ s, (ChoOk m 2 c ∧ ∀ e ∈ c.2, e.2 ≤ 2)) ?_ ?_
      ⟨[], bs3, _, _, _, rfl, b3.up (by omega), rfl, by simp⟩⟩
    · rintro j d S hj ⟨s, bs4, d2, e2, f2, rfl, b4, hl2, hc⟩
      obtain ⟨hj1, rfl⟩ := rangeD_get hj
      walk_at "ev0"
      refine seq_ok ?_
      unfold vNewD
      walk_at "ev0"
      refine seq_ok ?_
      walk_at "ev0"
      refine take_ok b4 (by omega) (by omega) fun r2 bs5 r20 r21 b5 => ?_
      walk_at "ev0"
      refine ⟨by omega, loop_ok (fun l S => ∃ (ps : List (Int × Int)) (bs : List PyData) (f : Option SV), S = [some (.own bs), some (.dat (.int (m : Int))), some (.own (y.map dS)), some (.dat (.int (0 + (i : Nat)))), some (.own (s.map dC)), some (.dat (.int (0 + (j : Nat)))), some (.dic (ps.map fun e => ((.inl e.1 : Key), PyData.int e.2))), f] ∧
        Box ts (n + 400 * i + 1 + 30 * j + 1 + 4 * l) bs ∧ ps.length ≤ l ∧ (0 < l → ps ≠ []) ∧ (ps.map (·.1)).Nodup ∧ ∀ e ∈ ps, 0 ≤ e.1 ∧ e.1 < (m : Int) ∧ 1 ≤ e.2 ∧ e.2 ≤ 2) ?_ ?_
        ⟨[], bs5, _, rfl, b5.up (by omega), Nat.le_refl _, fun z => absurd z (by decide), .nil, by simp⟩⟩
      · rintro l d S hl3 ⟨ps, bs6, f3, rfl, b6, hpl, hpn, hnd, hpe⟩
        obtain ⟨hl4, rfl⟩ := rangeD_get hl3
        walk_at "ev0"
        unfold vPutD dicD keyD
        walk_at "ev0"
        refine take_ok b6 (by omega) (by omega) fun r3 bs7 r30 r31 b7 => ?_
        walk_at "ev0"
        refine ⟨cMod_ok (by omega), take_ok b7 (by omega) (by omega) fun g1' bs8 g10 g11 b8 => ?_⟩
        walk_at "ev0"
        refine ⟨by decide, take_ok b8 (by omega) (by omega) fun w bs9 w0 w1 b9 => ?_⟩
        walk_at "ev0"
        have mN := modN (i := 0 + (i : Int) + 1) (m := (m : Int)) (by omega)
        have pk : ∃ g : Int, 0 ≤ g ∧ g < (m : Int) ∧ ixD [PyData.int ((0 + (i : Int) + 1).fmod (m : Int)), PyData.int g1'] w = .ok (.int g) := by
          have w2 : w = 0 ∨ w = 1 := by omega
          rcases w2 with rfl | rfl
          · exact ⟨_, mN.1, mN.2, rfl⟩
          · exact ⟨g1', g10, g11, rfl⟩
        obtain ⟨g, g0, g1, eg⟩ := pk
        refine okTo_eq eg ?_
        walk_at "ev0"
        refine ⟨by rw [List.length_map]; omega, putP ps g (1 + r3), bs9, _, by rw [putD_ints], b9.up (by omega), by have := (putP_len (ps := ps) (i := g) (j := 1 + r3)).1; omega, fun _ => putP_len.2, putP_nd hnd, fun e q => ?_⟩
        rcases putP_mem q with q | q
        · exact hpe e q
        · rw [q]
          show 0 ≤ g ∧ g < (m : Int) ∧ 1 ≤ 1 + r3 ∧ 1 + r3 ≤ 2
          omega
      · rintro S ⟨ps, bs6, f3, rfl, b6, hpl, hpn, hnd, hpe⟩
        rw [rangeD_len] at b6 hpl hpn
        walk_at "ev0"
        refine take_ok b6 (by omega) (by omega) fun x bs7 x0 x1 b7 => ?_
        unfold vSortK dicD
        walk_at "ev0"
        rw [intKs_ints]
        walk_at "ev0"
        refine ⟨⟨by omega, hnd⟩, by decide, by rw [List.length_map]; omega, s ++ [(x, sortP ps)], bs7, _, _, _, by rw [List.map_append]; rfl, b7.up (by omega), by rw [List.length_append, List.length_singleton, hl2], fun c q => ?_⟩
        rcases List.mem_append.mp q with q | q
        · exact hc c q
        · rw [List.mem_singleton.mp q]
          have pm := sortP_perm ps
          refine ⟨⟨⟨x0, by show x ≤ 1000; omega⟩, fun e => hpn (by omega) ?_, ?_, fun e q => by have := hpe e (pm.mem_iff.mp q); omega, sortP_rise hnd⟩, fun e q => by have := hpe e (pm.mem_iff.mp q); omega⟩
          · have e' : sortP ps = [] := e
            rw [e'] at pm
            exact List.nil_perm.mp pm
          · show (sortP ps).length ≤ 2
            rw [pm.length_eq]
            omega
    · rintro S ⟨s, bs4, d2, e2, f2, rfl, b4, hl2, hc⟩
      rw [rangeD_len] at b4 hl2
      walk_at "ev0"
      refine ⟨by rw [List.length_map]; omega, y ++ [s], bs4, _, _, _, _, _, by rw [List.map_append]; rfl, b4.up (by omega), by rw [List.length_append, List.length_singleton, hl], fun t q => ?_⟩
      rcases List.mem_append.mp q with q | q
      · exact hs t q
      · rw [List.mem_singleton.mp q]
        exact ⟨by omega, hc⟩
  · rintro S ⟨y, bs2, a, c, d1, e, f, rfl, b2, hl, hs⟩
    rw [rangeD_len, Int.toNat_natCast] at b2 hl
    subst hl
    walk_at "ev0"
    exact h y bs2 ⟨hm.1, hm.2, fun s q => (hs s q).1, fun s q c r => ((hs s q).2 c r).1⟩ (fun s q c r => ((hs s q).2 c r).2) rfl (b2.up (by omega))
end Bo

/-! ### k16: the law -/
namespace Bo
open PySem L2
local macro_rules | `(tactic| walk_at "wv1") => `(tactic| (first
  | with_reducible refine w_seq ?_
  | with_reducible refine w_asg ?_
  | ((with_reducible refine w_var (d := ?wd) ?wh ?wq); (case wh => exact rfl))
  | with_reducible refine w_c ?_
  | with_reducible refine w_op ?_
  | with_reducible refine w_un ?_
  | with_reducible refine w_and ?_
  | with_reducible refine w_or ?_
  | with_reducible refine w_not ?_
  | with_reducible refine w_toB ?_
  | with_reducible refine w_toI ?_
  | with_reducible refine w_tst ?_
  | with_reducible refine w_tnot ?_
  | with_reducible refine w_tand ?_
  | with_reducible refine w_tor ?_
  | with_reducible refine w_tru ?_
  | with_reducible refine w_if ?_
  | with_reducible refine w_chain ?_
  | with_reducible refine w_nil ?_
  | with_reducible refine w_cons ?_
  | with_reducible refine w_tup ?_
  | with_reducible refine w_lst ?_
  | with_reducible refine w_lstF ?_
  | with_reducible refine w_call ?_
  | with_reducible refine w_callP ?_
  | with_reducible refine w_callL ?_
  | ((with_reducible refine w_own (ds := ?wd) ?wh ?wq); (case wh => exact rfl))
  | with_reducible refine w_callB ?_
  | ((with_reducible refine w_callS (ns := ?wd) ?wh ?wq); (case wh => exact rfl))
  | with_reducible refine w_consO ?_
  | with_reducible refine w_fr ?_
  | with_reducible refine w_lenO ?_
  | with_reducible refine w_tupleO ?_
  | with_reducible refine w_listO ?_
  | with_reducible refine w_ixO ?_
  | with_reducible refine w_inO ?_
  | with_reducible refine w_truO ?_
  | with_reducible refine w_app ?_
  | with_reducible refine w_setI ?_
  | with_reducible refine w_sl ?_
  | with_reducible refine w_noPart ?_
  | with_reducible refine w_part ?_
  | with_reducible refine w_iter ?_
  | with_reducible refine w_iterT ?_
  | with_reducible refine w_range1 ?_
  | with_reducible refine w_listRg ?_
  | with_reducible refine w_enumK ?_
  | with_reducible refine w_zipK ?_
  | with_reducible refine w_repF ?_
  | with_reducible refine w_lc ?_
  | with_reducible refine w_yes ?_
  | with_reducible refine w_next ?_
  | with_reducible refine w_ret ?_
  | with_reducible refine w_retN ?_
  | with_reducible refine w_drop ?_
  | with_reducible refine w_aName ?_
  | with_reducible refine w_aTup rfl ?_
  | with_reducible refine w_aNil ?_
  | with_reducible refine w_aCons ?_
  | with_reducible refine w_ifS ?_
  | with_reducible refine w_ownS ?_
  | ((with_reducible refine w_frz (ds := ?wd) ?wh ?wq); (case wh => exact rfl))
  | with_reducible refine w_for ?_
  | ((with_reducible refine w_aug (a := ?wd) ?wh ?wq); (case wh => exact rfl))
  | with_reducible refine w_gI ?_
  | with_reducible refine w_gIB ?_
  | with_reducible refine w_gIC ?_
  | with_reducible refine w_gEqI ?_
  | with_reducible refine w_gNeI ?_
  | with_reducible refine w_gIxL ?_
  | with_reducible refine w_gIxT ?_
  | with_reducible refine w_gCat ?_
  | with_reducible refine w_gCatT ?_
  | with_reducible refine w_isN ?_
  | with_reducible refine w_notN ?_
  | with_reducible refine w_gInL ?_
  | with_reducible refine w_gLenL ?_
  | with_reducible refine w_gLenT ?_
  | with_reducible refine w_gIntI ?_
  | with_reducible refine w_gTuple ?_
  | with_reducible refine w_gBools ?_
  | with_reducible refine w_gInts ?_
  | with_reducible refine w_gNeD ?_
  | with_reducible refine w_gEqD ?_
  | with_reducible refine w_gRevL ?_
  | with_reducible refine w_gSlL ?_
  | with_reducible refine w_gSlT ?_
  | with_reducible refine w_itT ?_
  | with_reducible refine w_itF ?_
  | with_reducible refine w_itTT ?_
  | with_reducible refine w_itFT ?_
  | with_reducible refine w_gList ?_
  | with_reducible refine w_gSortI ?_
  | with_reducible refine w_range2 ?_
  | ((with_reducible refine w_lcO (ds := ?wd) ?wh ?wq ?wr); (case wh => exact rfl); (case wq => exact rfl))
  | with_reducible refine w_aUnl rfl ?_
  | with_reducible refine w_listF ?_
  | with_reducible refine w_brk ?_
  | with_reducible refine w_cnt ?_
  | with_reducible refine w_neg ?_
  | with_reducible refine w_gIntB ?_
  | simp only [wipeS, backS, List.set_cons_zero, List.set_cons_succ, List.getElem?_cons_zero, List.getElem?_cons_succ, Option.join_some, Option.join_none, Bool.not_true, Bool.not_false]))
local macro_rules | `(tactic| walk_at "wv") => `(tactic| ((repeat (walk_at "wv1"; try dsimp only)); try simp only [List.set_cons_zero, List.set_cons_succ]))
local macro_rules | `(tactic| walk_at "st") => `(tactic| simp only [startS, List.map_cons, List.map_nil, List.length_cons, List.length_nil, Nat.reduceAdd, Nat.reduceSub, List.replicate_succ, List.replicate_zero, List.cons_append, List.nil_append])

structure Kind (y : List (List Cho)) : Prop where
  ex : ∃ q c Wm : Nat, SysOk q c y ∧ c ≤ 20 ∧ 1 ≤ Wm ∧ Wm < 2 ^ 200 ∧ (∀ s ∈ y, ∀ c ∈ s, wsum c.2 ≤ (Wm : Int)) ∧ ∀ m, m ≤ y.length → bigM m Wm * Wm < 2 ^ 200
theorem big_a : ∀ m, m < 5 → bigM m 4000 * 4000 < 2 ^ 200 := by decide +kernel
theorem big_b : ∀ m, m < 21 → bigM m 4 * 4 < 2 ^ 200 := by decide +kernel
theorem big_c : ∀ m, m < 11 → bigM m 6000 * 6000 < 2 ^ 200 := by decide +kernel
theorem p200 : (6000 : Nat) < 2 ^ 200 := by decide +kernel
theorem cho_wsum {m b : Nat} {c : Cho} (h : ChoOk m b c) : wsum c.2 ≤ 1000 * (b : Int) := by
  have := (wsum_bd fun e he => (h.ends e he).2.2).2
  have := h.len
  omega
theorem kind_a {y : List (List Cho)} (h : SysOk 3 y.length y) (hl : y.length ≤ 4) : Kind y := ⟨3, y.length, 4000, h, by omega, by decide, Nat.lt_trans (by decide) p200, fun s hs c hc => by have := cho_wsum (h.cho s hs c hc); omega, fun m hm => big_a m (by omega)⟩
theorem wsum_le2 : ∀ {es : List (Int × Int)}, (∀ e ∈ es, e.2 ≤ 2) → wsum es ≤ 2 * (es.length : Int)
  | [], _ => Int.le_refl _
  | e :: es, h => by
    have ih := wsum_le2 (es := es) fun x hx => h x (List.mem_cons_of_mem _ hx)
    have := h e List.mem_cons_self
    have w : wsum (e :: es) = e.2 + wsum es := rfl
    rw [w, List.length_cons]
    omega
theorem kind_b {y : List (List Cho)} (h : SysOk 2 2 y) (h2 : ∀ s ∈ y, ∀ c ∈ s, ∀ e ∈ c.2, e.2 ≤ 2) (hl : y.length ≤ 20) : Kind y := ⟨2, 2, 4, h, by decide, by decide, Nat.lt_trans (by decide) p200, fun s hs c hc => by
  have := wsum_le2 (h2 s hs c hc)
  have := (h.cho s hs c hc).len
  omega, fun m hm => big_b m (by omega)⟩
theorem kind_c {y : List (List Cho)} (h : SysOk 6 6 y) (hl : y.length ≤ 10) : Kind y := ⟨6, 6, 6000, h, by decide, by decide, p200, fun s hs c hc => by have := cho_wsum (h.cho s hs c hc); omega, fun m hm => big_c m (by omega)⟩
theorem ch_ok {y : List (List Cho)} {pol : List Int} {q c : Nat} (h : SysOk q c y) (hc : c ≤ 20) (hp : PolOk y pol) : ChOk (chY y pol) where
  len := by rw [chY_len]; exact h.len
  at_ := fun i hi => by
    rw [chY_len] at hi
    obtain ⟨b, f1, f2, f3, f4⟩ := hp.at_ hi
    have ec : cAt (chY y pol) i 0 = cAt y i b := by rw [cAt_ch hi, f4]
    have co := h.cho _ (List.mem_of_getElem? f2) _ (List.mem_of_getElem? f3)
    refine ⟨?_, ?_⟩
    · rw [ec]
      unfold chY
      rw [List.getElem?_map, List.getElem?_range hi, Option.map_some, f4]
    · rw [ec, chY_len]
      exact ⟨co.ne, by have := co.len; omega, fun e he => by
        obtain ⟨a1, a2, a3, a4⟩ := co.ends e he
        exact ⟨⟨a1, a2⟩, a3, a4⟩, co.rise⟩
theorem hp_len {z : List (List Cho)} {al tg : List Int} : (hpOf z al tg).length ≤ z.length := by
  unfold hpOf idxP idx
  exact Nat.le_trans (List.length_filter_le _ _) (Nat.le_trans (List.length_filter_le _ _) (by rw [List.length_range]; exact Nat.le_refl _))
/-- what both tell -/
theorem chances_both {y : List (List Cho)} {pol al tg : List Int} (hk : Kind y) (hp : PolOk y pol) (ht : ∀ x ∈ tg, 0 ≤ x ∧ x < (y.length : Int)) (tl : tg.length ≤ 1000) :
    ∃ D : List Rat, D.length = y.length ∧ (∀ k : PyData → Prop, k (dL2 D) → (den_policy_chances [dY y, .tuple (pol.map .int), dL al, dL tg]).okTo k) ∧
      (∀ k : PyData → Prop, k (dCh (chC (chY y pol))) → (den_l_chain [dY y, .tuple (pol.map .int)]).okTo k) ∧
      ∀ k : PyData → Prop, k (dL2 D) → (den_l_chances [dCh (chC (chY y pol)), dL al, dL tg]).okTo k := by
  obtain ⟨q, c, Wm, hs, hc, w1, w2, hw, hM⟩ := hk.ex
  have hz := ch_ok hs hc hp
  have zl : (chY y pol).length = y.length := chY_len
  have yl := hs.len
  have tok : TOk (chY y pol) tg := ⟨by rw [zl]; exact ht, tl⟩
  have hop := hop_of (al := al) (tg := tg) hz
  have wz : ∀ i, i < (chY y pol).length → wsum (eAt (chY y pol) i) ≤ (Wm : Int) := fun i hi => by
    rw [zl] at hi
    obtain ⟨b, f1, f2, f3, f4⟩ := hp.at_ hi
    have ec : cAt (chY y pol) i 0 = cAt y i b := by rw [cAt_ch hi, f4]
    unfold eAt
    rw [ec]
    exact hw _ (List.mem_of_getElem? f2) _ (List.mem_of_getElem? f3)
  have vo : ValOk (chY y pol).length 1 1 (v01 y.length tg) (List.replicate y.length (0 : Rat)) := by rw [zl]; exact val_01
  have r := rows_ok (p0 := 0) (Wm := Wm) (B := Wm) hop vo (fun i hi => by
    rw [zl] at hi
    rw [List.getD_eq_getElem?_getD, List.getElem?_replicate, if_pos hi]
    exact .zero 1 0) wz (by omega) (by omega)
  have hpl : (hpOf (chY y pol) al tg).length ≤ y.length := by
    have := hp_len (z := chY y pol) (al := al) (tg := tg)
    omega
  obtain ⟨x, _, s1, s2⟩ := both hop r (by omega) (by omega) w2 (by omega) (by rw [Nat.mul_one]; exact hM _ hpl)
  refine ⟨setAll (v01 y.length tg) (hpOf (chY y pol) al tg) x (hpOf (chY y pol) al tg).length, by rw [setAll_len]; simp [v01], fun k h => policy_chances_ok yl hp hz tok s1 h, fun k h => l_chain_ok yl hp hz h, fun k h => ?_⟩
  refine l_chances_ok (x := x) hz tok ?_ ?_
  · rw [zl]
    exact s2
  · rw [zl]
    exact h
theorem law_worth {ns : List Int} (hl : ns.length ≤ 63) : (den_law ns).okTo fun z => z = .bool true := by
  unfold den_law body_law
  refine w_denS ?_
  simp only [Nat.reduceSub, List.replicate_succ, List.replicate_zero]
  walk_at "wv"
  refine tape_ok hl fun ts ht => ?_
  walk_at "wv"
  refine ⟨by simp, ?_⟩
  have b : Box ts 0 [dL ts, .int 0] := ⟨ht, 0, Int.le_refl _, Int.le_refl _, rfl⟩
  walk_at "wv"
  refine ⟨3, rfl, by decide, ?_⟩
  refine loop_ok (fun i S => ∃ (bs : List PyData) (a2 a3 a4 a5 a6 a7 a8 : Option SV), S = [some (.scr ns), some (.own bs), a2, a3, a4, a5, a6, a7, a8] ∧ Box ts (100000 * i) bs) ?_ ?_ ⟨_, none, none, none, none, none, none, none, rfl, by simpa using b⟩
  · rintro t dt S ht ⟨bs, a2, a3, a4, a5, a6, a7, a8, rfl, b⟩
    obtain ⟨ht1, rfl⟩ := rangeD_get ht
    have t3 : t < 3 := ht1
    rw [Int.zero_add]
    walk_at "wv"
    refine ⟨rfl, system_ok b (by omega) (by decide) fun y0 bs1 hs0 hl0 b1 => ?_⟩
    walk_at "wv"
    refine ⟨rfl, take_ok b1 (by omega) (by decide) fun r bs2 r0 r1 b2 => ?_⟩
    walk_at "wv"
    refine ite_joinA (P := fun fl => ∃ (y : List (List Cho)) (bs : List PyData), fl = .nx [some (.scr ns), some (.own bs), some (.dat (.int (t : Nat))), some (.dat (dY y)), a4, a5, a6, a7, a8] ∧ Kind y ∧ Box ts (100000 * t + 50000) bs) ?_ ?_ ?_
    rotate_left 1
    · intro _
      walk_at "wv"
      refine ⟨rfl, take_ok b2 (by omega) (by decide) fun r3 bs3 r30 r31 b3 => ?_⟩
      walk_at "wv"
      obtain ⟨m, hm⟩ : ∃ m : Nat, 13 + r3 = (m : Int) := ⟨(13 + r3).toNat, by omega⟩
      rw [hm]
      refine ⟨rfl, thin_ok b3 (by omega) (by omega) fun y bs4 hy hy2 hyl b4 => ?_⟩
      walk_at "wv"
      refine ⟨rfl, take_ok b4 (by omega) (by decide) fun r5 bs5 r50 r51 b5 => ?_⟩
      walk_at "wv"
      by_cases c : r5 = 0
      · rw [if_pos (decide_eq_true c)]
        walk_at "wv"
        refine ⟨rfl, take_ok b5 (by omega) (by decide) fun r6 bs6 r60 r61 b6 => ?_⟩
        walk_at "wv"
        obtain ⟨m, hm⟩ : ∃ m : Nat, 6 + r6 = (m : Int) := ⟨(6 + r6).toNat, by omega⟩
        rw [hm]
        refine ⟨rfl, large_ok b6 (by omega) (by omega) fun y bs7 hy hyl b7 => ?_⟩
        walk_at "wv"
        exact ⟨y, bs7, rfl, kind_c hy (by omega), b7.up (by omega)⟩
      · rw [if_neg (by simpa using c)]
        walk_at "wv"
        exact ⟨y, bs5, rfl, kind_b hy hy2 (by omega), b5.up (by omega)⟩
    · intro _
      walk_at "wv"
      exact ⟨y0, bs2, rfl, kind_a hs0 (by omega), b2.up (by omega)⟩
    rintro fl ⟨y, bs, rfl, hk, b⟩
    obtain ⟨q, c, Wm, hs, hc, _⟩ := id hk.ex
    have yl := hs.len
    walk_at "wv"
    refine ⟨rfl, policy_ok b (by omega) hs fun pol bs8 pl pp b8 => ?_⟩
    have hp : PolOk y pol := ⟨pl, pp⟩
    walk_at "wv"
    refine ⟨rfl, take_ok b8 (by omega) (by decide) fun r bs9 r0 r1 b9 => ?_⟩
    walk_at "wv"
    refine ite_joinA (P := fun p => ∃ (al : List Int) (bs : List PyData), p = (dL al, [some (.scr ns), some (.own bs), some (.dat (.int (t : Nat))), some (.dat (dY y)), some (.dat (.tuple (pol.map .int))), a5, a6, a7, a8]) ∧ Box ts (100000 * t + 50200) bs) ?_ ?_ ?_
    rotate_left 1
    · intro _
      walk_at "wv"
      refine okTo_eq gLen_y ?_
      walk_at "wv"
      refine ⟨rfl, some_ok b9 (by omega) (by omega) (by decide) fun l bs6 l1 l2 l3 b6 => ?_⟩
      walk_at "wv"
      exact ⟨l, bs6, rfl, b6.up (by omega)⟩
    · intro _
      walk_at "wv"
      refine okTo_eq gLen_y ?_
      walk_at "wv"
      refine ⟨⟨by omega, by omega⟩, ?_⟩
      refine ⟨(List.range y.length).map fun i => ((i : Nat) : Int), bs9, ?_, b9.up (by omega)⟩
      rw [Int.toNat_natCast, rangeD_nat]
      unfold dL
      rw [List.map_map]
      rfl
    rintro p ⟨al, bs, rfl, b⟩
    walk_at "wv"
    refine okTo_eq gLen_y ?_
    walk_at "wv"
    refine ⟨rfl, some_ok b (by omega) (by omega) (by decide) fun tg bs6 l1 l2 l3 b6 => ?_⟩
    walk_at "wv"
    obtain ⟨D, dl, d1, d2, d3⟩ := chances_both (al := al) hk hp l2 (by omega)
    refine ⟨rfl, d2 _ ?_⟩
    walk_at "wv"
    refine ⟨rfl, d3 _ ?_⟩
    walk_at "wv"
    refine okTo_eq (a := dL al) rfl ?_
    walk_at "wv"
    refine okTo_eq (a := dL tg) rfl ?_
    walk_at "wv"
    refine ⟨by simp, ?_⟩
    walk_at "wv"
    refine okTo_eq (a := dL al) rfl ?_
    walk_at "wv"
    refine okTo_eq (a := dL tg) rfl ?_
    walk_at "wv"
    refine ⟨rfl, d1 _ ?_⟩
    walk_at "wv"
    have dn : Dn 6 (dL2 D) := .lst (by rw [List.length_map]; omega) fun d hd => by
      obtain ⟨q, _, rfl⟩ := List.mem_map.mp hd
      exact dn_Q q
    refine ⟨rfl, okTo_eq (denEq_ok rfl dn) ?_⟩
    walk_at "wv"
    have sh : Shp 2 (.list [dL al, dL tg]) := shp_list fun d hd => by
      simp only [List.mem_cons, List.not_mem_nil, or_false] at hd
      rcases hd with rfl | rfl <;> exact shp_L _
    refine ⟨by simp, okTo_eq (ne_same ⟨sh.same, sh.ok (by decide)⟩) ?_⟩
    walk_at "wv"
    exact ⟨bs6, _, _, _, _, _, _, _, rfl, b6.up (by omega)⟩
  · rintro S ⟨bs, a2, a3, a4, a5, a6, a7, a8, rfl, b⟩
    walk_at "wv"
end Bo

namespace Bo
open PySem L2
def topS (i : Nat) : Stmt := PySem.Challenge.pw_bestodds_k16_chances_of_policies.main.body.getD i (.Pass ⟨0, 0, 0, 0⟩)
abbrev s_l_tape : Stmt := topS 29
abbrev s_l_draw : Stmt := topS 30
abbrev s_l_take : Stmt := topS 32
abbrev s_l_ends : Stmt := topS 37
abbrev s_l_choices : Stmt := topS 38
abbrev s_l_system : Stmt := topS 39
abbrev s_l_drawn_policy : Stmt := topS 46
abbrev s_l_some : Stmt := topS 40
abbrev s_l_backward : Stmt := topS 44
abbrev s_l_ratio : Stmt := topS 33
abbrev s_l_over : Stmt := topS 36
abbrev s_l_plus : Stmt := topS 34
abbrev s_l_times : Stmt := topS 35
abbrev s_l_solve : Stmt := topS 41
abbrev s_l_filled : Stmt := topS 43
abbrev s_l_chances : Stmt := topS 45
abbrev s_l_thin : Stmt := topS 48
abbrev s_l_chain : Stmt := topS 42
abbrev s_l_large : Stmt := topS 47
abbrev s_l_equal : Stmt := topS 31
abbrev s_chain_of : Stmt := topS 23
abbrev s_at_targets : Stmt := topS 24
abbrev s_ratio : Stmt := topS 2
abbrev s_substituted : Stmt := topS 11
abbrev s_whole_row : Stmt := topS 8
abbrev s_first_with_unknown : Stmt := topS 9
abbrev s_without_unknown : Stmt := topS 10
abbrev s_solve : Stmt := topS 7
abbrev s_moves : Stmt := topS 20
abbrev s_minus : Stmt := topS 4
abbrev s_own_row : Stmt := topS 26
abbrev s_plus : Stmt := topS 3
abbrev s_times : Stmt := topS 5
abbrev s_outside_part : Stmt := topS 27
abbrev s_settled : Stmt := topS 25
abbrev s_choices_on_way : Stmt := topS 14
abbrev s_found_states : Stmt := topS 18
abbrev s_leads_into : Stmt := topS 17
abbrev s_joins : Stmt := topS 16
abbrev s_levels : Stmt := topS 15
abbrev s_possible : Stmt := topS 13
abbrev s_policy_chances : Stmt := topS 22
abbrev s_law : Stmt := topS 49
structure Env (K : PySem.W.Frag) (mg : Str → Option Value) where
  a_l_tape : Addr
  d_l_tape : FuncData
  F_l_tape : Fun K "_law_tape" "_law_tape" s_l_tape a_l_tape d_l_tape
  b_l_tape : Binds K d_l_tape ["script"] []
  g_l_tape : mg "_law_tape" = some (.ref a_l_tape)
  a_l_draw : Addr
  d_l_draw : FuncData
  F_l_draw : Fun K "_law_draw" "_law_draw" s_l_draw a_l_draw d_l_draw
  b_l_draw : Binds K d_l_draw ["tape", "at", "many"] []
  g_l_draw : mg "_law_draw" = some (.ref a_l_draw)
  a_l_take : Addr
  d_l_take : FuncData
  F_l_take : Fun K "_law_take" "_law_take" s_l_take a_l_take d_l_take
  b_l_take : Binds K d_l_take ["state", "many"] []
  g_l_take : mg "_law_take" = some (.ref a_l_take)
  a_l_ends : Addr
  d_l_ends : FuncData
  F_l_ends : Fun K "_law_ends" "_law_ends" s_l_ends a_l_ends d_l_ends
  b_l_ends : Binds K d_l_ends ["state", "many"] []
  g_l_ends : mg "_law_ends" = some (.ref a_l_ends)
  a_l_choices : Addr
  d_l_choices : FuncData
  F_l_choices : Fun K "_law_choices" "_law_choices" s_l_choices a_l_choices d_l_choices
  b_l_choices : Binds K d_l_choices ["state", "many", "most"] []
  g_l_choices : mg "_law_choices" = some (.ref a_l_choices)
  a_l_system : Addr
  d_l_system : FuncData
  F_l_system : Fun K "_law_system" "_law_system" s_l_system a_l_system d_l_system
  b_l_system : Binds K d_l_system ["state", "most"] []
  g_l_system : mg "_law_system" = some (.ref a_l_system)
  a_l_drawn_policy : Addr
  d_l_drawn_policy : FuncData
  F_l_drawn_policy : Fun K "_law_drawn_policy" "_law_drawn_policy" s_l_drawn_policy a_l_drawn_policy d_l_drawn_policy
  b_l_drawn_policy : Binds K d_l_drawn_policy ["state", "system"] []
  g_l_drawn_policy : mg "_law_drawn_policy" = some (.ref a_l_drawn_policy)
  a_l_some : Addr
  d_l_some : FuncData
  F_l_some : Fun K "_law_some" "_law_some" s_l_some a_l_some d_l_some
  b_l_some : Binds K d_l_some ["state", "many", "share"] []
  g_l_some : mg "_law_some" = some (.ref a_l_some)
  a_l_backward : Addr
  d_l_backward : FuncData
  F_l_backward : Fun K "_law_backward" "_law_backward" s_l_backward a_l_backward d_l_backward
  b_l_backward : Binds K d_l_backward ["chain", "rest", "known"] []
  g_l_backward : mg "_law_backward" = some (.ref a_l_backward)
  a_l_ratio : Addr
  d_l_ratio : FuncData
  F_l_ratio : Fun K "_law_ratio" "_law_ratio" s_l_ratio a_l_ratio d_l_ratio
  b_l_ratio : Binds K d_l_ratio ["n", "d"] []
  g_l_ratio : mg "_law_ratio" = some (.ref a_l_ratio)
  a_l_over : Addr
  d_l_over : FuncData
  F_l_over : Fun K "_law_over" "_law_over" s_l_over a_l_over d_l_over
  b_l_over : Binds K d_l_over ["a", "b"] []
  g_l_over : mg "_law_over" = some (.ref a_l_over)
  a_l_plus : Addr
  d_l_plus : FuncData
  F_l_plus : Fun K "_law_plus" "_law_plus" s_l_plus a_l_plus d_l_plus
  b_l_plus : Binds K d_l_plus ["a", "b"] []
  g_l_plus : mg "_law_plus" = some (.ref a_l_plus)
  a_l_times : Addr
  d_l_times : FuncData
  F_l_times : Fun K "_law_times" "_law_times" s_l_times a_l_times d_l_times
  b_l_times : Binds K d_l_times ["a", "b"] []
  g_l_times : mg "_law_times" = some (.ref a_l_times)
  a_l_solve : Addr
  d_l_solve : FuncData
  F_l_solve : Fun K "_law_solve" "_law_solve" s_l_solve a_l_solve d_l_solve
  b_l_solve : Binds K d_l_solve ["rows", "right"] []
  g_l_solve : mg "_law_solve" = some (.ref a_l_solve)
  a_l_filled : Addr
  d_l_filled : FuncData
  F_l_filled : Fun K "_law_filled" "_law_filled" s_l_filled a_l_filled d_l_filled
  b_l_filled : Binds K d_l_filled ["chain", "unknown", "known", "extra"] []
  g_l_filled : mg "_law_filled" = some (.ref a_l_filled)
  a_l_chances : Addr
  d_l_chances : FuncData
  F_l_chances : Fun K "_law_chances" "_law_chances" s_l_chances a_l_chances d_l_chances
  b_l_chances : Binds K d_l_chances ["chain", "allowed", "targets"] []
  g_l_chances : mg "_law_chances" = some (.ref a_l_chances)
  a_l_thin : Addr
  d_l_thin : FuncData
  F_l_thin : Fun K "_law_thin" "_law_thin" s_l_thin a_l_thin d_l_thin
  b_l_thin : Binds K d_l_thin ["state", "many"] []
  g_l_thin : mg "_law_thin" = some (.ref a_l_thin)
  a_l_chain : Addr
  d_l_chain : FuncData
  F_l_chain : Fun K "_law_chain" "_law_chain" s_l_chain a_l_chain d_l_chain
  b_l_chain : Binds K d_l_chain ["system", "policy"] []
  g_l_chain : mg "_law_chain" = some (.ref a_l_chain)
  a_l_large : Addr
  d_l_large : FuncData
  F_l_large : Fun K "_law_large" "_law_large" s_l_large a_l_large d_l_large
  b_l_large : Binds K d_l_large ["state", "many"] []
  g_l_large : mg "_law_large" = some (.ref a_l_large)
  a_l_equal : Addr
  d_l_equal : FuncData
  F_l_equal : Fun K "_law_equal" "_law_equal" s_l_equal a_l_equal d_l_equal
  b_l_equal : Binds K d_l_equal ["actual", "due"] []
  g_l_equal : mg "_law_equal" = some (.ref a_l_equal)
  a_chain_of : Addr
  d_chain_of : FuncData
  F_chain_of : Fun K "chain_of" "chain_of" s_chain_of a_chain_of d_chain_of
  b_chain_of : Binds K d_chain_of ["system", "policy"] []
  g_chain_of : mg "chain_of" = some (.ref a_chain_of)
  a_at_targets : Addr
  d_at_targets : FuncData
  F_at_targets : Fun K "at_targets" "at_targets" s_at_targets a_at_targets d_at_targets
  b_at_targets : Binds K d_at_targets ["chain", "targets", "inside", "elsewhere"] []
  g_at_targets : mg "at_targets" = some (.ref a_at_targets)
  a_ratio : Addr
  d_ratio : FuncData
  F_ratio : Fun K "ratio" "ratio" s_ratio a_ratio d_ratio
  b_ratio : Binds K d_ratio ["n", "d"] []
  g_ratio : mg "ratio" = some (.ref a_ratio)
  a_substituted : Addr
  d_substituted : FuncData
  F_substituted : Fun K "substituted" "substituted" s_substituted a_substituted d_substituted
  b_substituted : Binds K d_substituted ["steps", "scale"] []
  g_substituted : mg "substituted" = some (.ref a_substituted)
  a_whole_row : Addr
  d_whole_row : FuncData
  F_whole_row : Fun K "whole_row" "whole_row" s_whole_row a_whole_row d_whole_row
  b_whole_row : Binds K d_whole_row ["row"] []
  g_whole_row : mg "whole_row" = some (.ref a_whole_row)
  a_first_with_unknown : Addr
  d_first_with_unknown : FuncData
  F_first_with_unknown : Fun K "first_with_unknown" "first_with_unknown" s_first_with_unknown a_first_with_unknown d_first_with_unknown
  b_first_with_unknown : Binds K d_first_with_unknown ["table"] []
  g_first_with_unknown : mg "first_with_unknown" = some (.ref a_first_with_unknown)
  a_without_unknown : Addr
  d_without_unknown : FuncData
  F_without_unknown : Fun K "without_unknown" "without_unknown" s_without_unknown a_without_unknown d_without_unknown
  b_without_unknown : Binds K d_without_unknown ["row", "step", "before"] []
  g_without_unknown : mg "without_unknown" = some (.ref a_without_unknown)
  a_solve : Addr
  d_solve : FuncData
  F_solve : Fun K "solve" "solve" s_solve a_solve d_solve
  b_solve : Binds K d_solve ["rows", "right"] []
  g_solve : mg "solve" = some (.ref a_solve)
  a_moves : Addr
  d_moves : FuncData
  F_moves : Fun K "moves" "moves" s_moves a_moves d_moves
  b_moves : Binds K d_moves ["system", "state", "choice"] []
  g_moves : mg "moves" = some (.ref a_moves)
  a_minus : Addr
  d_minus : FuncData
  F_minus : Fun K "minus" "minus" s_minus a_minus d_minus
  b_minus : Binds K d_minus ["a", "b"] []
  g_minus : mg "minus" = some (.ref a_minus)
  a_own_row : Addr
  d_own_row : FuncData
  F_own_row : Fun K "own_row" "own_row" s_own_row a_own_row d_own_row
  b_own_row : Binds K d_own_row ["chain", "asked", "state"] []
  g_own_row : mg "own_row" = some (.ref a_own_row)
  a_plus : Addr
  d_plus : FuncData
  F_plus : Fun K "plus" "plus" s_plus a_plus d_plus
  b_plus : Binds K d_plus ["a", "b"] []
  g_plus : mg "plus" = some (.ref a_plus)
  a_times : Addr
  d_times : FuncData
  F_times : Fun K "times" "times" s_times a_times d_times
  b_times : Binds K d_times ["a", "b"] []
  g_times : mg "times" = some (.ref a_times)
  a_outside_part : Addr
  d_outside_part : FuncData
  F_outside_part : Fun K "outside_part" "outside_part" s_outside_part a_outside_part d_outside_part
  b_outside_part : Binds K d_outside_part ["chain", "values", "asked", "paid", "state"] []
  g_outside_part : mg "outside_part" = some (.ref a_outside_part)
  a_settled : Addr
  d_settled : FuncData
  F_settled : Fun K "settled" "settled" s_settled a_settled d_settled
  b_settled : Binds K d_settled ["chain", "values", "asked", "paid"] []
  g_settled : mg "settled" = some (.ref a_settled)
  a_choices_on_way : Addr
  d_choices_on_way : FuncData
  F_choices_on_way : Fun K "choices_on_way" "choices_on_way" s_choices_on_way a_choices_on_way d_choices_on_way
  b_choices_on_way : Binds K d_choices_on_way ["system", "allowed", "targets"] []
  g_choices_on_way : mg "choices_on_way" = some (.ref a_choices_on_way)
  a_found_states : Addr
  d_found_states : FuncData
  F_found_states : Fun K "found_states" "found_states" s_found_states a_found_states d_found_states
  b_found_states : Binds K d_found_states ["found"] []
  g_found_states : mg "found_states" = some (.ref a_found_states)
  a_leads_into : Addr
  d_leads_into : FuncData
  F_leads_into : Fun K "leads_into" "leads_into" s_leads_into a_leads_into d_leads_into
  b_leads_into : Binds K d_leads_into ["choice", "found"] []
  g_leads_into : mg "leads_into" = some (.ref a_leads_into)
  a_joins : Addr
  d_joins : FuncData
  F_joins : Fun K "joins" "joins" s_joins a_joins d_joins
  b_joins : Binds K d_joins ["choices", "numbers", "found", "every"] []
  g_joins : mg "joins" = some (.ref a_joins)
  a_levels : Addr
  d_levels : FuncData
  F_levels : Fun K "levels" "levels" s_levels a_levels d_levels
  b_levels : Binds K d_levels ["system", "usable", "goals", "every"] []
  g_levels : mg "levels" = some (.ref a_levels)
  a_possible : Addr
  d_possible : FuncData
  F_possible : Fun K "possible" "possible" s_possible a_possible d_possible
  b_possible : Binds K d_possible ["system", "allowed", "targets"] []
  g_possible : mg "possible" = some (.ref a_possible)
  a_policy_chances : Addr
  d_policy_chances : FuncData
  F_policy_chances : Fun K "policy_chances" "policy_chances" s_policy_chances a_policy_chances d_policy_chances
  b_policy_chances : Binds K d_policy_chances ["system", "policy", "allowed", "targets"] []
  g_policy_chances : mg "policy_chances" = some (.ref a_policy_chances)
  a_law : Addr
  d_law : FuncData
  F_law : Fun K "law" "law" s_law a_law d_law
  b_law : Binds K d_law ["script"] []
  g_law : mg "law" = some (.ref a_law)
  z_abs : mg "abs" = none
  z_all : mg "all" = none
  z_any : mg "any" = none
  z_bool : mg "bool" = none
  z_dict : mg "dict" = none
  z_enumerate : mg "enumerate" = none
  z_int : mg "int" = none
  z_isinstance : mg "isinstance" = none
  z_len : mg "len" = none
  z_list : mg "list" = none
  z_range : mg "range" = none
  z_reversed : mg "reversed" = none
  z_sorted : mg "sorted" = none
  z_str : mg "str" = none
  z_sum : mg "sum" = none
  z_tuple : mg "tuple" = none
  z_zip : mg "zip" = none
  z_gcd : mg "gcd" = some (.builtin "math.gcd")
  z_lcm : mg "lcm" = some (.builtin "math.lcm")
theorem sc_l_tape : FnScope ["script", "tape", "cell", "number", "k", "first"] ["script"] (defScope s_l_tape) := ⟨rfl, rfl, rfl, by decide +kernel, rfl, by decide +kernel, by decide +kernel⟩
theorem sc_l_draw : FnScope ["tape", "at", "many", "number"] ["tape", "at", "many"] (defScope s_l_draw) := ⟨rfl, rfl, rfl, by decide +kernel, rfl, by decide +kernel, by decide +kernel⟩
theorem sc_l_take : FnScope ["state", "many"] ["state", "many"] (defScope s_l_take) := ⟨rfl, rfl, rfl, by decide +kernel, rfl, by decide +kernel, by decide +kernel⟩
theorem sc_l_ends : FnScope ["state", "many", "ends", "first", "goal"] ["state", "many"] (defScope s_l_ends) := ⟨rfl, rfl, rfl, by decide +kernel, rfl, by decide +kernel, by decide +kernel⟩
theorem sc_l_choices : FnScope ["state", "many", "most", "choices", "k"] ["state", "many", "most"] (defScope s_l_choices) := ⟨rfl, rfl, rfl, by decide +kernel, rfl, by decide +kernel, by decide +kernel⟩
theorem sc_l_system : FnScope ["state", "most", "many", "k"] ["state", "most"] (defScope s_l_system) := ⟨rfl, rfl, rfl, by decide +kernel, rfl, by decide +kernel, by decide +kernel⟩
theorem sc_l_drawn_policy : FnScope ["state", "system", "choices"] ["state", "system"] (defScope s_l_drawn_policy) := ⟨rfl, rfl, rfl, by decide +kernel, rfl, by decide +kernel, by decide +kernel⟩
theorem sc_l_some : FnScope ["state", "many", "share", "found", "k"] ["state", "many", "share"] (defScope s_l_some) := ⟨rfl, rfl, rfl, by decide +kernel, rfl, by decide +kernel, by decide +kernel⟩
theorem sc_l_backward : FnScope ["chain", "rest", "known", "found", "k", "one", "end"] ["chain", "rest", "known"] (defScope s_l_backward) := ⟨rfl, rfl, rfl, by decide +kernel, rfl, by decide +kernel, by decide +kernel⟩
theorem sc_l_ratio : FnScope ["n", "d", "a", "b", "k", "rest"] ["n", "d"] (defScope s_l_ratio) := ⟨rfl, rfl, rfl, by decide +kernel, rfl, by decide +kernel, by decide +kernel⟩
theorem sc_l_over : FnScope ["a", "b"] ["a", "b"] (defScope s_l_over) := ⟨rfl, rfl, rfl, by decide +kernel, rfl, by decide +kernel, by decide +kernel⟩
theorem sc_l_plus : FnScope ["a", "b"] ["a", "b"] (defScope s_l_plus) := ⟨rfl, rfl, rfl, by decide +kernel, rfl, by decide +kernel, by decide +kernel⟩
theorem sc_l_times : FnScope ["a", "b"] ["a", "b"] (defScope s_l_times) := ⟨rfl, rfl, rfl, by decide +kernel, rfl, by decide +kernel, by decide +kernel⟩
theorem sc_l_solve : FnScope ["rows", "right", "table", "size", "column", "found", "chosen", "k", "row", "item", "less", "j"] ["rows", "right"] (defScope s_l_solve) := ⟨rfl, rfl, rfl, by decide +kernel, rfl, by decide +kernel, by decide +kernel⟩
theorem sc_l_filled : FnScope ["chain", "unknown", "known", "extra", "rows", "right", "one", "found", "values", "k", "row", "side", "goal", "chance", "other", "at"] ["chain", "unknown", "known", "extra"] (defScope s_l_filled) := ⟨rfl, rfl, rfl, by decide +kernel, rfl, by decide +kernel, by decide +kernel⟩
theorem sc_l_chances : FnScope ["chain", "allowed", "targets", "many", "rest", "can", "known", "k"] ["chain", "allowed", "targets"] (defScope s_l_chances) := ⟨rfl, rfl, rfl, by decide +kernel, rfl, by decide +kernel, by decide +kernel⟩
theorem sc_l_thin : FnScope ["state", "many", "system", "k", "choices", "number", "ends", "j"] ["state", "many"] (defScope s_l_thin) := ⟨rfl, rfl, rfl, by decide +kernel, rfl, by decide +kernel, by decide +kernel⟩
theorem sc_l_chain : FnScope ["system", "policy", "chain", "k", "whole", "cost", "ends", "end"] ["system", "policy"] (defScope s_l_chain) := ⟨rfl, rfl, rfl, by decide +kernel, rfl, by decide +kernel, by decide +kernel⟩
theorem sc_l_large : FnScope ["state", "many", "system", "k", "choices", "number", "ends", "j"] ["state", "many"] (defScope s_l_large) := ⟨rfl, rfl, rfl, by decide +kernel, rfl, by decide +kernel, by decide +kernel⟩
theorem sc_l_equal : FnScope ["actual", "due", "k"] ["actual", "due"] (defScope s_l_equal) := ⟨rfl, rfl, rfl, by decide +kernel, rfl, by decide +kernel, by decide +kernel⟩
theorem sc_chain_of : FnScope ["system", "policy", "state", "choices"] ["system", "policy"] (defScope s_chain_of) := ⟨rfl, rfl, rfl, by decide +kernel, rfl, by decide +kernel, by decide +kernel⟩
theorem sc_at_targets : FnScope ["chain", "targets", "inside", "elsewhere", "state"] ["chain", "targets", "inside", "elsewhere"] (defScope s_at_targets) := ⟨rfl, rfl, rfl, by decide +kernel, rfl, by decide +kernel, by decide +kernel⟩
theorem sc_ratio : FnScope ["n", "d", "shared"] ["n", "d"] (defScope s_ratio) := ⟨rfl, rfl, rfl, by decide +kernel, rfl, by decide +kernel, by decide +kernel⟩
theorem sc_substituted : FnScope ["steps", "scale", "scaled", "step", "rest", "value", "n"] ["steps", "scale"] (defScope s_substituted) := ⟨rfl, rfl, rfl, by decide +kernel, rfl, by decide +kernel, by decide +kernel⟩
theorem sc_whole_row : FnScope ["row", "common", "_", "d", "n"] ["row"] (defScope s_whole_row) := ⟨rfl, rfl, rfl, by decide +kernel, rfl, by decide +kernel, by decide +kernel⟩
theorem sc_first_with_unknown : FnScope ["table", "at", "row"] ["table"] (defScope s_first_with_unknown) := ⟨rfl, rfl, rfl, by decide +kernel, rfl, by decide +kernel, by decide +kernel⟩
theorem sc_without_unknown : FnScope ["row", "step", "before", "mine", "other"] ["row", "step", "before"] (defScope s_without_unknown) := ⟨rfl, rfl, rfl, by decide +kernel, rfl, by decide +kernel, by decide +kernel⟩
theorem sc_solve : FnScope ["rows", "right", "table", "steps", "before", "at", "step", "row", "value"] ["rows", "right"] (defScope s_solve) := ⟨rfl, rfl, rfl, by decide +kernel, rfl, by decide +kernel, by decide +kernel⟩
theorem sc_moves : FnScope ["system", "state", "choice", "total", "_", "ends", "end", "weight"] ["system", "state", "choice"] (defScope s_moves) := ⟨rfl, rfl, rfl, by decide +kernel, rfl, by decide +kernel, by decide +kernel⟩
theorem sc_minus : FnScope ["a", "b"] ["a", "b"] (defScope s_minus) := ⟨rfl, rfl, rfl, by decide +kernel, rfl, by decide +kernel, by decide +kernel⟩
theorem sc_own_row : FnScope ["chain", "asked", "state", "chances", "row", "other", "one"] ["chain", "asked", "state"] (defScope s_own_row) := ⟨rfl, rfl, rfl, by decide +kernel, rfl, by decide +kernel, by decide +kernel⟩
theorem sc_plus : FnScope ["a", "b"] ["a", "b"] (defScope s_plus) := ⟨rfl, rfl, rfl, by decide +kernel, rfl, by decide +kernel, by decide +kernel⟩
theorem sc_times : FnScope ["a", "b"] ["a", "b"] (defScope s_times) := ⟨rfl, rfl, rfl, by decide +kernel, rfl, by decide +kernel, by decide +kernel⟩
theorem sc_outside_part : FnScope ["chain", "values", "asked", "paid", "state", "total", "end", "chance"] ["chain", "values", "asked", "paid", "state"] (defScope s_outside_part) := ⟨rfl, rfl, rfl, by decide +kernel, rfl, by decide +kernel, by decide +kernel⟩
theorem sc_settled : FnScope ["chain", "values", "asked", "paid", "found", "solution", "state", "value"] ["chain", "values", "asked", "paid"] (defScope s_settled) := ⟨rfl, rfl, rfl, by decide +kernel, rfl, by decide +kernel, by decide +kernel⟩
theorem sc_choices_on_way : FnScope ["system", "allowed", "targets", "usable", "state", "choices", "on_way"] ["system", "allowed", "targets"] (defScope s_choices_on_way) := ⟨rfl, rfl, rfl, by decide +kernel, rfl, by decide +kernel, by decide +kernel⟩
theorem sc_found_states : FnScope ["found", "state", "level"] ["found"] (defScope s_found_states) := ⟨rfl, rfl, rfl, by decide +kernel, rfl, by decide +kernel, by decide +kernel⟩
theorem sc_leads_into : FnScope ["choice", "found", "end", "_"] ["choice", "found"] (defScope s_leads_into) := ⟨rfl, rfl, rfl, by decide +kernel, rfl, by decide +kernel, by decide +kernel⟩
theorem sc_joins : FnScope ["choices", "numbers", "found", "every", "hits", "number"] ["choices", "numbers", "found", "every"] (defScope s_joins) := ⟨rfl, rfl, rfl, by decide +kernel, rfl, by decide +kernel, by decide +kernel⟩
theorem sc_levels : FnScope ["system", "usable", "goals", "every", "found", "state", "rounds", "fresh", "level"] ["system", "usable", "goals", "every"] (defScope s_levels) := ⟨rfl, rfl, rfl, by decide +kernel, rfl, by decide +kernel, by decide +kernel⟩
theorem sc_possible : FnScope ["system", "allowed", "targets", "usable"] ["system", "allowed", "targets"] (defScope s_possible) := ⟨rfl, rfl, rfl, by decide +kernel, rfl, by decide +kernel, by decide +kernel⟩
theorem sc_policy_chances : FnScope ["system", "policy", "allowed", "targets", "chain", "values", "hopeful", "state"] ["system", "policy", "allowed", "targets"] (defScope s_policy_chances) := ⟨rfl, rfl, rfl, by decide +kernel, rfl, by decide +kernel, by decide +kernel⟩
theorem sc_law : FnScope ["script", "state", "turn", "system", "policy", "allowed", "targets", "due", "passed"] ["script"] (defScope s_law) := ⟨rfl, rfl, rfl, by decide +kernel, rfl, by decide +kernel, by decide +kernel⟩
/-! ### steps of a reading -/
local macro_rules | `(tactic| walk_at "rd1") => `(tactic| (first
  | with_reducible refine r_seq ?_
  | with_reducible refine r_asg ?_
  | with_reducible refine r_name ?_
  | ((with_reducible refine r_var ?_); (refine ⟨_, rfl, ?_⟩))
  | with_reducible refine r_c ?_
  | with_reducible refine r_op ?_
  | with_reducible refine r_un ?_
  | with_reducible refine r_i0 ?_
  | with_reducible refine r_u ?_
  | with_reducible refine r_eqI ?_
  | with_reducible refine r_neI ?_
  | with_reducible refine r_eqS ?_
  | with_reducible refine r_eqB ?_
  | with_reducible refine r_tst ?_
  | with_reducible refine r_tB ?_
  | with_reducible refine r_bl ?_
  | with_reducible refine r_not ?_
  | with_reducible refine r_and ?_
  | with_reducible refine r_or ?_
  | with_reducible refine r_andV ?_
  | with_reducible refine r_orV ?_
  | with_reducible refine r_notV ?_
  | with_reducible refine r_ifs ?_
  | with_reducible refine r_ifE ?_
  | with_reducible refine r_ret ?_
  | with_reducible refine r_retN ?_
  | with_reducible refine r_next ?_
  | with_reducible refine r_brk ?_
  | with_reducible refine r_cont ?_
  | with_reducible refine r_drop ?_
  | with_reducible refine r_nil ?_
  | with_reducible refine r_cons ?_
  | with_reducible refine r_tup ?_
  | with_reducible refine r_lst ?_
  | with_reducible refine r_cb ?_
  | with_reducible refine r_call ?_
  | with_reducible refine r_chain ?_
  | ((with_reducible show V.non = V.non ∧ _); (refine ⟨rfl, ?_⟩))
  | with_reducible refine r_gsub ?_
  | with_reducible refine r_sl ?_
  | with_reducible refine r_nopart ?_
  | with_reducible refine r_part ?_
  | ((with_reducible show ∃ i, V.int _ = V.int i ∧ _); (refine ⟨_, rfl, ?_⟩))
  | with_reducible refine r_bm ?_
  | with_reducible refine r_bm0 ?_
  | with_reducible refine r_dput ?_
  | with_reducible refine r_dnew ?_
  | with_reducible refine r_for ?_
  | with_reducible refine r_iList ?_
  | with_reducible refine r_iTup ?_
  | with_reducible refine r_rng1 ?_
  | with_reducible refine r_rng2 ?_
  | ((with_reducible show (∃ j, [V.int _] = [V.int j] ∧ _) ∨ (∃ k, [V.int _] = [V.bl k] ∧ _)); (refine Or.inl ⟨_, rfl, ?_⟩))
  | ((with_reducible show ∃ j, [V.int _] = [V.int j] ∧ _); (refine ⟨_, rfl, ?_⟩))
  | ((with_reducible show (-(2 ^ 62) : Int) ≤ _ ∧ _ < (2 ^ 62 : Int) ∧ _); (refine ⟨by decide, by decide, ?_⟩))
  | with_reducible refine r_ifT ?_
  | with_reducible refine r_ifF ?_
  | with_reducible refine r_ifNT ?_
  | with_reducible refine r_ifNF ?_
  | (refine r_iC ?_ ?_; (first | exact Or.inl ⟨by decide, by decide⟩ | exact Or.inr ⟨by decide, by decide⟩ | exact ⟨by decide, by decide, by decide⟩ | exact ⟨by decide, by decide⟩ | (show (0 : Int) < _; decide)))))
local macro_rules | `(tactic| walk_at "rd") => `(tactic| repeat walk_at "rd1")

/-! ### equal data are told equal -/
def sp_eq (K : PySem.W.Frag) : Nat → Sp
  | 0 => fun _ _ _ _ => False
  | n + 1 => fun vs H Q _ => ∃ (x y : V) (d : PyData), vs = [x, y] ∧ Dp K H x d ∧ Dp K H y d ∧ Dn n d ∧ Q (.bl true) H
theorem len_map_int (ds : List PyData) (vs : List V) (e : vs.length = ds.length) (h : vs.length ≤ sizeLine) : (ds.length : Int) < 2 ^ 62 := by
  have : sizeLine = 16777216 := sizeLine_eq
  omega
theorem ok_eq_rec {P : Program} {w : World} {K : PySem.W.Frag} {mg : Str → Option Value} {base : Heap} (T : Env K mg) : ∀ n, FnOk P w K mg base CX0 (n + 1) T.a_l_equal T.d_l_equal ["actual", "due"] (sp_eq K n)
  | 0 => T.F_l_equal.ok sc_l_equal (fun vs H Q E h => h.elim) (fun cdv A outer s H vs Q E hr h => h.elim)
  | n + 1 => by
    have G_l_equal := ok_eq_rec (P := P) (w := w) (base := base) T n
    refine T.F_l_equal.ok sc_l_equal (fun vs H Q E h => ?_) (fun cdv A outer s H vs Q E hr h => ?_)
    · obtain ⟨x, y, d, rfl, _⟩ := h
      rfl
    · obtain ⟨x, y, d, rfl, hx, hy, hd, k⟩ := h
      have hr_l_equal := hr
      refine ⟨_, (pss_cons (ps_if (pt_cmpR op_isN (pv 1) pe_non (nomark _)) (pss_one (ps_ret (pe_cmpR op_isN (pv 0) pe_non (nomark _)))) pss_nil)
      (pss_cons (ps_if (pt_val (pe_callB call_isi (by rfl) T.z_isinstance (by decide +kernel) (pa_cons (pv 1) (pa_cons (pe_bltn (v := .ty "bool") (by rfl) T.z_bool (by decide +kernel) rfl) pa_nil)))) (pss_one (ps_ret (pe_and (pe_callB call_isi (by rfl) T.z_isinstance (by decide +kernel) (pa_cons (pv 0) (pa_cons (pe_bltn (v := .ty "bool") (by rfl) T.z_bool (by decide +kernel) rfl) pa_nil))) (pe_one (pe_cmpR op_eq (pv 0) (pv 1) (nomark _)))))) pss_nil)
      (pss_cons (ps_if (pt_val (pe_callB call_isi (by rfl) T.z_isinstance (by decide +kernel) (pa_cons (pv 1) (pa_cons (pe_bltn (v := .ty "int") (by rfl) T.z_int (by decide +kernel) rfl) pa_nil)))) (pss_one (ps_ret (pe_and (pe_callB call_isi (by rfl) T.z_isinstance (by decide +kernel) (pa_cons (pv 0) (pa_cons (pe_bltn (v := .ty "int") (by rfl) T.z_int (by decide +kernel) rfl) pa_nil))) (pe_and (pe_not (pe_callB call_isi (by rfl) T.z_isinstance (by decide +kernel) (pa_cons (pv 0) (pa_cons (pe_bltn (v := .ty "bool") (by rfl) T.z_bool (by decide +kernel) rfl) pa_nil)))) (pe_one (pe_cmpR op_eq (pv 0) (pv 1) (nomark _))))))) pss_nil)
      (pss_cons (ps_if (pt_val (pe_callB call_isi (by rfl) T.z_isinstance (by decide +kernel) (pa_cons (pv 1) (pa_cons (pe_bltn (v := .ty "str") (by rfl) T.z_str (by decide +kernel) rfl) pa_nil)))) (pss_one (ps_ret (pe_and (pe_callB call_isi (by rfl) T.z_isinstance (by decide +kernel) (pa_cons (pv 0) (pa_cons (pe_bltn (v := .ty "str") (by rfl) T.z_str (by decide +kernel) rfl) pa_nil))) (pe_one (pe_cmpR op_eq (pv 0) (pv 1) (nomark _)))))) pss_nil)
      (pss_cons (ps_if (PW.pt (pw_and (pt_val (pe_callB call_isi (by rfl) T.z_isinstance (by decide +kernel) (pa_cons (pv 1) (pa_cons (pe_bltn (v := .ty "tuple") (by rfl) T.z_tuple (by decide +kernel) rfl) pa_nil)))) (pw_and1 (pt_not (pt_val (pe_callB call_isi (by rfl) T.z_isinstance (by decide +kernel) (pa_cons (pv 0) (pa_cons (pe_bltn (v := .ty "tuple") (by rfl) T.z_tuple (by decide +kernel) rfl) pa_nil)))))))) (pss_one (ps_ret pe_bl)) pss_nil)
      (pss_cons (ps_if (PW.pt (pw_and (pt_val (pe_callB call_isi (by rfl) T.z_isinstance (by decide +kernel) (pa_cons (pv 1) (pa_cons (pe_bltn (v := .ty "list") (by rfl) T.z_list (by decide +kernel) rfl) pa_nil)))) (pw_and1 (pt_not (pt_val (pe_callB call_isi (by rfl) T.z_isinstance (by decide +kernel) (pa_cons (pv 0) (pa_cons (pe_bltn (v := .ty "list") (by rfl) T.z_list (by decide +kernel) rfl) pa_nil)))))))) (pss_one (ps_ret pe_bl)) pss_nil)
      (pss_cons (ps_if (pt_cmpR op_ne (pe_callB call_len_seq (by rfl) T.z_len (by decide +kernel) (pa_cons (pv 0) pa_nil)) (pe_callB call_len_seq (by rfl) T.z_len (by decide +kernel) (pa_cons (pv 1) pa_nil)) (nomark _)) (pss_one (ps_ret pe_bl)) pss_nil)
      (pss_cons (ps_for PassesOwn.never rfl (pi_range1 (by rfl) T.z_range (pa_cons (pe_callB call_len_seq (by rfl) T.z_len (by decide +kernel) (pa_cons (pv 1) pa_nil)) pa_nil)) (pg_name (i := 2) sc_l_equal.nd rfl (Or.inl rfl)) (pss_one (ps_if (pt_not (pt_val (pe_call G_l_equal hr_l_equal (by rfl) T.g_l_equal T.F_l_equal.kp T.b_l_equal .nil pass0 (pa_cons (pe_ix ix_seq (pv 0) (pv 2) (fun _ _ => rfl)) (pa_cons (pe_ix ix_seq (pv 1) (pv 2) (fun _ _ => rfl)) pa_nil))))) (pss_one (ps_ret pe_bl)) pss_nil)))
      (pss_one (ps_ret pe_bl)))))))))), ?_⟩
      cases hd with
      | non =>
        cases hx
        cases hy
        walk_at "rd"
        refine r_if (fun _ => ?_) (fun c => absurd rfl c)
        walk_at "rd"
        exact k
      | bl _ b =>
        cases hx
        cases hy
        walk_at "rd"
        refine r_if (fun c => nomatch c) (fun _ => ?_)
        walk_at "rd"
        refine r_isi (a := "bool") true (.base (.bl b)) (by decide +kernel) ?_
        walk_at "rd"
        refine r_isi (a := "bool") true (.base (.bl b)) (by decide +kernel) ?_
        walk_at "rd"
        rw [decide_eq_true rfl]
        exact k
      | int _ i =>
        cases hx
        cases hy
        walk_at "rd"
        refine r_if (fun c => nomatch c) (fun _ => ?_)
        walk_at "rd"
        refine r_isi (a := "int") false (.base (.int i)) (by decide +kernel) ?_
        walk_at "rd"
        refine r_isi (a := "int") true (.base (.int i)) (by decide +kernel) ?_
        walk_at "rd"
        refine r_isi (a := "int") true (.base (.int i)) (by decide +kernel) ?_
        walk_at "rd"
        refine r_isi (a := "int") false (.base (.int i)) (by decide +kernel) ?_
        walk_at "rd"
        rw [decide_eq_true rfl]
        exact k
      | str _ z =>
        cases hx
        cases hy
        walk_at "rd"
        refine r_if (fun c => nomatch c) (fun _ => ?_)
        walk_at "rd"
        refine r_isi (a := "str") false (.base (.str z)) (by decide +kernel) ?_
        walk_at "rd"
        refine r_isi (a := "str") false (.base (.str z)) (by decide +kernel) ?_
        walk_at "rd"
        refine r_isi (a := "str") true (.base (.str z)) (by decide +kernel) ?_
        walk_at "rd"
        refine r_isi (a := "str") true (.base (.str z)) (by decide +kernel) ?_
        walk_at "rd"
        rw [decide_eq_true rfl]
        exact k
      | @tup m ds hl hd =>
        cases hx with
        | @tup a xs _ hs ha =>
        cases hy with
        | @tup b ys _ ht hb =>
        walk_at "rd"
        refine r_if (fun c => nomatch c) (fun _ => ?_)
        walk_at "rd"
        refine r_isi (a := "tuple") false (tyx_t ht) (by decide +kernel) ?_
        walk_at "rd"
        refine r_isi (a := "tuple") false (tyx_t ht) (by decide +kernel) ?_
        walk_at "rd"
        refine r_isi (a := "tuple") false (tyx_t ht) (by decide +kernel) ?_
        walk_at "rd"
        refine r_isi (a := "tuple") true (tyx_t ht) (by decide +kernel) ?_
        walk_at "rd"
        refine r_isi (a := "tuple") true (tyx_t hs) (by decide +kernel) ?_
        walk_at "rd"
        refine r_isi (a := "tuple") false (tyx_t ht) (by decide +kernel) ?_
        walk_at "rd"
        refine ⟨a, _, rfl, .inr hs, ?_⟩
        walk_at "rd"
        refine ⟨b, _, rfl, .inr ht, ?_⟩
        walk_at "rd"
        have lx := dpa_len ha
        have ly := dpa_len hb
        refine r_ifN (fun c => absurd (by rw [lx, ly]) c) (fun _ => ?_)
        walk_at "rd"
        refine ⟨b, _, rfl, .inr ht, ?_⟩
        walk_at "rd"
        refine ⟨by omega, by omega, ?_⟩
        refine for_range (n := ys.length) (fun i σ H2 => ∃ v : Option V, σ = [some (.ref a), some (.ref b), v] ∧ H2 = H) ⟨none, rfl, rfl⟩ ?_ ?_
        · rintro i σ H2 hi ⟨v, rfl, rfl⟩
          obtain ⟨d, hdi⟩ : ∃ d, ds[i]? = some d := ⟨ds[i]'(by omega), List.getElem?_eq_getElem (by omega)⟩
          obtain ⟨x, hx1, hx2⟩ := dpa_get ha hdi
          obtain ⟨y, hy1, hy2⟩ := dpa_get hb hdi
          walk_at "rd"
          refine r_ixQT hs (at_of (j := i) (by omega) hx1) ?_
          walk_at "rd"
          refine r_ixQT ht (at_of (j := i) (by omega) hy1) ?_
          walk_at "rd"
          refine ⟨x, y, d, rfl, hx2, hy2, hd d (List.mem_of_getElem? hdi), ?_⟩
          walk_at "rd"
          exact ⟨_, rfl, rfl⟩
        · rintro σ H2 ⟨v, rfl, rfl⟩
          walk_at "rd"
          exact k
      | @lst m ds hl hd =>
        cases hx with
        | @lst a xs _ hs ha =>
        cases hy with
        | @lst b ys _ ht hb =>
        walk_at "rd"
        refine r_if (fun c => nomatch c) (fun _ => ?_)
        walk_at "rd"
        refine r_isi (a := "list") false (tyx_l ht) (by decide +kernel) ?_
        walk_at "rd"
        refine r_isi (a := "list") false (tyx_l ht) (by decide +kernel) ?_
        walk_at "rd"
        refine r_isi (a := "list") false (tyx_l ht) (by decide +kernel) ?_
        walk_at "rd"
        refine r_isi (a := "list") false (tyx_l ht) (by decide +kernel) ?_
        walk_at "rd"
        refine r_isi (a := "list") true (tyx_l ht) (by decide +kernel) ?_
        walk_at "rd"
        refine r_isi (a := "list") true (tyx_l hs) (by decide +kernel) ?_
        walk_at "rd"
        refine ⟨a, _, rfl, .inl hs, ?_⟩
        walk_at "rd"
        refine ⟨b, _, rfl, .inl ht, ?_⟩
        walk_at "rd"
        have lx := dpa_len ha
        have ly := dpa_len hb
        refine r_ifN (fun c => absurd (by rw [lx, ly]) c) (fun _ => ?_)
        walk_at "rd"
        refine ⟨b, _, rfl, .inl ht, ?_⟩
        walk_at "rd"
        refine ⟨by omega, by omega, ?_⟩
        refine for_range (n := ys.length) (fun i σ H2 => ∃ v : Option V, σ = [some (.ref a), some (.ref b), v] ∧ H2 = H) ⟨none, rfl, rfl⟩ ?_ ?_
        · rintro i σ H2 hi ⟨v, rfl, rfl⟩
          obtain ⟨d, hdi⟩ : ∃ d, ds[i]? = some d := ⟨ds[i]'(by omega), List.getElem?_eq_getElem (by omega)⟩
          obtain ⟨x, hx1, hx2⟩ := dpa_get ha hdi
          obtain ⟨y, hy1, hy2⟩ := dpa_get hb hdi
          walk_at "rd"
          refine r_ixQL hs (at_of (j := i) (by omega) hx1) ?_
          walk_at "rd"
          refine r_ixQL ht (at_of (j := i) (by omega) hy1) ?_
          walk_at "rd"
          refine ⟨x, y, d, rfl, hx2, hy2, hd d (List.mem_of_getElem? hdi), ?_⟩
          walk_at "rd"
          exact ⟨_, rfl, rfl⟩
        · rintro σ H2 ⟨v, rfl, rfl⟩
          walk_at "rd"
          exact k

theorem ok_l_equal {P : Program} {w : World} {K : PySem.W.Frag} {mg : Str → Option Value} {base : Heap} (T : Env K mg) : FnOk P w K mg base CX0 8 T.a_l_equal T.d_l_equal ["actual", "due"] (spP K 2 (denEq 6)) := by
  refine (ok_eq_rec T 7).imp fun vs H Q E h => ?_
  obtain ⟨ds, B, d, bh, hl, h⟩ := h
  match ds, hl, d, h with
  | [a, b], _, .cons (v := x) d1 (.cons (v := y) d2 .nil), h =>
    unfold denEq at h
    simp only at h
    split at h
    · rename_i c
      obtain ⟨rfl, hd⟩ := c
      exact ⟨x, y, _, rfl, da_dp (da_mono bh d1), da_dp (da_mono bh d2), hd, h (.bl true) H B (fun _ _ z => z) (Same.refl _) bh (fun _ _ z => .inl z) (.bl true)⟩
    · exact h.elim

theorem ok_l_tape {P : Program} {w : World} {K : PySem.W.Frag} {mg : Str → Option Value} {base : Heap} (T : Env K mg) : FnOk P w K mg base CX0 1 T.a_l_tape T.d_l_tape ["script"] (spS K den_l_tape) := by
  refine T.F_l_tape.ok sc_l_tape (fun vs H Q E h => len_S h) (fun cdv A outer s H vs Q E hr h => ?_)
  refine ⟨_, (pss_cons (ps_set (i := 1) sc_l_tape.nd rfl (Or.inl rfl) (pe_lst pa_nil))
      (pss_cons (ps_for PassesOwn.never rfl (k_iList K (by rfl) (pv 0)) (pg_name (i := 2) sc_l_tape.nd rfl (Or.inl rfl)) (pss_cons (ps_set (i := 3) sc_l_tape.nd rfl (Or.inl rfl) (pe_op op_mul pe_int (pe_callTy call_int1 (by rfl) T.z_int (by decide +kernel) (pa_cons (pv 2) pa_nil))))
      (pss_cons (ps_if (pt_cmpR op_lt (pv 3) pe_int (nomark _)) (pss_one (ps_set (i := 3) sc_l_tape.nd rfl (Or.inl rfl) (pe_op op_sub (pe_un un_neg pe_int) (pv 3)))) pss_nil)
      (pss_one (ps_if (pt_cmpR op_ge (pv 3) (pe_op op_pow pe_int pe_int) (nomark _)) (pss_one (ps_for PassesOwn.never rfl (pi_range1 (by rfl) T.z_range (pa_cons pe_int pa_nil)) (pg_name (i := 4) sc_l_tape.nd rfl (Or.inl rfl)) (pss_one (ps_if (pt_cmpR op_gt (pv 3) pe_int (nomark _)) (pss_cons (ps_expr (pe_bm PySem.F.plainAttrs_list PySem.F.slot_list_append PySem.F.type_list_append mt_append (pv 1) (pa_cons (pe_op op_modN (pe_callTy call_int1 (by rfl) T.z_int (by decide +kernel) (pa_cons (pv 3) pa_nil)) pe_int) pa_nil)))
      (pss_one (ps_set (i := 3) sc_l_tape.nd rfl (Or.inl rfl) (pe_op op_fdivX (pv 3) pe_int)))) pss_nil)))) (pss_one (ps_for PassesOwn.never rfl (pi_range1 (by rfl) T.z_range (pa_cons pe_int pa_nil)) (pg_name (i := 4) sc_l_tape.nd rfl (Or.inl rfl)) (pss_cons (ps_set (i := 5) sc_l_tape.nd rfl (Or.inl rfl) (pe_op op_modN (pe_callTy call_int1 (by rfl) T.z_int (by decide +kernel) (pa_cons (pe_op op_add (pe_op op_add (pe_op op_mul (pv 3) pe_int) (pe_op op_mul (pv 4) pe_int)) pe_int) pa_nil)) pe_int))
      (pss_one (ps_expr (pe_bm PySem.F.plainAttrs_list PySem.F.slot_list_append PySem.F.type_list_append mt_append (pv 1) (pa_cons (pe_op op_modN (pe_callTy call_int1 (by rfl) T.z_int (by decide +kernel) (pa_cons (pe_op op_add (pe_op op_mul (pv 5) pe_int) (pe_op op_fdivX (pv 5) pe_int)) pa_nil)) pe_int) pa_nil))))))))))))
      (pss_one (ps_ret (pv 1))))), ?_⟩
  exact run_S (N := ["tape", "cell", "number", "k", "first"]) (f := body_l_tape) (fun _ => (st_seq (st_own (by decide) (f_lst s_nil))
      (st_seq (st_for i_scr (g_name (by decide)) (st_seq (st_asg (s_op o_mulS s_int (s_cb c_int (s_cons s_var s_nil))) (g_name (by decide)))
      (st_seq (st_if (s_tst (s_op o_ib s_var s_int)) (st_asg (s_op o_i0 (s_neg s_int) s_var) (g_name (by decide))) st_next)
      (st_if (s_tst (s_op o_ib s_var (s_op o_pow s_int s_int))) (st_for (i_range1 (s_cons s_int s_nil)) (g_name (by decide)) (st_if (s_tst (s_op o_ib s_var s_int)) (st_seq (st_drop (s_app (s_op o_mod (s_cb c_int (s_cons s_var s_nil)) s_int)))
      (st_asg (s_op o_fdiv s_var s_int) (g_name (by decide)))) st_next)) (st_for (i_range1 (s_cons s_int s_nil)) (g_name (by decide)) (st_seq (st_asg (s_op o_mod (s_cb c_int (s_cons (s_op o_i0 (s_op o_i0 (s_op o_mulS s_var s_int) (s_op o_mulS s_var s_int)) s_int) s_nil)) s_int) (g_name (by decide)))
      (st_drop (s_app (s_op o_mod (s_cb c_int (s_cons (s_op o_i0 (s_op o_mulS s_var s_int) (s_op o_fdiv s_var s_int)) s_nil)) s_int)))))))))
      (st_frz (by decide) (st_ret s_var))))) h
theorem ok_l_draw {P : Program} {w : World} {K : PySem.W.Frag} {mg : Str → Option Value} {base : Heap} (T : Env K mg) : FnOk P w K mg base CX0 1 T.a_l_draw T.d_l_draw ["tape", "at", "many"] (spP K 3 den_l_draw) := by
  refine T.F_l_draw.ok sc_l_draw (fun vs H Q E h => len_P h) (fun cdv A outer s H vs Q E hr h => ?_)
  refine ⟨_, (pss_cons (ps_if (pt_cmpR op_lt (pv 1) (pe_callB (k_len K) (by rfl) T.z_len (by decide +kernel) (pa_cons (pv 0) pa_nil)) (nomark _)) (pss_one (ps_ret (pe_op op_modN (pe_callTy call_int1 (by rfl) T.z_int (by decide +kernel) (pa_cons (pe_ix (ixL K) (pv 0) (pv 1) (fun _ _ => rfl)) pa_nil)) (pv 2)))) pss_nil)
      (pss_cons (ps_set (i := 3) sc_l_draw.nd rfl (Or.inl rfl) pe_int)
      (pss_cons (ps_if (pt_cmpR op_gt (pe_callB (k_len K) (by rfl) T.z_len (by decide +kernel) (pa_cons (pv 0) pa_nil)) pe_int (nomark _)) (pss_one (ps_set (i := 3) sc_l_draw.nd rfl (Or.inl rfl) (pe_ix (ixL K) (pv 0) (pe_op op_modN (pe_callTy call_int1 (by rfl) T.z_int (by decide +kernel) (pa_cons (pv 1) pa_nil)) (pe_callB (k_len K) (by rfl) T.z_len (by decide +kernel) (pa_cons (pv 0) pa_nil))) (fun _ _ => rfl)))) pss_nil)
      (pss_one (ps_ret (pe_op op_modN (pe_op op_modN (pe_callTy call_int1 (by rfl) T.z_int (by decide +kernel) (pa_cons (pe_op op_add (pe_op op_mul (pe_op op_mulW (pe_op op_add (pv 3) (pv 1)) (pe_op op_add (pv 1) pe_int)) pe_int) (pe_op op_mul (pv 1) pe_int)) pa_nil)) pe_int) (pv 2))))))), ?_⟩
  exact run_P (N := ["tape", "at", "many", "number"]) (f := body_l_draw) (fun _ => (st_seq (st_if (s_tst (s_op o_ib s_var (s_cb c_len (s_cons s_var s_nil)))) (st_ret (s_op o_mod (s_cb c_int (s_cons (s_op o_ixL s_var s_var) s_nil)) s_var)) st_next)
      (st_seq (st_asg s_int (g_name (by decide)))
      (st_seq (st_if (s_tst (s_op o_ib (s_cb c_len (s_cons s_var s_nil)) s_int)) (st_asg (s_op o_ixL s_var (s_op o_mod (s_cb c_int (s_cons s_var s_nil)) (s_cb c_len (s_cons s_var s_nil)))) (g_name (by decide))) st_next)
      (st_ret (s_op o_mod (s_op o_mod (s_cb c_int (s_cons (s_op o_i0 (s_op o_mulS (s_op o_mul (s_op o_i0 s_var s_var) (s_op o_i0 s_var s_int)) s_int) (s_op o_mulS s_var s_int)) s_nil)) s_int) s_var)))))) h
theorem ok_l_take {P : Program} {w : World} {K : PySem.W.Frag} {mg : Str → Option Value} {base : Heap} (T : Env K mg) : FnOk P w K mg base CX0 2 T.a_l_take T.d_l_take ["state", "many"] (spB K 1 den_l_take) := by
  refine T.F_l_take.ok sc_l_take (fun vs H Q E h => len_B h) (fun cdv A outer s H vs Q E hr h => ?_)
  have G_l_draw := ok_l_draw (P := P) (w := w) (base := base) T
  have hr_l_draw : Room 1 _ := hr.mono (by decide)
  refine ⟨_, (pss_cons (ps_asg (pe_op op_add (pe_ix (ixL K) (pv 0) pe_int (fun _ _ => rfl)) pe_int) (pg_sub (pv 0) pe_int set_list))
      (pss_one (ps_ret (pe_call G_l_draw hr_l_draw (by rfl) T.g_l_draw T.F_l_draw.kp T.b_l_draw .nil pass0 (pa_cons (pe_ix (ixL K) (pv 0) pe_int (fun _ _ => rfl)) (pa_cons (pe_ix (ixL K) (pv 0) pe_int (fun _ _ => rfl)) (pa_cons (pv 1) pa_nil))))))), ?_⟩
  exact run_B (N := ["many"]) (f := body_l_take) (fun _ => (st_seq (st_setI s_int (s_op o_i0 (s_ixO s_int) s_int))
      (st_ret (s_callP (s_cons (s_ixO s_int) (s_cons (s_ixO s_int) (s_cons s_var s_nil))))))) h
theorem ok_l_ends {P : Program} {w : World} {K : PySem.W.Frag} {mg : Str → Option Value} {base : Heap} (T : Env K mg) : FnOk P w K mg base CX0 3 T.a_l_ends T.d_l_ends ["state", "many"] (spB K 1 den_l_ends) := by
  refine T.F_l_ends.ok sc_l_ends (fun vs H Q E h => len_B h) (fun cdv A outer s H vs Q E hr h => ?_)
  have G_l_take := ok_l_take (P := P) (w := w) (base := base) T
  have hr_l_take : Room 2 _ := hr.mono (by decide)
  refine ⟨_, (pss_cons (ps_set (i := 2) sc_l_ends.nd rfl (Or.inl rfl) (pe_lst pa_nil))
      (pss_cons (ps_set (i := 3) sc_l_ends.nd rfl (Or.inl rfl) (pe_call G_l_take hr_l_take (by rfl) T.g_l_take T.F_l_take.kp T.b_l_take .nil pass0 (pa_cons (pv 0) (pa_cons (pv 1) pa_nil))))
      (pss_cons (ps_for PassesOwn.never rfl (pi_range1 (by rfl) T.z_range (pa_cons (pv 1) pa_nil)) (pg_name (i := 4) sc_l_ends.nd rfl (Or.inl rfl)) (pss_one (ps_if (PW.pt (pw_or (pt_cmpR op_eq (pv 4) (pv 3) (nomark _)) (pw_or1 (pt_cmpR op_eq (pe_call G_l_take hr_l_take (by rfl) T.g_l_take T.F_l_take.kp T.b_l_take .nil pass0 (pa_cons (pv 0) (pa_cons pe_int pa_nil))) pe_int (nomark _))))) (pss_one (ps_expr (pe_bm PySem.F.plainAttrs_list PySem.F.slot_list_append PySem.F.type_list_append mt_append (pv 2) (pa_cons (pe_tup (pa_cons (pv 4) (pa_cons (pe_ix (ixL K) (pe_lst (pa_cons pe_int (pa_cons pe_int (pa_cons pe_int (pa_cons pe_int (pa_cons pe_int (pa_cons pe_int pa_nil))))))) (pe_call G_l_take hr_l_take (by rfl) T.g_l_take T.F_l_take.kp T.b_l_take .nil pass0 (pa_cons (pv 0) (pa_cons pe_int pa_nil))) (fun _ _ => rfl)) pa_nil))) pa_nil)))) pss_nil)))
      (pss_one (ps_ret (pe_callTy (k_tuple K) (by rfl) T.z_tuple (by decide +kernel) (pa_cons (pv 2) pa_nil))))))), ?_⟩
  exact run_B (N := ["many", "ends", "first", "goal"]) (f := body_l_ends) (fun _ => (st_seq (st_own (by decide) (f_lst s_nil))
      (st_seq (st_asg (s_callB (s_cons s_var s_nil)) (g_name (by decide)))
      (st_seq (st_for (i_range1 (s_cons s_var s_nil)) (g_name (by decide)) (st_if (s_or (s_tst (s_op o_eq s_var s_var)) (s_tst (s_op o_eq (s_callB (s_cons s_int s_nil)) s_int))) (st_drop (s_app (s_tup (s_cons s_var (s_cons (s_op o_ixL (s_lst (s_cons s_int (s_cons s_int (s_cons s_int (s_cons s_int (s_cons s_int (s_cons s_int s_nil))))))) (s_callB (s_cons s_int s_nil))) s_nil))))) st_next))
      (st_ret s_tupleO))))) h
theorem ok_l_choices {P : Program} {w : World} {K : PySem.W.Frag} {mg : Str → Option Value} {base : Heap} (T : Env K mg) : FnOk P w K mg base CX0 4 T.a_l_choices T.d_l_choices ["state", "many", "most"] (spB K 2 den_l_choices) := by
  refine T.F_l_choices.ok sc_l_choices (fun vs H Q E h => len_B h) (fun cdv A outer s H vs Q E hr h => ?_)
  have G_l_take := ok_l_take (P := P) (w := w) (base := base) T
  have hr_l_take : Room 2 _ := hr.mono (by decide)
  have G_l_ends := ok_l_ends (P := P) (w := w) (base := base) T
  have hr_l_ends : Room 3 _ := hr.mono (by decide)
  refine ⟨_, (pss_cons (ps_set (i := 3) sc_l_choices.nd rfl (Or.inl rfl) (pe_lst pa_nil))
      (pss_cons (ps_for PassesOwn.never rfl (pi_range1 (by rfl) T.z_range (pa_cons (pe_op op_add pe_int (pe_call G_l_take hr_l_take (by rfl) T.g_l_take T.F_l_take.kp T.b_l_take .nil pass0 (pa_cons (pv 0) (pa_cons (pv 2) pa_nil)))) pa_nil)) (pg_name (i := 4) sc_l_choices.nd rfl (Or.inl rfl)) (pss_one (ps_expr (pe_bm PySem.F.plainAttrs_list PySem.F.slot_list_append PySem.F.type_list_append mt_append (pv 3) (pa_cons (pe_tup (pa_cons (pe_ix (ixL K) (pe_lst (pa_cons pe_int (pa_cons pe_int (pa_cons pe_int (pa_cons pe_int (pa_cons pe_int pa_nil)))))) (pe_call G_l_take hr_l_take (by rfl) T.g_l_take T.F_l_take.kp T.b_l_take .nil pass0 (pa_cons (pv 0) (pa_cons pe_int pa_nil))) (fun _ _ => rfl)) (pa_cons (pe_call G_l_ends hr_l_ends (by rfl) T.g_l_ends T.F_l_ends.kp T.b_l_ends .nil pass0 (pa_cons (pv 0) (pa_cons (pv 1) pa_nil))) pa_nil))) pa_nil)))))
      (pss_one (ps_ret (pe_callTy (k_tuple K) (by rfl) T.z_tuple (by decide +kernel) (pa_cons (pv 3) pa_nil)))))), ?_⟩
  exact run_B (N := ["many", "most", "choices", "k"]) (f := body_l_choices) (fun _ => (st_seq (st_own (by decide) (f_lst s_nil))
      (st_seq (st_for (i_range1 (s_cons (s_op o_i0 s_int (s_callB (s_cons s_var s_nil))) s_nil)) (g_name (by decide)) (st_drop (s_app (s_tup (s_cons (s_op o_ixL (s_lst (s_cons s_int (s_cons s_int (s_cons s_int (s_cons s_int (s_cons s_int s_nil)))))) (s_callB (s_cons s_int s_nil))) (s_cons (s_callB (s_cons s_var s_nil)) s_nil))))))
      (st_ret s_tupleO)))) h
theorem ok_l_system {P : Program} {w : World} {K : PySem.W.Frag} {mg : Str → Option Value} {base : Heap} (T : Env K mg) : FnOk P w K mg base CX0 5 T.a_l_system T.d_l_system ["state", "most"] (spB K 1 den_l_system) := by
  refine T.F_l_system.ok sc_l_system (fun vs H Q E h => len_B h) (fun cdv A outer s H vs Q E hr h => ?_)
  have G_l_take := ok_l_take (P := P) (w := w) (base := base) T
  have hr_l_take : Room 2 _ := hr.mono (by decide)
  have G_l_choices := ok_l_choices (P := P) (w := w) (base := base) T
  have hr_l_choices : Room 4 _ := hr.mono (by decide)
  refine ⟨_, (pss_cons (ps_set (i := 2) sc_l_system.nd rfl (Or.inr rfl) (pe_op op_add pe_int (pe_call G_l_take hr_l_take (by rfl) T.g_l_take T.F_l_take.kp T.b_l_take .nil pass0 (pa_cons (pv 0) (pa_cons (pv 1) pa_nil)))))
      (pss_one (ps_ret (pe_callTy (k_tuple K) (by rfl) T.z_tuple (by decide +kernel) (pa_cons (pe_lc (own := [("k", 3)]) (g := gName 3) (by rfl) sc_l_system.nd (pi_range1 (by rfl) T.z_range (pa_cons (pv 2) pa_nil)) (blkOk_by (own := [("k", 3)]) (N := ["state", "most", "many", "k"]) (sc := defScope s_l_system) (by decide +kernel)) (fun _ _ _ _ _ => (pg_name (i := 3) sc_l_system.nd rfl (Or.inl rfl))) (fun _ _ _ _ _ => pts_nil) (fun _ _ _ _ _ => (pe_call G_l_choices hr_l_choices (by rfl) T.g_l_choices T.F_l_choices.kp T.b_l_choices .nil pass0 (pa_cons (pv 0) (pa_cons (pv 2) (pa_cons pe_int pa_nil)))))) pa_nil))))), ?_⟩
  exact run_B (N := ["most", "many", "k"]) (f := body_l_system) (fun _ => (st_seq (st_asg (s_op o_i0 s_int (s_callB (s_cons s_var s_nil))) (g_name (by decide)))
      (st_ret (s_cb c_tuple (s_cons (s_fr (f_lc (by decide) (by decide) (i_range1 (s_cons s_var s_nil)) (fun _ => (g_name (by decide))) (fun _ => s_yes) (fun _ => (s_callB (s_cons s_var (s_cons s_int s_nil)))))) s_nil))))) h
theorem ok_l_drawn_policy {P : Program} {w : World} {K : PySem.W.Frag} {mg : Str → Option Value} {base : Heap} (T : Env K mg) : FnOk P w K mg base CX0 3 T.a_l_drawn_policy T.d_l_drawn_policy ["state", "system"] (spB K 1 den_l_drawn_policy) := by
  refine T.F_l_drawn_policy.ok sc_l_drawn_policy (fun vs H Q E h => len_B h) (fun cdv A outer s H vs Q E hr h => ?_)
  have G_l_take := ok_l_take (P := P) (w := w) (base := base) T
  have hr_l_take : Room 2 _ := hr.mono (by decide)
  refine ⟨_, (pss_one (ps_ret (pe_callTy (k_tuple K) (by rfl) T.z_tuple (by decide +kernel) (pa_cons (pe_lc (own := [("choices", 2)]) (g := gName 2) (by rfl) sc_l_drawn_policy.nd (k_iTup K (by rfl) (pv 1)) (blkOk_by (own := [("choices", 2)]) (N := ["state", "system", "choices"]) (sc := defScope s_l_drawn_policy) (by decide +kernel)) (fun _ _ _ _ _ => (pg_name (i := 2) sc_l_drawn_policy.nd rfl (Or.inl rfl))) (fun _ _ _ _ _ => pts_nil) (fun _ _ _ _ _ => (pe_call G_l_take hr_l_take (by rfl) T.g_l_take T.F_l_take.kp T.b_l_take .nil pass0 (pa_cons (pv 0) (pa_cons (pe_callB (k_len K) (by rfl) T.z_len (by decide +kernel) (pa_cons (pv 2) pa_nil)) pa_nil))))) pa_nil)))), ?_⟩
  exact run_B (N := ["system", "choices"]) (f := body_l_drawn_policy) (fun _ => (st_ret (s_cb c_tuple (s_cons (s_fr (f_lc (by decide) (by decide) (i_tup s_var) (fun _ => (g_name (by decide))) (fun _ => s_yes) (fun _ => (s_callB (s_cons (s_cb c_len (s_cons s_var s_nil)) s_nil))))) s_nil)))) h
theorem ok_l_some {P : Program} {w : World} {K : PySem.W.Frag} {mg : Str → Option Value} {base : Heap} (T : Env K mg) : FnOk P w K mg base CX0 3 T.a_l_some T.d_l_some ["state", "many", "share"] (spB K 2 den_l_some) := by
  refine T.F_l_some.ok sc_l_some (fun vs H Q E h => len_B h) (fun cdv A outer s H vs Q E hr h => ?_)
  have G_l_take := ok_l_take (P := P) (w := w) (base := base) T
  have hr_l_take : Room 2 _ := hr.mono (by decide)
  refine ⟨_, (pss_cons (ps_setLc (i := 3) (own := [("k", 4)]) (g := gName 4) (by rfl) sc_l_some.nd rfl rfl (sw_true rfl rfl rfl (by decide +kernel)) (pi_range1 (by rfl) T.z_range (pa_cons (pv 1) pa_nil)) (blkOk_by (own := [("k", 4)]) (N := ["state", "many", "share", "found", "k"]) (sc := defScope s_l_some) (by decide +kernel)) (fun _ _ _ _ _ => (pg_name (i := 4) sc_l_some.nd rfl (Or.inl rfl))) (fun _ _ _ _ _ => (pts_one (pt_cmpR op_eq (pe_call G_l_take hr_l_take (by rfl) T.g_l_take T.F_l_take.kp T.b_l_take .nil pass0 (pa_cons (pv 0) (pa_cons (pv 2) pa_nil))) pe_int (nomark _)))) (fun _ _ _ _ _ => (pv 4)))
      (pss_cons (ps_if (pt_cmpR op_eq (pe_call G_l_take hr_l_take (by rfl) T.g_l_take T.F_l_take.kp T.b_l_take .nil pass0 (pa_cons (pv 0) (pa_cons pe_int pa_nil))) pe_int (nomark _)) (pss_one (ps_set (i := 3) sc_l_some.nd rfl (Or.inl rfl) (k_revL K (by rfl) (pv 3)))) pss_nil)
      (pss_one (ps_ret (pv 3))))), ?_⟩
  exact run_B (N := ["many", "share", "found", "k"]) (f := body_l_some) (fun _ => (st_seq (st_asg (s_fr (f_lc (by decide) (by decide) (i_range1 (s_cons s_var s_nil)) (fun _ => (g_name (by decide))) (fun _ => (s_tst (s_op o_eq (s_callB (s_cons s_var s_nil)) s_int))) (fun _ => s_var))) (g_name (by decide)))
      (st_seq (st_if (s_tst (s_op o_eq (s_callB (s_cons s_int s_nil)) s_int)) (st_asg (s_revL s_var) (g_name (by decide))) st_next)
      (st_ret s_var)))) h
theorem ok_l_backward {P : Program} {w : World} {K : PySem.W.Frag} {mg : Str → Option Value} {base : Heap} (T : Env K mg) : FnOk P w K mg base CX0 1 T.a_l_backward T.d_l_backward ["chain", "rest", "known"] (spP K 3 den_l_backward) := by
  refine T.F_l_backward.ok sc_l_backward (fun vs H Q E h => len_P h) (fun cdv A outer s H vs Q E hr h => ?_)
  refine ⟨_, (pss_cons (ps_set (i := 3) sc_l_backward.nd rfl (Or.inr rfl) (pe_callTy (k_list K) (by rfl) T.z_list (by decide +kernel) (pa_cons (pv 2) pa_nil)))
      (pss_cons (ps_for PassesOwn.never rfl (pi_range1 (by rfl) T.z_range (pa_cons (pe_callB (k_len K) (by rfl) T.z_len (by decide +kernel) (pa_cons (pv 0) pa_nil)) pa_nil)) (pg_name (i := 4) sc_l_backward.nd rfl (Or.inl rfl)) (pss_one (ps_for PassesOwn.never rfl (k_iList K (by rfl) (pv 1)) (pg_name (i := 5) sc_l_backward.nd rfl (Or.inl rfl)) (pss_one (ps_if (PW.pt (pw_and (pt_cmpR (k_notIn K) (pv 5) (pv 3) rfl) (pw_and1 (pt_cmpR op_gt (pe_callB (k_len K) (by rfl) T.z_len (by decide +kernel) (pa_cons (pe_lc (own := [("end", 6)]) (g := gName 6) (by rfl) sc_l_backward.nd (k_iList K (by rfl) (pe_ix (ixT K) (pe_ix (ixL K) (pv 0) (pv 5) (fun _ _ => rfl)) pe_int (fun _ _ => rfl))) (blkOk_by (own := [("end", 6)]) (N := ["chain", "rest", "known", "found", "k", "one", "end"]) (sc := defScope s_l_backward) (by decide +kernel)) (fun _ _ _ _ _ => (pg_name (i := 6) sc_l_backward.nd rfl (Or.inl rfl))) (fun _ _ _ _ _ => (pts_one (pt_cmpR (k_in K) (pe_ix (ixT K) (pv 6) pe_int (fun _ _ => rfl)) (pv 3) rfl))) (fun _ _ _ _ _ => (pv 6))) pa_nil)) pe_int (nomark _))))) (pss_one (ps_expr (pe_bm PySem.F.plainAttrs_list PySem.F.slot_list_append PySem.F.type_list_append mt_append (pv 3) (pa_cons (pv 5) pa_nil)))) pss_nil)))))
      (pss_one (ps_ret (pv 3))))), ?_⟩
  exact run_P (N := ["chain", "rest", "known", "found", "k", "one", "end"]) (f := body_l_backward) (fun _ => (st_seq (st_own (by decide) (f_list s_var))
      (st_seq (st_for (i_range1 (s_cons (s_cb c_len (s_cons s_var s_nil)) s_nil)) (g_name (by decide)) (st_for (i_list s_var) (g_name (by decide)) (st_if (s_and (s_tst (s_inO s_var)) (s_tst (s_op o_ib (s_cb c_len (s_cons (s_fr (f_lc (by decide) (by decide) (i_list (s_op o_ixT (s_op o_ixL s_var s_var) s_int)) (fun _ => (g_name (by decide))) (fun _ => (s_tst (s_inO (s_op o_ixT s_var s_int)))) (fun _ => s_var))) s_nil)) s_int))) (st_drop (s_app s_var)) st_next)))
      (st_frz (by decide) (st_ret s_var))))) h
theorem ok_l_ratio {P : Program} {w : World} {K : PySem.W.Frag} {mg : Str → Option Value} {base : Heap} (T : Env K mg) : FnOk P w K mg base CX0 1 T.a_l_ratio T.d_l_ratio ["n", "d"] (spP K 2 den_l_ratio) := by
  refine T.F_l_ratio.ok sc_l_ratio (fun vs H Q E h => len_P h) (fun cdv A outer s H vs Q E hr h => ?_)
  refine ⟨_, (pss_cons (ps_if (pt_cmpR op_lt (pv 1) pe_int (nomark _)) (pss_cons (ps_set (i := 0) sc_l_ratio.nd rfl (Or.inl rfl) (pe_op op_sub pe_int (pv 0)))
      (pss_one (ps_set (i := 1) sc_l_ratio.nd rfl (Or.inl rfl) (pe_op op_sub pe_int (pv 1))))) pss_nil)
      (pss_cons (ps_set (i := 2) sc_l_ratio.nd rfl (Or.inl rfl) (pe_callB call_abs (by rfl) T.z_abs (by decide +kernel) (pa_cons (pv 0) pa_nil)))
      (pss_cons (ps_set (i := 3) sc_l_ratio.nd rfl (Or.inl rfl) (pv 1))
      (pss_cons (ps_for PassesOwn.never rfl (pi_range1 (by rfl) T.z_range (pa_cons pe_int pa_nil)) (pg_name (i := 4) sc_l_ratio.nd rfl (Or.inl rfl)) (pss_cons (ps_if (pt_cmpR op_eq (pv 2) pe_int (nomark _)) (pss_one ps_break) pss_nil)
      (pss_cons (ps_set (i := 5) sc_l_ratio.nd rfl (Or.inl rfl) (pe_op op_modN (pe_callTy call_int1 (by rfl) T.z_int (by decide +kernel) (pa_cons (pv 3) pa_nil)) (pv 2)))
      (pss_cons (ps_set (i := 3) sc_l_ratio.nd rfl (Or.inl rfl) (pv 2))
      (pss_one (ps_set (i := 2) sc_l_ratio.nd rfl (Or.inl rfl) (pv 5)))))))
      (pss_one (ps_ret (pe_tup (pa_cons (pe_op op_fdivX (pv 0) (pv 3)) (pa_cons (pe_op op_fdivX (pv 1) (pv 3)) pa_nil))))))))), ?_⟩
  exact run_P (N := ["n", "d", "a", "b", "k", "rest"]) (f := body_l_ratio) (fun _ => (st_seq (st_if (s_tst (s_op o_ib s_var s_int)) (st_seq (st_asg (s_op o_i0 s_int s_var) (g_name (by decide)))
      (st_asg (s_op o_i0 s_int s_var) (g_name (by decide)))) st_next)
      (st_seq (st_asg (s_cb c_abs (s_cons s_var s_nil)) (g_name (by decide)))
      (st_seq (st_asg s_var (g_name (by decide)))
      (st_seq (st_for (i_range1 (s_cons s_int s_nil)) (g_name (by decide)) (st_seq (st_if (s_tst (s_op o_eq s_var s_int)) st_brk st_next)
      (st_seq (st_asg (s_op o_mod (s_cb c_int (s_cons s_var s_nil)) s_var) (g_name (by decide)))
      (st_seq (st_asg s_var (g_name (by decide)))
      (st_asg s_var (g_name (by decide)))))))
      (st_ret (s_tup (s_cons (s_op o_fdiv s_var s_var) (s_cons (s_op o_fdiv s_var s_var) s_nil))))))))) h
theorem ok_l_over {P : Program} {w : World} {K : PySem.W.Frag} {mg : Str → Option Value} {base : Heap} (T : Env K mg) : FnOk P w K mg base CX0 2 T.a_l_over T.d_l_over ["a", "b"] (spP K 2 den_l_over) := by
  refine T.F_l_over.ok sc_l_over (fun vs H Q E h => len_P h) (fun cdv A outer s H vs Q E hr h => ?_)
  have G_l_ratio := ok_l_ratio (P := P) (w := w) (base := base) T
  have hr_l_ratio : Room 1 _ := hr.mono (by decide)
  refine ⟨_, (pss_one (ps_ret (pe_call G_l_ratio hr_l_ratio (by rfl) T.g_l_ratio T.F_l_ratio.kp T.b_l_ratio .nil pass0 (pa_cons (pe_op op_mulW (pe_ix (ixT K) (pv 0) pe_int (fun _ _ => rfl)) (pe_ix (ixT K) (pv 1) pe_int (fun _ _ => rfl))) (pa_cons (pe_op op_mulW (pe_ix (ixT K) (pv 0) pe_int (fun _ _ => rfl)) (pe_ix (ixT K) (pv 1) pe_int (fun _ _ => rfl))) pa_nil))))), ?_⟩
  exact run_P (N := ["a", "b"]) (f := body_l_over) (fun _ => (st_ret (s_callP (s_cons (s_op o_mul (s_op o_ixT s_var s_int) (s_op o_ixT s_var s_int)) (s_cons (s_op o_mul (s_op o_ixT s_var s_int) (s_op o_ixT s_var s_int)) s_nil))))) h
theorem ok_l_plus {P : Program} {w : World} {K : PySem.W.Frag} {mg : Str → Option Value} {base : Heap} (T : Env K mg) : FnOk P w K mg base CX0 2 T.a_l_plus T.d_l_plus ["a", "b"] (spP K 2 den_l_plus) := by
  refine T.F_l_plus.ok sc_l_plus (fun vs H Q E h => len_P h) (fun cdv A outer s H vs Q E hr h => ?_)
  have G_l_ratio := ok_l_ratio (P := P) (w := w) (base := base) T
  have hr_l_ratio : Room 1 _ := hr.mono (by decide)
  refine ⟨_, (pss_one (ps_ret (pe_call G_l_ratio hr_l_ratio (by rfl) T.g_l_ratio T.F_l_ratio.kp T.b_l_ratio .nil pass0 (pa_cons (pe_op op_add (pe_op op_mulW (pe_ix (ixT K) (pv 0) pe_int (fun _ _ => rfl)) (pe_ix (ixT K) (pv 1) pe_int (fun _ _ => rfl))) (pe_op op_mulW (pe_ix (ixT K) (pv 1) pe_int (fun _ _ => rfl)) (pe_ix (ixT K) (pv 0) pe_int (fun _ _ => rfl)))) (pa_cons (pe_op op_mulW (pe_ix (ixT K) (pv 0) pe_int (fun _ _ => rfl)) (pe_ix (ixT K) (pv 1) pe_int (fun _ _ => rfl))) pa_nil))))), ?_⟩
  exact run_P (N := ["a", "b"]) (f := body_l_plus) (fun _ => (st_ret (s_callP (s_cons (s_op o_i0 (s_op o_mul (s_op o_ixT s_var s_int) (s_op o_ixT s_var s_int)) (s_op o_mul (s_op o_ixT s_var s_int) (s_op o_ixT s_var s_int))) (s_cons (s_op o_mul (s_op o_ixT s_var s_int) (s_op o_ixT s_var s_int)) s_nil))))) h
theorem ok_l_times {P : Program} {w : World} {K : PySem.W.Frag} {mg : Str → Option Value} {base : Heap} (T : Env K mg) : FnOk P w K mg base CX0 2 T.a_l_times T.d_l_times ["a", "b"] (spP K 2 den_l_times) := by
  refine T.F_l_times.ok sc_l_times (fun vs H Q E h => len_P h) (fun cdv A outer s H vs Q E hr h => ?_)
  have G_l_ratio := ok_l_ratio (P := P) (w := w) (base := base) T
  have hr_l_ratio : Room 1 _ := hr.mono (by decide)
  refine ⟨_, (pss_one (ps_ret (pe_call G_l_ratio hr_l_ratio (by rfl) T.g_l_ratio T.F_l_ratio.kp T.b_l_ratio .nil pass0 (pa_cons (pe_op op_mulW (pe_ix (ixT K) (pv 0) pe_int (fun _ _ => rfl)) (pe_ix (ixT K) (pv 1) pe_int (fun _ _ => rfl))) (pa_cons (pe_op op_mulW (pe_ix (ixT K) (pv 0) pe_int (fun _ _ => rfl)) (pe_ix (ixT K) (pv 1) pe_int (fun _ _ => rfl))) pa_nil))))), ?_⟩
  exact run_P (N := ["a", "b"]) (f := body_l_times) (fun _ => (st_ret (s_callP (s_cons (s_op o_mul (s_op o_ixT s_var s_int) (s_op o_ixT s_var s_int)) (s_cons (s_op o_mul (s_op o_ixT s_var s_int) (s_op o_ixT s_var s_int)) s_nil))))) h
theorem ok_l_solve {P : Program} {w : World} {K : PySem.W.Frag} {mg : Str → Option Value} {base : Heap} (T : Env K mg) : FnOk P w K mg base CX0 3 T.a_l_solve T.d_l_solve ["rows", "right"] (spP K 2 den_l_solve) := by
  refine T.F_l_solve.ok sc_l_solve (fun vs H Q E h => len_P h) (fun cdv A outer s H vs Q E hr h => ?_)
  have G_l_over := ok_l_over (P := P) (w := w) (base := base) T
  have hr_l_over : Room 2 _ := hr.mono (by decide)
  have G_l_plus := ok_l_plus (P := P) (w := w) (base := base) T
  have hr_l_plus : Room 2 _ := hr.mono (by decide)
  have G_l_times := ok_l_times (P := P) (w := w) (base := base) T
  have hr_l_times : Room 2 _ := hr.mono (by decide)
  refine ⟨_, (pss_cons (ps_set (i := 2) sc_l_solve.nd rfl (Or.inr rfl) (pe_lc (own := [("k", 7)]) (g := gName 7) (by rfl) sc_l_solve.nd (pi_range1 (by rfl) T.z_range (pa_cons (pe_callB (k_len K) (by rfl) T.z_len (by decide +kernel) (pa_cons (pv 0) pa_nil)) pa_nil)) (blkOk_by (own := [("k", 7)]) (N := ["rows", "right", "table", "size", "column", "found", "chosen", "k", "row", "item", "less", "j"]) (sc := defScope s_l_solve) (by decide +kernel)) (fun _ _ _ _ _ => (pg_name (i := 7) sc_l_solve.nd rfl (Or.inl rfl))) (fun _ _ _ _ _ => pts_nil) (fun _ _ _ _ _ => (pe_op op_cat (pe_callTy (k_list K) (by rfl) T.z_list (by decide +kernel) (pa_cons (pe_ix (ixL K) (pv 0) (pv 7) (fun _ _ => rfl)) pa_nil)) (pe_lst (pa_cons (pe_ix (ixL K) (pv 1) (pv 7) (fun _ _ => rfl)) pa_nil))))))
      (pss_cons (ps_set (i := 3) sc_l_solve.nd rfl (Or.inl rfl) (pe_callB (k_len K) (by rfl) T.z_len (by decide +kernel) (pa_cons (pv 2) pa_nil)))
      (pss_cons (ps_for PassesOwn.never rfl (pi_range1 (by rfl) T.z_range (pa_cons (pv 3) pa_nil)) (pg_name (i := 4) sc_l_solve.nd rfl (Or.inr rfl)) (pss_cons (ps_setLc (i := 5) (own := [("k", 7)]) (g := gName 7) (by rfl) sc_l_solve.nd rfl rfl (sw_true rfl rfl rfl (by decide +kernel)) (pi_range2 (by rfl) T.z_range (pa_cons (pv 4) (pa_cons (pv 3) pa_nil))) (blkOk_by (own := [("k", 7)]) (N := ["rows", "right", "table", "size", "column", "found", "chosen", "k", "row", "item", "less", "j"]) (sc := defScope s_l_solve) (by decide +kernel)) (fun _ _ _ _ _ => (pg_name (i := 7) sc_l_solve.nd rfl (Or.inl rfl))) (fun _ _ _ _ _ => (pts_one (pt_cmpR op_ne (pe_ix (ixT K) (pe_ix (ixL K) (pe_ix (ixL K) (pv 2) (pv 7) (fun _ _ => rfl)) (pv 4) (fun _ _ => rfl)) pe_int (fun _ _ => rfl)) pe_int (nomark _)))) (fun _ _ _ _ _ => (pv 7)))
      (pss_cons (ps_if (pt_cmpR op_eq (pe_callB (k_len K) (by rfl) T.z_len (by decide +kernel) (pa_cons (pv 5) pa_nil)) pe_int (nomark _)) (pss_one (ps_ret pe_non)) pss_nil)
      (pss_cons (ps_set (i := 6) sc_l_solve.nd rfl (Or.inr rfl) (pe_ix (ixL K) (pv 2) (pe_ix (ixL K) (pv 5) pe_int (fun _ _ => rfl)) (fun _ _ => rfl)))
      (pss_cons (ps_asg (pe_ix (ixL K) (pv 2) (pv 4) (fun _ _ => rfl)) (pg_sub (pv 2) (pe_ix (ixL K) (pv 5) pe_int (fun _ _ => rfl)) set_list))
      (pss_cons (ps_set (i := 6) sc_l_solve.nd rfl (Or.inr rfl) (pe_lc (own := [("item", 9)]) (g := gName 9) (by rfl) sc_l_solve.nd (k_iList K (by rfl) (pv 6)) (blkOk_by (own := [("item", 9)]) (N := ["rows", "right", "table", "size", "column", "found", "chosen", "k", "row", "item", "less", "j"]) (sc := defScope s_l_solve) (by decide +kernel)) (fun _ _ _ _ _ => (pg_name (i := 9) sc_l_solve.nd rfl (Or.inl rfl))) (fun _ _ _ _ _ => pts_nil) (fun _ _ _ _ _ => (pe_call G_l_over hr_l_over (by rfl) T.g_l_over T.F_l_over.kp T.b_l_over .nil pass0 (pa_cons (pv 9) (pa_cons (pe_ix (ixL K) (pv 6) (pv 4) (fun _ _ => rfl)) pa_nil))))))
      (pss_cons (ps_asg (pv 6) (pg_sub (pv 2) (pv 4) set_list))
      (pss_one (ps_for PassesOwn.never rfl (pi_range1 (by rfl) T.z_range (pa_cons (pv 3) pa_nil)) (pg_name (i := 7) sc_l_solve.nd rfl (Or.inr rfl)) (pss_one (ps_if (PW.pt (pw_and (pt_cmpR op_ne (pv 7) (pv 4) (nomark _)) (pw_and1 (pt_cmpR op_ne (pe_ix (ixT K) (pe_ix (ixL K) (pe_ix (ixL K) (pv 2) (pv 7) (fun _ _ => rfl)) (pv 4) (fun _ _ => rfl)) pe_int (fun _ _ => rfl)) pe_int (nomark _))))) (pss_cons (ps_set (i := 10) sc_l_solve.nd rfl (Or.inr rfl) (pe_tup (pa_cons (pe_op op_sub pe_int (pe_ix (ixT K) (pe_ix (ixL K) (pe_ix (ixL K) (pv 2) (pv 7) (fun _ _ => rfl)) (pv 4) (fun _ _ => rfl)) pe_int (fun _ _ => rfl))) (pa_cons (pe_ix (ixT K) (pe_ix (ixL K) (pe_ix (ixL K) (pv 2) (pv 7) (fun _ _ => rfl)) (pv 4) (fun _ _ => rfl)) pe_int (fun _ _ => rfl)) pa_nil))))
      (pss_one (ps_asg (pe_lc (own := [("j", 11)]) (g := gName 11) (by rfl) sc_l_solve.nd (pi_range1 (by rfl) T.z_range (pa_cons (pe_op op_add (pv 3) pe_int) pa_nil)) (blkOk_by (own := [("j", 11)]) (N := ["rows", "right", "table", "size", "column", "found", "chosen", "k", "row", "item", "less", "j"]) (sc := defScope s_l_solve) (by decide +kernel)) (fun _ _ _ _ _ => (pg_name (i := 11) sc_l_solve.nd rfl (Or.inl rfl))) (fun _ _ _ _ _ => pts_nil) (fun _ _ _ _ _ => (pe_call G_l_plus hr_l_plus (by rfl) T.g_l_plus T.F_l_plus.kp T.b_l_plus .nil pass0 (pa_cons (pe_ix (ixL K) (pe_ix (ixL K) (pv 2) (pv 7) (fun _ _ => rfl)) (pv 11) (fun _ _ => rfl)) (pa_cons (pe_call G_l_times hr_l_times (by rfl) T.g_l_times T.F_l_times.kp T.b_l_times .nil pass0 (pa_cons (pv 10) (pa_cons (pe_ix (ixL K) (pv 6) (pv 11) (fun _ _ => rfl)) pa_nil))) pa_nil))))) (pg_sub (pv 2) (pv 7) set_list)))) pss_nil)))))))))))
      (pss_one (ps_ret (pe_lc (own := [("row", 8)]) (g := gName 8) (by rfl) sc_l_solve.nd (k_iList K (by rfl) (pv 2)) (blkOk_by (own := [("row", 8)]) (N := ["rows", "right", "table", "size", "column", "found", "chosen", "k", "row", "item", "less", "j"]) (sc := defScope s_l_solve) (by decide +kernel)) (fun _ _ _ _ _ => (pg_name (i := 8) sc_l_solve.nd rfl (Or.inl rfl))) (fun _ _ _ _ _ => pts_nil) (fun _ _ _ _ _ => (pe_ix (ixL K) (pv 8) (pe_un un_neg pe_int) (fun _ _ => rfl))))))))), ?_⟩
  exact run_P (N := ["rows", "right", "table", "size", "column", "found", "chosen", "k", "row", "item", "less", "j"]) (f := body_l_solve) (fun _ => (st_seq (st_own (by decide) (f_lc (by decide) (by decide) (i_range1 (s_cons (s_cb c_len (s_cons s_var s_nil)) s_nil)) (fun _ => (g_name (by decide))) (fun _ => s_yes) (fun _ => (s_op o_cat (s_cb c_list (s_cons (s_op o_ixL s_var s_var) s_nil)) (s_lst (s_cons (s_op o_ixL s_var s_var) s_nil))))))
      (st_seq (st_asg s_lenO (g_name (by decide)))
      (st_seq (st_for (i_range1 (s_cons s_var s_nil)) (g_name (by decide)) (st_seq (st_asg (s_fr (f_lc (by decide) (by decide) (i_range2 (s_cons s_var (s_cons s_var s_nil))) (fun _ => (g_name (by decide))) (fun _ => (s_tst (s_op o_ne (s_op o_ixT (s_op o_ixL (s_ixO s_var) s_var) s_int) s_int))) (fun _ => s_var))) (g_name (by decide)))
      (st_seq (st_if (s_tst (s_op o_eq (s_cb c_len (s_cons s_var s_nil)) s_int)) (st_ret s_non) st_next)
      (st_seq (st_asg (s_ixO (s_op o_ixL s_var s_int)) (g_name (by decide)))
      (st_seq (st_setI (s_op o_ixL s_var s_int) (s_ixO s_var))
      (st_seq (st_asg (s_fr (f_lc (by decide) (by decide) (i_list s_var) (fun _ => (g_name (by decide))) (fun _ => s_yes) (fun _ => (s_callP (s_cons s_var (s_cons (s_op o_ixL s_var s_var) s_nil)))))) (g_name (by decide)))
      (st_seq (st_setI s_var s_var)
      (st_for (i_range1 (s_cons s_var s_nil)) (g_name (by decide)) (st_if (s_and (s_tst (s_op o_ne s_var s_var)) (s_tst (s_op o_ne (s_op o_ixT (s_op o_ixL (s_ixO s_var) s_var) s_int) s_int))) (st_seq (st_asg (s_tup (s_cons (s_op o_i0 s_int (s_op o_ixT (s_op o_ixL (s_ixO s_var) s_var) s_int)) (s_cons (s_op o_ixT (s_op o_ixL (s_ixO s_var) s_var) s_int) s_nil))) (g_name (by decide)))
      (st_setI s_var (s_fr (f_lc (by decide) (by decide) (i_range1 (s_cons (s_op o_i0 s_var s_int) s_nil)) (fun _ => (g_name (by decide))) (fun _ => s_yes) (fun _ => (s_callP (s_cons (s_op o_ixL (s_ixO s_var) s_var) (s_cons (s_callP (s_cons s_var (s_cons (s_op o_ixL s_var s_var) s_nil))) s_nil)))))))) st_next)))))))))
      (st_ret (s_fr (f_lcO (by decide) (by decide) (by decide) io_list (fun _ => (g_name (by decide))) (fun _ => s_yes) (fun _ => (s_op o_ixL s_var (s_neg s_int)))))))))) h
theorem ok_l_filled {P : Program} {w : World} {K : PySem.W.Frag} {mg : Str → Option Value} {base : Heap} (T : Env K mg) : FnOk P w K mg base CX0 4 T.a_l_filled T.d_l_filled ["chain", "unknown", "known", "extra"] (spP K 4 den_l_filled) := by
  refine T.F_l_filled.ok sc_l_filled (fun vs H Q E h => len_P h) (fun cdv A outer s H vs Q E hr h => ?_)
  have G_l_solve := ok_l_solve (P := P) (w := w) (base := base) T
  have hr_l_solve : Room 3 _ := hr.mono (by decide)
  have G_l_plus := ok_l_plus (P := P) (w := w) (base := base) T
  have hr_l_plus : Room 2 _ := hr.mono (by decide)
  have G_l_times := ok_l_times (P := P) (w := w) (base := base) T
  have hr_l_times : Room 2 _ := hr.mono (by decide)
  refine ⟨_, (pss_cons (ps_set (i := 4) sc_l_filled.nd rfl (Or.inl rfl) (pe_lst pa_nil))
      (pss_cons (ps_set (i := 5) sc_l_filled.nd rfl (Or.inl rfl) (pe_lst pa_nil))
      (pss_cons (ps_for PassesOwn.never rfl (k_iList K (by rfl) (pv 1)) (pg_name (i := 6) sc_l_filled.nd rfl (Or.inr rfl)) (pss_cons (ps_setLc (i := 10) (own := [("other", 14)]) (g := gName 14) (by rfl) sc_l_filled.nd rfl rfl (sw_true rfl rfl rfl (by decide +kernel)) (k_iList K (by rfl) (pv 1)) (blkOk_by (own := [("other", 14)]) (N := ["chain", "unknown", "known", "extra", "rows", "right", "one", "found", "values", "k", "row", "side", "goal", "chance", "other", "at"]) (sc := defScope s_l_filled) (by decide +kernel)) (fun _ _ _ _ _ => (pg_name (i := 14) sc_l_filled.nd rfl (Or.inl rfl))) (fun _ _ _ _ _ => pts_nil) (fun _ _ _ _ _ => (pe_tup (pa_cons (pe_callTy call_int1 (by rfl) T.z_int (by decide +kernel) (pa_cons (pe_cmpR op_eq (pv 14) (pv 6) (nomark _)) pa_nil)) (pa_cons pe_int pa_nil)))))
      (pss_cons (ps_set (i := 11) sc_l_filled.nd rfl (Or.inl rfl) (pe_ix (ixL K) (pv 3) (pv 6) (fun _ _ => rfl)))
      (pss_cons (ps_for PassesOwn.never rfl (k_iList K (by rfl) (pe_ix (ixT K) (pe_ix (ixL K) (pv 0) (pv 6) (fun _ _ => rfl)) pe_int (fun _ _ => rfl))) (k_gTup K (by rfl) (by rfl) (pgs_cons (pg_name (i := 12) sc_l_filled.nd rfl (Or.inl rfl)) (pgs_cons (pg_name (i := 13) sc_l_filled.nd rfl (Or.inl rfl)) pgs_nil))) (pss_one (ps_if (pt_cmpR (k_in K) (pv 12) (pv 1) rfl) (pss_cons (ps_set (i := 15) sc_l_filled.nd rfl (Or.inl rfl) (pe_bm PySem.F.plainAttrs_list PySem.F.slot_list_index PySem.F.type_list_index mt_index (pv 1) (pa_cons (pv 12) pa_nil)))
      (pss_one (ps_asg (pe_call G_l_plus hr_l_plus (by rfl) T.g_l_plus T.F_l_plus.kp T.b_l_plus .nil pass0 (pa_cons (pe_ix (ixL K) (pv 10) (pv 15) (fun _ _ => rfl)) (pa_cons (pe_tup (pa_cons (pe_op op_sub pe_int (pe_ix (ixT K) (pv 13) pe_int (fun _ _ => rfl))) (pa_cons (pe_ix (ixT K) (pv 13) pe_int (fun _ _ => rfl)) pa_nil))) pa_nil))) (pg_sub (pv 10) (pv 15) set_list)))) (pss_one (ps_set (i := 11) sc_l_filled.nd rfl (Or.inl rfl) (pe_call G_l_plus hr_l_plus (by rfl) T.g_l_plus T.F_l_plus.kp T.b_l_plus .nil pass0 (pa_cons (pv 11) (pa_cons (pe_call G_l_times hr_l_times (by rfl) T.g_l_times T.F_l_times.kp T.b_l_times .nil pass0 (pa_cons (pv 13) (pa_cons (pe_ix (ixL K) (pv 2) (pv 12) (fun _ _ => rfl)) pa_nil))) pa_nil))))))))
      (pss_cons (ps_expr (pe_bm PySem.F.plainAttrs_list PySem.F.slot_list_append PySem.F.type_list_append mt_append (pv 4) (pa_cons (pv 10) pa_nil)))
      (pss_one (ps_expr (pe_bm PySem.F.plainAttrs_list PySem.F.slot_list_append PySem.F.type_list_append mt_append (pv 5) (pa_cons (pv 11) pa_nil)))))))))
      (pss_cons (ps_set (i := 7) sc_l_filled.nd rfl (Or.inl rfl) (pe_call G_l_solve hr_l_solve (by rfl) T.g_l_solve T.F_l_solve.kp T.b_l_solve .nil pass0 (pa_cons (pv 4) (pa_cons (pv 5) pa_nil))))
      (pss_cons (ps_set (i := 8) sc_l_filled.nd rfl (Or.inl rfl) (pe_callTy (k_list K) (by rfl) T.z_list (by decide +kernel) (pa_cons (pv 2) pa_nil)))
      (pss_cons (ps_for PassesOwn.never rfl (pi_range1 (by rfl) T.z_range (pa_cons (pe_callB (k_len K) (by rfl) T.z_len (by decide +kernel) (pa_cons (pv 1) pa_nil)) pa_nil)) (pg_name (i := 9) sc_l_filled.nd rfl (Or.inl rfl)) (pss_one (ps_asg (pe_ix (ixL K) (pv 7) (pv 9) (fun _ _ => rfl)) (pg_sub (pv 8) (pe_ix (ixL K) (pv 1) (pv 9) (fun _ _ => rfl)) set_list))))
      (pss_one (ps_ret (pv 8))))))))), ?_⟩
  exact run_P (N := ["chain", "unknown", "known", "extra", "rows", "right", "one", "found", "values", "k", "row", "side", "goal", "chance", "other", "at"]) (f := body_l_filled) (fun _ => (st_seq (st_own (by decide) (f_lst s_nil))
      (st_seq (st_own (by decide) (f_lst s_nil))
      (st_seq (st_for (i_list s_var) (g_name (by decide)) (st_seq (st_own (by decide) (f_lc (by decide) (by decide) (i_list s_var) (fun _ => (g_name (by decide))) (fun _ => s_yes) (fun _ => (s_tup (s_cons (s_cb c_int (s_cons (s_op o_eq s_var s_var) s_nil)) (s_cons s_int s_nil))))))
      (st_seq (st_asg (s_op o_ixL s_var s_var) (g_name (by decide)))
      (st_seq (st_for (i_list (s_op o_ixT (s_op o_ixL s_var s_var) s_int)) (g_tup (g_cons (g_name (by decide)) (g_cons (g_name (by decide)) g_nil))) (st_if (s_tst (s_op o_in s_var s_var)) (st_seq (st_asg (s_index s_var s_var) (g_name (by decide)))
      (st_setI s_var (s_callP (s_cons (s_ixO s_var) (s_cons (s_tup (s_cons (s_op o_i0 s_int (s_op o_ixT s_var s_int)) (s_cons (s_op o_ixT s_var s_int) s_nil))) s_nil))))) (st_asg (s_callP (s_cons s_var (s_cons (s_callP (s_cons s_var (s_cons (s_op o_ixL s_var s_var) s_nil))) s_nil))) (g_name (by decide)))))
      (st_seq (st_frz (by decide) (st_drop (s_app s_var)))
      (st_drop (s_app s_var)))))))
      (st_seq (st_frz (by decide) (st_frz (by decide) (st_asg (s_callP (s_cons s_var (s_cons s_var s_nil))) (g_name (by decide)))))
      (st_seq (st_own (by decide) (f_list s_var))
      (st_seq (st_for (i_range1 (s_cons (s_cb c_len (s_cons s_var s_nil)) s_nil)) (g_name (by decide)) (st_setI (s_op o_ixL s_var s_var) (s_op o_ixL s_var s_var)))
      (st_frz (by decide) (st_ret s_var))))))))) h
theorem ok_l_chances {P : Program} {w : World} {K : PySem.W.Frag} {mg : Str → Option Value} {base : Heap} (T : Env K mg) : FnOk P w K mg base CX0 5 T.a_l_chances T.d_l_chances ["chain", "allowed", "targets"] (spP K 3 den_l_chances) := by
  refine T.F_l_chances.ok sc_l_chances (fun vs H Q E h => len_P h) (fun cdv A outer s H vs Q E hr h => ?_)
  have G_l_backward := ok_l_backward (P := P) (w := w) (base := base) T
  have hr_l_backward : Room 1 _ := hr.mono (by decide)
  have G_l_filled := ok_l_filled (P := P) (w := w) (base := base) T
  have hr_l_filled : Room 4 _ := hr.mono (by decide)
  refine ⟨_, (pss_cons (ps_set (i := 3) sc_l_chances.nd rfl (Or.inl rfl) (pe_callB (k_len K) (by rfl) T.z_len (by decide +kernel) (pa_cons (pv 0) pa_nil)))
      (pss_cons (ps_setLc (i := 4) (own := [("k", 7)]) (g := gName 7) (by rfl) sc_l_chances.nd rfl rfl (sw_true rfl rfl rfl (by decide +kernel)) (pi_range1 (by rfl) T.z_range (pa_cons (pv 3) pa_nil)) (blkOk_by (own := [("k", 7)]) (N := ["chain", "allowed", "targets", "many", "rest", "can", "known", "k"]) (sc := defScope s_l_chances) (by decide +kernel)) (fun _ _ _ _ _ => (pg_name (i := 7) sc_l_chances.nd rfl (Or.inl rfl))) (fun _ _ _ _ _ => (pts_one (PW.pt (pw_and (pt_cmpR (k_in K) (pv 7) (pv 1) rfl) (pw_and1 (pt_cmpR (k_notIn K) (pv 7) (pv 2) rfl)))))) (fun _ _ _ _ _ => (pv 7)))
      (pss_cons (ps_set (i := 5) sc_l_chances.nd rfl (Or.inr rfl) (pe_call G_l_backward hr_l_backward (by rfl) T.g_l_backward T.F_l_backward.kp T.b_l_backward .nil pass0 (pa_cons (pv 0) (pa_cons (pv 4) (pa_cons (pv 2) pa_nil)))))
      (pss_cons (ps_setLc (i := 6) (own := [("k", 7)]) (g := gName 7) (by rfl) sc_l_chances.nd rfl rfl (sw_true rfl rfl rfl (by decide +kernel)) (pi_range1 (by rfl) T.z_range (pa_cons (pv 3) pa_nil)) (blkOk_by (own := [("k", 7)]) (N := ["chain", "allowed", "targets", "many", "rest", "can", "known", "k"]) (sc := defScope s_l_chances) (by decide +kernel)) (fun _ _ _ _ _ => (pg_name (i := 7) sc_l_chances.nd rfl (Or.inl rfl))) (fun _ _ _ _ _ => pts_nil) (fun _ _ _ _ _ => (pe_tup (pa_cons (pe_callTy call_int1 (by rfl) T.z_int (by decide +kernel) (pa_cons (pe_cmpR (k_in K) (pv 7) (pv 2) rfl) pa_nil)) (pa_cons pe_int pa_nil)))))
      (pss_one (ps_ret (pe_call G_l_filled hr_l_filled (by rfl) T.g_l_filled T.F_l_filled.kp T.b_l_filled .nil pass0 (pa_cons (pv 0) (pa_cons (pe_lc (own := [("k", 7)]) (g := gName 7) (by rfl) sc_l_chances.nd (k_iList K (by rfl) (pv 4)) (blkOk_by (own := [("k", 7)]) (N := ["chain", "allowed", "targets", "many", "rest", "can", "known", "k"]) (sc := defScope s_l_chances) (by decide +kernel)) (fun _ _ _ _ _ => (pg_name (i := 7) sc_l_chances.nd rfl (Or.inl rfl))) (fun _ _ _ _ _ => (pts_one (pt_cmpR (k_in K) (pv 7) (pv 5) rfl))) (fun _ _ _ _ _ => (pv 7))) (pa_cons (pv 6) (pa_cons (pe_op op_rep (pe_lst (pa_cons (pe_tup (pa_cons pe_int (pa_cons pe_int pa_nil))) pa_nil)) (pv 3)) pa_nil))))))))))), ?_⟩
  exact run_P (N := ["chain", "allowed", "targets", "many", "rest", "can", "known", "k"]) (f := body_l_chances) (fun _ => (st_seq (st_asg (s_cb c_len (s_cons s_var s_nil)) (g_name (by decide)))
      (st_seq (st_asg (s_fr (f_lc (by decide) (by decide) (i_range1 (s_cons s_var s_nil)) (fun _ => (g_name (by decide))) (fun _ => (s_and (s_tst (s_op o_in s_var s_var)) (s_tst (s_op o_in s_var s_var)))) (fun _ => s_var))) (g_name (by decide)))
      (st_seq (st_asg (s_callP (s_cons s_var (s_cons s_var (s_cons s_var s_nil)))) (g_name (by decide)))
      (st_seq (st_asg (s_fr (f_lc (by decide) (by decide) (i_range1 (s_cons s_var s_nil)) (fun _ => (g_name (by decide))) (fun _ => s_yes) (fun _ => (s_tup (s_cons (s_cb c_int (s_cons (s_op o_in s_var s_var) s_nil)) (s_cons s_int s_nil)))))) (g_name (by decide)))
      (st_ret (s_callP (s_cons s_var (s_cons (s_fr (f_lc (by decide) (by decide) (i_list s_var) (fun _ => (g_name (by decide))) (fun _ => (s_tst (s_op o_in s_var s_var))) (fun _ => s_var))) (s_cons s_var (s_cons (s_op o_rep (s_lst (s_cons (s_tup (s_cons s_int (s_cons s_int s_nil))) s_nil)) s_var) s_nil))))))))))) h
theorem ok_l_thin {P : Program} {w : World} {K : PySem.W.Frag} {mg : Str → Option Value} {base : Heap} (T : Env K mg) : FnOk P w K mg base CX0 3 T.a_l_thin T.d_l_thin ["state", "many"] (spB K 1 den_l_thin) := by
  refine T.F_l_thin.ok sc_l_thin (fun vs H Q E h => len_B h) (fun cdv A outer s H vs Q E hr h => ?_)
  have G_l_take := ok_l_take (P := P) (w := w) (base := base) T
  have hr_l_take : Room 2 _ := hr.mono (by decide)
  refine ⟨_, (pss_cons (ps_set (i := 2) sc_l_thin.nd rfl (Or.inl rfl) (pe_lst pa_nil))
      (pss_cons (ps_for PassesOwn.never rfl (pi_range1 (by rfl) T.z_range (pa_cons (pv 1) pa_nil)) (pg_name (i := 3) sc_l_thin.nd rfl (Or.inl rfl)) (pss_cons (ps_set (i := 4) sc_l_thin.nd rfl (Or.inl rfl) (pe_lst pa_nil))
      (pss_cons (ps_for PassesOwn.never rfl (pi_range1 (by rfl) T.z_range (pa_cons (pe_op op_add pe_int (pe_call G_l_take hr_l_take (by rfl) T.g_l_take T.F_l_take.kp T.b_l_take .nil pass0 (pa_cons (pv 0) (pa_cons pe_int pa_nil)))) pa_nil)) (pg_name (i := 5) sc_l_thin.nd rfl (Or.inl rfl)) (pss_cons (ps_set (i := 6) sc_l_thin.nd rfl (Or.inl rfl) pe_dnewK)
      (pss_cons (ps_for PassesOwn.never rfl (pi_range1 (by rfl) T.z_range (pa_cons (pe_op op_add pe_int (pe_call G_l_take hr_l_take (by rfl) T.g_l_take T.F_l_take.kp T.b_l_take .nil pass0 (pa_cons (pv 0) (pa_cons pe_int pa_nil)))) pa_nil)) (pg_name (i := 7) sc_l_thin.nd rfl (Or.inl rfl)) (pss_one (ps_dput (hu_of hr) (pv 6) (pe_ix (ixL K) (pe_lst (pa_cons (pe_op op_modN (pe_callTy call_int1 (by rfl) T.z_int (by decide +kernel) (pa_cons (pe_op op_add (pv 3) pe_int) pa_nil)) (pv 1)) (pa_cons (pe_call G_l_take hr_l_take (by rfl) T.g_l_take T.F_l_take.kp T.b_l_take .nil pass0 (pa_cons (pv 0) (pa_cons (pv 1) pa_nil))) pa_nil))) (pe_call G_l_take hr_l_take (by rfl) T.g_l_take T.F_l_take.kp T.b_l_take .nil pass0 (pa_cons (pv 0) (pa_cons pe_int pa_nil))) (fun _ _ => rfl)) (pe_op op_add pe_int (pe_call G_l_take hr_l_take (by rfl) T.g_l_take T.F_l_take.kp T.b_l_take .nil pass0 (pa_cons (pv 0) (pa_cons pe_int pa_nil)))) rfl)))
      (pss_one (ps_expr (pe_bm PySem.F.plainAttrs_list PySem.F.slot_list_append PySem.F.type_list_append mt_append (pv 4) (pa_cons (pe_tup (pa_cons (pe_call G_l_take hr_l_take (by rfl) T.g_l_take T.F_l_take.kp T.b_l_take .nil pass0 (pa_cons (pv 0) (pa_cons pe_int pa_nil))) (pa_cons (pe_callTy (k_tuple K) (by rfl) T.z_tuple (by decide +kernel) (pa_cons (pe_callB (cr_sortK rfl) (by rfl) T.z_sorted (by decide +kernel) (pa_cons (pe_bm0 PySem.F.plainAttrs_dict PySem.F.slot_dict_items PySem.F.type_dict_items mt_itemsK (pv 6)) pa_nil)) pa_nil)) pa_nil))) pa_nil)))))))
      (pss_one (ps_expr (pe_bm PySem.F.plainAttrs_list PySem.F.slot_list_append PySem.F.type_list_append mt_append (pv 2) (pa_cons (pe_callTy (k_tuple K) (by rfl) T.z_tuple (by decide +kernel) (pa_cons (pv 4) pa_nil)) pa_nil)))))))
      (pss_one (ps_ret (pe_callTy (k_tuple K) (by rfl) T.z_tuple (by decide +kernel) (pa_cons (pv 2) pa_nil)))))), ?_⟩
  exact run_B (N := ["many", "system", "k", "choices", "number", "ends", "j"]) (f := body_l_thin) (fun _ => (st_seq (st_own (by decide) (f_lst s_nil))
      (st_seq (st_for (i_range1 (s_cons s_var s_nil)) (g_name (by decide)) (st_seq (st_own (by decide) (f_lst s_nil))
      (st_seq (st_for (i_range1 (s_cons (s_op o_i0 s_int (s_callB (s_cons s_int s_nil))) s_nil)) (g_name (by decide)) (st_seq (st_newD (by decide))
      (st_seq (st_for (i_range1 (s_cons (s_op o_i0 s_int (s_callB (s_cons s_int s_nil))) s_nil)) (g_name (by decide)) (st_putD (s_op o_ixL (s_lst (s_cons (s_op o_mod (s_cb c_int (s_cons (s_op o_i0 s_var s_int) s_nil)) s_var) (s_cons (s_callB (s_cons s_var s_nil)) s_nil))) (s_callB (s_cons s_int s_nil))) (s_op o_i0 s_int (s_callB (s_cons s_int s_nil)))))
      (st_drop (s_app (s_tup (s_cons (s_callB (s_cons s_int s_nil)) (s_cons (s_cb c_tuple (s_cons (s_fr f_sortK) s_nil)) s_nil))))))))
      (st_drop (s_app s_tupleO)))))
      (st_ret s_tupleO)))) h
theorem ok_l_chain {P : Program} {w : World} {K : PySem.W.Frag} {mg : Str → Option Value} {base : Heap} (T : Env K mg) : FnOk P w K mg base CX0 2 T.a_l_chain T.d_l_chain ["system", "policy"] (spP K 2 den_l_chain) := by
  refine T.F_l_chain.ok sc_l_chain (fun vs H Q E h => len_P h) (fun cdv A outer s H vs Q E hr h => ?_)
  have G_l_ratio := ok_l_ratio (P := P) (w := w) (base := base) T
  have hr_l_ratio : Room 1 _ := hr.mono (by decide)
  refine ⟨_, (pss_cons (ps_set (i := 2) sc_l_chain.nd rfl (Or.inl rfl) (pe_lst pa_nil))
      (pss_cons (ps_for PassesOwn.never rfl (pi_range1 (by rfl) T.z_range (pa_cons (pe_callB (k_len K) (by rfl) T.z_len (by decide +kernel) (pa_cons (pv 0) pa_nil)) pa_nil)) (pg_name (i := 3) sc_l_chain.nd rfl (Or.inl rfl)) (pss_cons (ps_asg (pe_ix (ixT K) (pe_ix (ixT K) (pv 0) (pv 3) (fun _ _ => rfl)) (pe_ix (ixT K) (pv 1) (pv 3) (fun _ _ => rfl)) (fun _ _ => rfl)) (k_gTup K (by rfl) (by rfl) (pgs_cons (pg_name (i := 5) sc_l_chain.nd rfl (Or.inl rfl)) (pgs_cons (pg_name (i := 6) sc_l_chain.nd rfl (Or.inl rfl)) pgs_nil))))
      (pss_cons (ps_set (i := 4) sc_l_chain.nd rfl (Or.inr rfl) (pe_callB (k_sum K (by rfl) rfl) (by rfl) T.z_sum (by decide +kernel) (pa_cons (pe_lc (own := [("end", 7)]) (g := gName 7) (by rfl) sc_l_chain.nd (k_iTup K (by rfl) (pv 6)) (blkOk_by (own := [("end", 7)]) (N := ["system", "policy", "chain", "k", "whole", "cost", "ends", "end"]) (sc := defScope s_l_chain) (by decide +kernel)) (fun _ _ _ _ _ => (pg_name (i := 7) sc_l_chain.nd rfl (Or.inl rfl))) (fun _ _ _ _ _ => pts_nil) (fun _ _ _ _ _ => (pe_ix (ixT K) (pv 7) pe_int (fun _ _ => rfl)))) pa_nil)))
      (pss_one (ps_expr (pe_bm PySem.F.plainAttrs_list PySem.F.slot_list_append PySem.F.type_list_append mt_append (pv 2) (pa_cons (pe_tup (pa_cons (pv 5) (pa_cons (pe_lc (own := [("end", 7)]) (g := gName 7) (by rfl) sc_l_chain.nd (k_iTup K (by rfl) (pv 6)) (blkOk_by (own := [("end", 7)]) (N := ["system", "policy", "chain", "k", "whole", "cost", "ends", "end"]) (sc := defScope s_l_chain) (by decide +kernel)) (fun _ _ _ _ _ => (pg_name (i := 7) sc_l_chain.nd rfl (Or.inl rfl))) (fun _ _ _ _ _ => pts_nil) (fun _ _ _ _ _ => (pe_tup (pa_cons (pe_ix (ixT K) (pv 7) pe_int (fun _ _ => rfl)) (pa_cons (pe_call G_l_ratio hr_l_ratio (by rfl) T.g_l_ratio T.F_l_ratio.kp T.b_l_ratio .nil pass0 (pa_cons (pe_ix (ixT K) (pv 7) pe_int (fun _ _ => rfl)) (pa_cons (pv 4) pa_nil))) pa_nil))))) pa_nil))) pa_nil)))))))
      (pss_one (ps_ret (pv 2))))), ?_⟩
  exact run_P (N := ["system", "policy", "chain", "k", "whole", "cost", "ends", "end"]) (f := body_l_chain) (fun _ => (st_seq (st_own (by decide) (f_lst s_nil))
      (st_seq (st_for (i_range1 (s_cons (s_cb c_len (s_cons s_var s_nil)) s_nil)) (g_name (by decide)) (st_seq (st_asg (s_op o_ixT (s_op o_ixT s_var s_var) (s_op o_ixT s_var s_var)) (g_tup (g_cons (g_name (by decide)) (g_cons (g_name (by decide)) g_nil))))
      (st_seq (st_asg (s_cb c_sum (s_cons (s_fr (f_lc (by decide) (by decide) (i_tup s_var) (fun _ => (g_name (by decide))) (fun _ => s_yes) (fun _ => (s_op o_ixT s_var s_int)))) s_nil)) (g_name (by decide)))
      (st_drop (s_app (s_tup (s_cons s_var (s_cons (s_fr (f_lc (by decide) (by decide) (i_tup s_var) (fun _ => (g_name (by decide))) (fun _ => s_yes) (fun _ => (s_tup (s_cons (s_op o_ixT s_var s_int) (s_cons (s_callP (s_cons (s_op o_ixT s_var s_int) (s_cons s_var s_nil))) s_nil)))))) s_nil))))))))
      (st_frz (by decide) (st_ret s_var))))) h
theorem ok_l_large {P : Program} {w : World} {K : PySem.W.Frag} {mg : Str → Option Value} {base : Heap} (T : Env K mg) : FnOk P w K mg base CX0 3 T.a_l_large T.d_l_large ["state", "many"] (spB K 1 den_l_large) := by
  refine T.F_l_large.ok sc_l_large (fun vs H Q E h => len_B h) (fun cdv A outer s H vs Q E hr h => ?_)
  have G_l_take := ok_l_take (P := P) (w := w) (base := base) T
  have hr_l_take : Room 2 _ := hr.mono (by decide)
  refine ⟨_, (pss_cons (ps_set (i := 2) sc_l_large.nd rfl (Or.inl rfl) (pe_lst pa_nil))
      (pss_cons (ps_for PassesOwn.never rfl (pi_range1 (by rfl) T.z_range (pa_cons (pv 1) pa_nil)) (pg_name (i := 3) sc_l_large.nd rfl (Or.inl rfl)) (pss_cons (ps_set (i := 4) sc_l_large.nd rfl (Or.inl rfl) (pe_lst pa_nil))
      (pss_cons (ps_for PassesOwn.never rfl (pi_range1 (by rfl) T.z_range (pa_cons (pe_ix (ixL K) (pe_lst (pa_cons pe_int (pa_cons pe_int (pa_cons pe_int pa_nil)))) (pe_call G_l_take hr_l_take (by rfl) T.g_l_take T.F_l_take.kp T.b_l_take .nil pass0 (pa_cons (pv 0) (pa_cons pe_int pa_nil))) (fun _ _ => rfl)) pa_nil)) (pg_name (i := 5) sc_l_large.nd rfl (Or.inl rfl)) (pss_cons (ps_set (i := 6) sc_l_large.nd rfl (Or.inl rfl) pe_dnewK)
      (pss_cons (ps_for PassesOwn.never rfl (pi_range1 (by rfl) T.z_range (pa_cons (pe_op op_add pe_int (pe_call G_l_take hr_l_take (by rfl) T.g_l_take T.F_l_take.kp T.b_l_take .nil pass0 (pa_cons (pv 0) (pa_cons pe_int pa_nil)))) pa_nil)) (pg_name (i := 7) sc_l_large.nd rfl (Or.inl rfl)) (pss_one (ps_dput (hu_of hr) (pv 6) (pe_call G_l_take hr_l_take (by rfl) T.g_l_take T.F_l_take.kp T.b_l_take .nil pass0 (pa_cons (pv 0) (pa_cons (pv 1) pa_nil))) (pe_ix (ixL K) (pe_lst (pa_cons pe_int (pa_cons pe_int (pa_cons pe_int (pa_cons pe_int (pa_cons pe_int pa_nil)))))) (pe_call G_l_take hr_l_take (by rfl) T.g_l_take T.F_l_take.kp T.b_l_take .nil pass0 (pa_cons (pv 0) (pa_cons pe_int pa_nil))) (fun _ _ => rfl)) rfl)))
      (pss_one (ps_expr (pe_bm PySem.F.plainAttrs_list PySem.F.slot_list_append PySem.F.type_list_append mt_append (pv 4) (pa_cons (pe_tup (pa_cons (pe_call G_l_take hr_l_take (by rfl) T.g_l_take T.F_l_take.kp T.b_l_take .nil pass0 (pa_cons (pv 0) (pa_cons pe_int pa_nil))) (pa_cons (pe_callTy (k_tuple K) (by rfl) T.z_tuple (by decide +kernel) (pa_cons (pe_callB (cr_sortK rfl) (by rfl) T.z_sorted (by decide +kernel) (pa_cons (pe_bm0 PySem.F.plainAttrs_dict PySem.F.slot_dict_items PySem.F.type_dict_items mt_itemsK (pv 6)) pa_nil)) pa_nil)) pa_nil))) pa_nil)))))))
      (pss_one (ps_expr (pe_bm PySem.F.plainAttrs_list PySem.F.slot_list_append PySem.F.type_list_append mt_append (pv 2) (pa_cons (pe_callTy (k_tuple K) (by rfl) T.z_tuple (by decide +kernel) (pa_cons (pv 4) pa_nil)) pa_nil)))))))
      (pss_one (ps_ret (pe_callTy (k_tuple K) (by rfl) T.z_tuple (by decide +kernel) (pa_cons (pv 2) pa_nil)))))), ?_⟩
  exact run_B (N := ["many", "system", "k", "choices", "number", "ends", "j"]) (f := body_l_large) (fun _ => (st_seq (st_own (by decide) (f_lst s_nil))
      (st_seq (st_for (i_range1 (s_cons s_var s_nil)) (g_name (by decide)) (st_seq (st_own (by decide) (f_lst s_nil))
      (st_seq (st_for (i_range1 (s_cons (s_op o_ixL (s_lst (s_cons s_int (s_cons s_int (s_cons s_int s_nil)))) (s_callB (s_cons s_int s_nil))) s_nil)) (g_name (by decide)) (st_seq (st_newD (by decide))
      (st_seq (st_for (i_range1 (s_cons (s_op o_i0 s_int (s_callB (s_cons s_int s_nil))) s_nil)) (g_name (by decide)) (st_putD (s_callB (s_cons s_var s_nil)) (s_op o_ixL (s_lst (s_cons s_int (s_cons s_int (s_cons s_int (s_cons s_int (s_cons s_int s_nil)))))) (s_callB (s_cons s_int s_nil)))))
      (st_drop (s_app (s_tup (s_cons (s_callB (s_cons s_int s_nil)) (s_cons (s_cb c_tuple (s_cons (s_fr f_sortK) s_nil)) s_nil))))))))
      (st_drop (s_app s_tupleO)))))
      (st_ret s_tupleO)))) h
theorem ok_chain_of {P : Program} {w : World} {K : PySem.W.Frag} {mg : Str → Option Value} {base : Heap} (T : Env K mg) : FnOk P w K mg base CX0 1 T.a_chain_of T.d_chain_of ["system", "policy"] (spP K 2 den_chain_of) := by
  refine T.F_chain_of.ok sc_chain_of (fun vs H Q E h => len_P h) (fun cdv A outer s H vs Q E hr h => ?_)
  refine ⟨_, (pss_one (ps_ret (pe_callTy (k_tuple K) (by rfl) T.z_tuple (by decide +kernel) (pa_cons (pe_lc (own := [("state", 2), ("choices", 3)]) (g := gTup K 2 (gCons (gName 2) (gCons (gName 3) gNil))) (by rfl) sc_chain_of.nd (pi_enumK .T (by rfl) T.z_enumerate (pa_cons (pv 0) pa_nil)) (blkOk_by (own := [("state", 2), ("choices", 3)]) (N := ["system", "policy", "state", "choices"]) (sc := defScope s_chain_of) (by decide +kernel)) (fun _ _ _ _ _ => (k_gTup K (by rfl) (by rfl) (pgs_cons (pg_name (i := 2) sc_chain_of.nd rfl (Or.inl rfl)) (pgs_cons (pg_name (i := 3) sc_chain_of.nd rfl (Or.inl rfl)) pgs_nil)))) (fun _ _ _ _ _ => pts_nil) (fun _ _ _ _ _ => (pe_tup (pa_cons (pe_ix (ixT K) (pv 3) (pe_ix (ixT K) (pv 1) (pv 2) (fun _ _ => rfl)) (fun _ _ => rfl)) pa_nil)))) pa_nil)))), ?_⟩
  exact run_P (N := ["system", "policy", "state", "choices"]) (f := body_chain_of) (fun _ => (st_ret (s_cb c_tuple (s_cons (s_fr (f_lc (by decide) (by decide) (i_enumK (s_cons s_var s_nil)) (fun _ => (g_tup (g_cons (g_name (by decide)) (g_cons (g_name (by decide)) g_nil)))) (fun _ => s_yes) (fun _ => (s_tup (s_cons (s_op o_ixT s_var (s_op o_ixT s_var s_var)) s_nil))))) s_nil)))) h
theorem ok_at_targets {P : Program} {w : World} {K : PySem.W.Frag} {mg : Str → Option Value} {base : Heap} (T : Env K mg) : FnOk P w K mg base CX0 1 T.a_at_targets T.d_at_targets ["chain", "targets", "inside", "elsewhere"] (spP K 4 den_at_targets) := by
  refine T.F_at_targets.ok sc_at_targets (fun vs H Q E h => len_P h) (fun cdv A outer s H vs Q E hr h => ?_)
  refine ⟨_, (pss_one (ps_ret (pe_lc (own := [("state", 4)]) (g := gName 4) (by rfl) sc_at_targets.nd (pi_range1 (by rfl) T.z_range (pa_cons (pe_callB (k_len K) (by rfl) T.z_len (by decide +kernel) (pa_cons (pv 0) pa_nil)) pa_nil)) (blkOk_by (own := [("state", 4)]) (N := ["chain", "targets", "inside", "elsewhere", "state"]) (sc := defScope s_at_targets) (by decide +kernel)) (fun _ _ _ _ _ => (pg_name (i := 4) sc_at_targets.nd rfl (Or.inl rfl))) (fun _ _ _ _ _ => pts_nil) (fun _ _ _ _ _ => (pe_ifExp (pt_cmpR (k_in K) (pv 4) (pv 1) rfl) (pv 2) (pv 3)))))), ?_⟩
  exact run_P (N := ["chain", "targets", "inside", "elsewhere", "state"]) (f := body_at_targets) (fun _ => (st_ret (s_fr (f_lc (by decide) (by decide) (i_range1 (s_cons (s_cb c_len (s_cons s_var s_nil)) s_nil)) (fun _ => (g_name (by decide))) (fun _ => s_yes) (fun _ => (s_if (s_tst (s_op o_in s_var s_var)) s_var s_var)))))) h
theorem ok_ratio {P : Program} {w : World} {K : PySem.W.Frag} {mg : Str → Option Value} {base : Heap} (T : Env K mg) : FnOk P w K mg base CX0 1 T.a_ratio T.d_ratio ["n", "d"] (spP K 2 den_ratio) := by
  refine T.F_ratio.ok sc_ratio (fun vs H Q E h => len_P h) (fun cdv A outer s H vs Q E hr h => ?_)
  refine ⟨_, (pss_cons (ps_set (i := 2) sc_ratio.nd rfl (Or.inl rfl) (pe_callBfun cr_gcd (by rfl) T.z_gcd (pa_cons (pv 0) (pa_cons (pv 1) pa_nil))))
      (pss_cons (ps_if (pt_cmpR op_lt (pv 1) pe_int (nomark _)) (pss_one (ps_set (i := 2) sc_ratio.nd rfl (Or.inl rfl) (pe_un un_neg (pv 2)))) pss_nil)
      (pss_one (ps_ret (pe_tup (pa_cons (pe_op op_fdivX (pv 0) (pv 2)) (pa_cons (pe_op op_fdivX (pv 1) (pv 2)) pa_nil))))))), ?_⟩
  exact run_P (N := ["n", "d", "shared"]) (f := body_ratio) (fun _ => (st_seq (st_asg (s_cb c_gcd (s_cons s_var (s_cons s_var s_nil))) (g_name (by decide)))
      (st_seq (st_if (s_tst (s_op o_ib s_var s_int)) (st_asg (s_neg s_var) (g_name (by decide))) st_next)
      (st_ret (s_tup (s_cons (s_op o_fdiv s_var s_var) (s_cons (s_op o_fdiv s_var s_var) s_nil))))))) h
theorem ok_substituted {P : Program} {w : World} {K : PySem.W.Frag} {mg : Str → Option Value} {base : Heap} (T : Env K mg) : FnOk P w K mg base CX0 2 T.a_substituted T.d_substituted ["steps", "scale"] (spP K 2 den_substituted) := by
  refine T.F_substituted.ok sc_substituted (fun vs H Q E h => len_P h) (fun cdv A outer s H vs Q E hr h => ?_)
  have G_ratio := ok_ratio (P := P) (w := w) (base := base) T
  have hr_ratio : Room 1 _ := hr.mono (by decide)
  refine ⟨_, (pss_cons (ps_set (i := 2) sc_substituted.nd rfl (Or.inl rfl) (pe_lst pa_nil))
      (pss_cons (ps_for PassesOwn.never rfl (pi_reversed (by rfl) T.z_reversed (pa_cons (pv 0) pa_nil)) (pg_name (i := 3) sc_substituted.nd rfl (Or.inl rfl)) (pss_cons (ps_set (i := 4) sc_substituted.nd rfl (Or.inl rfl) (pe_op op_sub (pe_op op_mulW (pv 1) (pe_ix (ixL K) (pv 3) (pe_un un_neg pe_int) (fun _ _ => rfl))) (pe_callB (k_sum K (by rfl) rfl) (by rfl) T.z_sum (by decide +kernel) (pa_cons (pe_lc (own := [("n", 6), ("value", 5)]) (g := gTup K 2 (gCons (gName 6) (gCons (gName 5) gNil))) (by rfl) sc_substituted.nd (pi_zipK .L .L (by rfl) T.z_zip (pa_cons (pe_slice (k_slL K) (pv 3) (po_some pe_int) po_none) (pa_cons (pv 2) pa_nil))) (blkOk_by (own := [("n", 6), ("value", 5)]) (N := ["steps", "scale", "scaled", "step", "rest", "value", "n"]) (sc := defScope s_substituted) (by decide +kernel)) (fun _ _ _ _ _ => (k_gTup K (by rfl) (by rfl) (pgs_cons (pg_name (i := 6) sc_substituted.nd rfl (Or.inl rfl)) (pgs_cons (pg_name (i := 5) sc_substituted.nd rfl (Or.inl rfl)) pgs_nil)))) (fun _ _ _ _ _ => pts_nil) (fun _ _ _ _ _ => (pe_op op_mulW (pv 6) (pv 5)))) pa_nil))))
      (pss_one (ps_set (i := 2) sc_substituted.nd rfl (Or.inl rfl) (pe_op op_cat (pe_lst (pa_cons (pe_op op_fdivX (pv 4) (pe_ix (ixL K) (pv 3) pe_int (fun _ _ => rfl))) pa_nil)) (pv 2))))))
      (pss_one (ps_ret (pe_lc (own := [("value", 5)]) (g := gName 5) (by rfl) sc_substituted.nd (k_iList K (by rfl) (pv 2)) (blkOk_by (own := [("value", 5)]) (N := ["steps", "scale", "scaled", "step", "rest", "value", "n"]) (sc := defScope s_substituted) (by decide +kernel)) (fun _ _ _ _ _ => (pg_name (i := 5) sc_substituted.nd rfl (Or.inl rfl))) (fun _ _ _ _ _ => pts_nil) (fun _ _ _ _ _ => (pe_call G_ratio hr_ratio (by rfl) T.g_ratio T.F_ratio.kp T.b_ratio .nil pass0 (pa_cons (pv 5) (pa_cons (pv 1) pa_nil))))))))), ?_⟩
  exact run_P (N := ["steps", "scale", "scaled", "step", "rest", "value", "n"]) (f := body_substituted) (fun _ => (st_seq (st_asg (s_lst s_nil) (g_name (by decide)))
      (st_seq (st_for (i_rev s_var) (g_name (by decide)) (st_seq (st_asg (s_op o_i0 (s_op o_mul s_var (s_op o_ixL s_var (s_neg s_int))) (s_cb c_sum (s_cons (s_fr (f_lc (by decide) (by decide) (i_zipK (s_cons (s_sl l_slL s_var (s_part s_int) s_noPart) (s_cons s_var s_nil))) (fun _ => (g_tup (g_cons (g_name (by decide)) (g_cons (g_name (by decide)) g_nil)))) (fun _ => s_yes) (fun _ => (s_op o_mul s_var s_var)))) s_nil))) (g_name (by decide)))
      (st_asg (s_op o_cat (s_lst (s_cons (s_op o_fdiv s_var (s_op o_ixL s_var s_int)) s_nil)) s_var) (g_name (by decide)))))
      (st_ret (s_fr (f_lc (by decide) (by decide) (i_list s_var) (fun _ => (g_name (by decide))) (fun _ => s_yes) (fun _ => (s_callP (s_cons s_var (s_cons s_var s_nil)))))))))) h
theorem ok_whole_row {P : Program} {w : World} {K : PySem.W.Frag} {mg : Str → Option Value} {base : Heap} (T : Env K mg) : FnOk P w K mg base CX0 1 T.a_whole_row T.d_whole_row ["row"] (spP K 1 den_whole_row) := by
  refine T.F_whole_row.ok sc_whole_row (fun vs H Q E h => len_P h) (fun cdv A outer s H vs Q E hr h => ?_)
  refine ⟨_, (pss_cons (ps_set (i := 1) sc_whole_row.nd rfl (Or.inr rfl) pe_int)
      (pss_cons (ps_for PassesOwn.never rfl (k_iList K (by rfl) (pv 0)) (k_gTup K (by rfl) (by rfl) (pgs_cons (pg_name (i := 2) sc_whole_row.nd rfl (Or.inl rfl)) (pgs_cons (pg_name (i := 3) sc_whole_row.nd rfl (Or.inl rfl)) pgs_nil))) (pss_one (ps_set (i := 1) sc_whole_row.nd rfl (Or.inr rfl) (pe_callBfun cr_lcm (by rfl) T.z_lcm (pa_cons (pv 1) (pa_cons (pv 3) pa_nil))))))
      (pss_one (ps_ret (pe_lc (own := [("n", 4), ("d", 3)]) (g := gTup K 2 (gCons (gName 4) (gCons (gName 3) gNil))) (by rfl) sc_whole_row.nd (k_iList K (by rfl) (pv 0)) (blkOk_by (own := [("n", 4), ("d", 3)]) (N := ["row", "common", "_", "d", "n"]) (sc := defScope s_whole_row) (by decide +kernel)) (fun _ _ _ _ _ => (k_gTup K (by rfl) (by rfl) (pgs_cons (pg_name (i := 4) sc_whole_row.nd rfl (Or.inl rfl)) (pgs_cons (pg_name (i := 3) sc_whole_row.nd rfl (Or.inl rfl)) pgs_nil)))) (fun _ _ _ _ _ => pts_nil) (fun _ _ _ _ _ => (pe_op op_mulW (pv 4) (pe_op op_fdivX (pv 1) (pv 3))))))))), ?_⟩
  exact run_P (N := ["row", "common", "_", "d", "n"]) (f := body_whole_row) (fun _ => (st_seq (st_asg s_int (g_name (by decide)))
      (st_seq (st_for (i_list s_var) (g_tup (g_cons (g_name (by decide)) (g_cons (g_name (by decide)) g_nil))) (st_asg (s_cb c_lcm (s_cons s_var (s_cons s_var s_nil))) (g_name (by decide))))
      (st_ret (s_fr (f_lc (by decide) (by decide) (i_list s_var) (fun _ => (g_tup (g_cons (g_name (by decide)) (g_cons (g_name (by decide)) g_nil)))) (fun _ => s_yes) (fun _ => (s_op o_mul s_var (s_op o_fdiv s_var s_var))))))))) h
theorem ok_first_with_unknown {P : Program} {w : World} {K : PySem.W.Frag} {mg : Str → Option Value} {base : Heap} (T : Env K mg) : FnOk P w K mg base CX0 1 T.a_first_with_unknown T.d_first_with_unknown ["table"] (spP K 1 den_first_with_unknown) := by
  refine T.F_first_with_unknown.ok sc_first_with_unknown (fun vs H Q E h => len_P h) (fun cdv A outer s H vs Q E hr h => ?_)
  refine ⟨_, (pss_cons (ps_for PassesOwn.never rfl (pi_enumK .L (by rfl) T.z_enumerate (pa_cons (pv 0) pa_nil)) (k_gTup K (by rfl) (by rfl) (pgs_cons (pg_name (i := 1) sc_first_with_unknown.nd rfl (Or.inl rfl)) (pgs_cons (pg_name (i := 2) sc_first_with_unknown.nd rfl (Or.inl rfl)) pgs_nil))) (pss_one (ps_if (pt_cmpR op_ne (pe_ix (ixL K) (pv 2) pe_int (fun _ _ => rfl)) pe_int (nomark _)) (pss_one (ps_ret (pv 1))) pss_nil)))
      (pss_one (ps_ret pe_non))), ?_⟩
  exact run_P (N := ["table", "at", "row"]) (f := body_first_with_unknown) (fun _ => (st_seq (st_for (i_enumK (s_cons s_var s_nil)) (g_tup (g_cons (g_name (by decide)) (g_cons (g_name (by decide)) g_nil))) (st_if (s_tst (s_op o_ne (s_op o_ixL s_var s_int) s_int)) (st_ret s_var) st_next))
      (st_ret s_non))) h
theorem ok_without_unknown {P : Program} {w : World} {K : PySem.W.Frag} {mg : Str → Option Value} {base : Heap} (T : Env K mg) : FnOk P w K mg base CX0 1 T.a_without_unknown T.d_without_unknown ["row", "step", "before"] (spP K 3 den_without_unknown) := by
  refine T.F_without_unknown.ok sc_without_unknown (fun vs H Q E h => len_P h) (fun cdv A outer s H vs Q E hr h => ?_)
  refine ⟨_, (pss_one (ps_ret (pe_lc (own := [("mine", 3), ("other", 4)]) (g := gTup K 2 (gCons (gName 3) (gCons (gName 4) gNil))) (by rfl) sc_without_unknown.nd (pi_zipK .L .L (by rfl) T.z_zip (pa_cons (pe_slice (k_slL K) (pv 0) (po_some pe_int) po_none) (pa_cons (pe_slice (k_slL K) (pv 1) (po_some pe_int) po_none) pa_nil))) (blkOk_by (own := [("mine", 3), ("other", 4)]) (N := ["row", "step", "before", "mine", "other"]) (sc := defScope s_without_unknown) (by decide +kernel)) (fun _ _ _ _ _ => (k_gTup K (by rfl) (by rfl) (pgs_cons (pg_name (i := 3) sc_without_unknown.nd rfl (Or.inl rfl)) (pgs_cons (pg_name (i := 4) sc_without_unknown.nd rfl (Or.inl rfl)) pgs_nil)))) (fun _ _ _ _ _ => pts_nil) (fun _ _ _ _ _ => (pe_op op_fdivX (pe_op op_sub (pe_op op_mulW (pe_ix (ixL K) (pv 1) pe_int (fun _ _ => rfl)) (pv 3)) (pe_op op_mulW (pe_ix (ixL K) (pv 0) pe_int (fun _ _ => rfl)) (pv 4))) (pv 2)))))), ?_⟩
  exact run_P (N := ["row", "step", "before", "mine", "other"]) (f := body_without_unknown) (fun _ => (st_ret (s_fr (f_lc (by decide) (by decide) (i_zipK (s_cons (s_sl l_slL s_var (s_part s_int) s_noPart) (s_cons (s_sl l_slL s_var (s_part s_int) s_noPart) s_nil))) (fun _ => (g_tup (g_cons (g_name (by decide)) (g_cons (g_name (by decide)) g_nil)))) (fun _ => s_yes) (fun _ => (s_op o_fdiv (s_op o_i0 (s_op o_mul (s_op o_ixL s_var s_int) s_var) (s_op o_mul (s_op o_ixL s_var s_int) s_var)) s_var)))))) h
theorem ok_solve {P : Program} {w : World} {K : PySem.W.Frag} {mg : Str → Option Value} {base : Heap} (T : Env K mg) : FnOk P w K mg base CX0 3 T.a_solve T.d_solve ["rows", "right"] (spP K 2 den_solve) := by
  refine T.F_solve.ok sc_solve (fun vs H Q E h => len_P h) (fun cdv A outer s H vs Q E hr h => ?_)
  have G_substituted := ok_substituted (P := P) (w := w) (base := base) T
  have hr_substituted : Room 2 _ := hr.mono (by decide)
  have G_whole_row := ok_whole_row (P := P) (w := w) (base := base) T
  have hr_whole_row : Room 1 _ := hr.mono (by decide)
  have G_first_with_unknown := ok_first_with_unknown (P := P) (w := w) (base := base) T
  have hr_first_with_unknown : Room 1 _ := hr.mono (by decide)
  have G_without_unknown := ok_without_unknown (P := P) (w := w) (base := base) T
  have hr_without_unknown : Room 1 _ := hr.mono (by decide)
  refine ⟨_, (pss_cons (ps_setLc (i := 2) (own := [("row", 7), ("value", 8)]) (g := gTup K 2 (gCons (gName 7) (gCons (gName 8) gNil))) (by rfl) sc_solve.nd rfl rfl (sw_true rfl rfl rfl (by decide +kernel)) (pi_zipK .L .L (by rfl) T.z_zip (pa_cons (pv 0) (pa_cons (pv 1) pa_nil))) (blkOk_by (own := [("row", 7), ("value", 8)]) (N := ["rows", "right", "table", "steps", "before", "at", "step", "row", "value"]) (sc := defScope s_solve) (by decide +kernel)) (fun _ _ _ _ _ => (k_gTup K (by rfl) (by rfl) (pgs_cons (pg_name (i := 7) sc_solve.nd rfl (Or.inl rfl)) (pgs_cons (pg_name (i := 8) sc_solve.nd rfl (Or.inl rfl)) pgs_nil)))) (fun _ _ _ _ _ => pts_nil) (fun _ _ _ _ _ => (pe_call G_whole_row hr_whole_row (by rfl) T.g_whole_row T.F_whole_row.kp T.b_whole_row .nil pass0 (pa_cons (pe_lst (k_star K (by rfl) (pv 7) (pa_cons (pv 8) pa_nil))) pa_nil))))
      (pss_cons (ps_set (i := 3) sc_solve.nd rfl (Or.inl rfl) (pe_lst pa_nil))
      (pss_cons (ps_set (i := 4) sc_solve.nd rfl (Or.inr rfl) pe_int)
      (pss_cons (ps_while PassesOwn.never (k_truth K (by rfl) (pv 2) (by intro _; rfl)) (pss_cons (ps_set (i := 5) sc_solve.nd rfl (Or.inl rfl) (pe_call G_first_with_unknown hr_first_with_unknown (by rfl) T.g_first_with_unknown T.F_first_with_unknown.kp T.b_first_with_unknown .nil pass0 (pa_cons (pv 2) pa_nil)))
      (pss_cons (ps_if (pt_cmpR op_isN (pv 5) pe_non (nomark _)) (pss_one (ps_ret pe_non)) pss_nil)
      (pss_cons (ps_set (i := 6) sc_solve.nd rfl (Or.inr rfl) (pe_ix (ixL K) (pv 2) (pv 5) (fun _ _ => rfl)))
      (pss_cons (ps_expr (pe_bm PySem.F.plainAttrs_list PySem.F.slot_list_append PySem.F.type_list_append mt_append (pv 3) (pa_cons (pv 6) pa_nil)))
      (pss_cons (ps_setLc (i := 2) (own := [("row", 7)]) (g := gName 7) (by rfl) sc_solve.nd rfl rfl (sw_true rfl rfl rfl (by decide +kernel)) (k_iList K (by rfl) (pe_op op_cat (pe_slice (k_slL K) (pv 2) po_none (po_some (pv 5))) (pe_slice (k_slL K) (pv 2) (po_some (pe_op op_add (pv 5) pe_int)) po_none))) (blkOk_by (own := [("row", 7)]) (N := ["rows", "right", "table", "steps", "before", "at", "step", "row", "value"]) (sc := defScope s_solve) (by decide +kernel)) (fun _ _ _ _ _ => (pg_name (i := 7) sc_solve.nd rfl (Or.inl rfl))) (fun _ _ _ _ _ => pts_nil) (fun _ _ _ _ _ => (pe_call G_without_unknown hr_without_unknown (by rfl) T.g_without_unknown T.F_without_unknown.kp T.b_without_unknown .nil pass0 (pa_cons (pv 7) (pa_cons (pv 6) (pa_cons (pv 4) pa_nil))))))
      (pss_one (ps_set (i := 4) sc_solve.nd rfl (Or.inr rfl) (pe_ix (ixL K) (pv 6) pe_int (fun _ _ => rfl))))))))))
      (pss_one (ps_ret (pe_call G_substituted hr_substituted (by rfl) T.g_substituted T.F_substituted.kp T.b_substituted .nil pass0 (pa_cons (pv 3) (pa_cons (pv 4) pa_nil))))))))), ?_⟩
  exact run_P (N := ["rows", "right", "table", "steps", "before", "at", "step", "row", "value"]) (f := body_solve) (fun _ => (st_seq (st_asg (s_fr (f_lc (by decide) (by decide) (i_zipK (s_cons s_var (s_cons s_var s_nil))) (fun _ => (g_tup (g_cons (g_name (by decide)) (g_cons (g_name (by decide)) g_nil)))) (fun _ => s_yes) (fun _ => (s_callP (s_cons (s_lst (s_star s_var (s_cons s_var s_nil))) s_nil))))) (g_name (by decide)))
      (st_seq (st_own (by decide) (f_lst s_nil))
      (st_seq (st_asg s_int (g_name (by decide)))
      (st_seq (st_while (s_tru s_var) (st_seq (st_asg (s_callP (s_cons s_var s_nil)) (g_name (by decide)))
      (st_seq (st_if (s_tst (s_op o_isN s_var s_non)) (st_ret s_non) st_next)
      (st_seq (st_asg (s_op o_ixL s_var s_var) (g_name (by decide)))
      (st_seq (st_drop (s_app s_var))
      (st_seq (st_asg (s_fr (f_lc (by decide) (by decide) (i_list (s_op o_cat (s_sl l_slL s_var s_noPart (s_part s_var)) (s_sl l_slL s_var (s_part (s_op o_i0 s_var s_int)) s_noPart))) (fun _ => (g_name (by decide))) (fun _ => s_yes) (fun _ => (s_callP (s_cons s_var (s_cons s_var (s_cons s_var s_nil))))))) (g_name (by decide)))
      (st_asg (s_op o_ixL s_var s_int) (g_name (by decide)))))))))
      (st_frz (by decide) (st_ret (s_callP (s_cons s_var (s_cons s_var s_nil)))))))))) h
theorem ok_moves {P : Program} {w : World} {K : PySem.W.Frag} {mg : Str → Option Value} {base : Heap} (T : Env K mg) : FnOk P w K mg base CX0 2 T.a_moves T.d_moves ["system", "state", "choice"] (spP K 3 den_moves) := by
  refine T.F_moves.ok sc_moves (fun vs H Q E h => len_P h) (fun cdv A outer s H vs Q E hr h => ?_)
  have G_ratio := ok_ratio (P := P) (w := w) (base := base) T
  have hr_ratio : Room 1 _ := hr.mono (by decide)
  refine ⟨_, (pss_cons (ps_asg (pe_ix (ixT K) (pe_ix (ixT K) (pv 0) (pv 1) (fun _ _ => rfl)) (pv 2) (fun _ _ => rfl)) (k_gTup K (by rfl) (by rfl) (pgs_cons (pg_name (i := 4) sc_moves.nd rfl (Or.inl rfl)) (pgs_cons (pg_name (i := 5) sc_moves.nd rfl (Or.inl rfl)) pgs_nil))))
      (pss_cons (ps_set (i := 3) sc_moves.nd rfl (Or.inr rfl) (pe_callB (k_sum K (by rfl) rfl) (by rfl) T.z_sum (by decide +kernel) (pa_cons (pe_lc (own := [("end", 6), ("weight", 7)]) (g := gTup K 2 (gCons (gName 6) (gCons (gName 7) gNil))) (by rfl) sc_moves.nd (k_iTup K (by rfl) (pv 5)) (blkOk_by (own := [("end", 6), ("weight", 7)]) (N := ["system", "state", "choice", "total", "_", "ends", "end", "weight"]) (sc := defScope s_moves) (by decide +kernel)) (fun _ _ _ _ _ => (k_gTup K (by rfl) (by rfl) (pgs_cons (pg_name (i := 6) sc_moves.nd rfl (Or.inl rfl)) (pgs_cons (pg_name (i := 7) sc_moves.nd rfl (Or.inl rfl)) pgs_nil)))) (fun _ _ _ _ _ => pts_nil) (fun _ _ _ _ _ => (pv 7))) pa_nil)))
      (pss_one (ps_ret (pe_lc (own := [("end", 6), ("weight", 7)]) (g := gTup K 2 (gCons (gName 6) (gCons (gName 7) gNil))) (by rfl) sc_moves.nd (k_iTup K (by rfl) (pv 5)) (blkOk_by (own := [("end", 6), ("weight", 7)]) (N := ["system", "state", "choice", "total", "_", "ends", "end", "weight"]) (sc := defScope s_moves) (by decide +kernel)) (fun _ _ _ _ _ => (k_gTup K (by rfl) (by rfl) (pgs_cons (pg_name (i := 6) sc_moves.nd rfl (Or.inl rfl)) (pgs_cons (pg_name (i := 7) sc_moves.nd rfl (Or.inl rfl)) pgs_nil)))) (fun _ _ _ _ _ => pts_nil) (fun _ _ _ _ _ => (pe_tup (pa_cons (pv 6) (pa_cons (pe_call G_ratio hr_ratio (by rfl) T.g_ratio T.F_ratio.kp T.b_ratio .nil pass0 (pa_cons (pv 7) (pa_cons (pv 3) pa_nil))) pa_nil))))))))), ?_⟩
  exact run_P (N := ["system", "state", "choice", "total", "_", "ends", "end", "weight"]) (f := body_moves) (fun _ => (st_seq (st_asg (s_op o_ixT (s_op o_ixT s_var s_var) s_var) (g_tup (g_cons (g_name (by decide)) (g_cons (g_name (by decide)) g_nil))))
      (st_seq (st_asg (s_cb c_sum (s_cons (s_fr (f_lc (by decide) (by decide) (i_tup s_var) (fun _ => (g_tup (g_cons (g_name (by decide)) (g_cons (g_name (by decide)) g_nil)))) (fun _ => s_yes) (fun _ => s_var))) s_nil)) (g_name (by decide)))
      (st_ret (s_fr (f_lc (by decide) (by decide) (i_tup s_var) (fun _ => (g_tup (g_cons (g_name (by decide)) (g_cons (g_name (by decide)) g_nil)))) (fun _ => s_yes) (fun _ => (s_tup (s_cons s_var (s_cons (s_callP (s_cons s_var (s_cons s_var s_nil))) s_nil)))))))))) h
theorem ok_minus {P : Program} {w : World} {K : PySem.W.Frag} {mg : Str → Option Value} {base : Heap} (T : Env K mg) : FnOk P w K mg base CX0 2 T.a_minus T.d_minus ["a", "b"] (spP K 2 den_minus) := by
  refine T.F_minus.ok sc_minus (fun vs H Q E h => len_P h) (fun cdv A outer s H vs Q E hr h => ?_)
  have G_ratio := ok_ratio (P := P) (w := w) (base := base) T
  have hr_ratio : Room 1 _ := hr.mono (by decide)
  refine ⟨_, (pss_one (ps_ret (pe_call G_ratio hr_ratio (by rfl) T.g_ratio T.F_ratio.kp T.b_ratio .nil pass0 (pa_cons (pe_op op_sub (pe_op op_mulW (pe_ix (ixT K) (pv 0) pe_int (fun _ _ => rfl)) (pe_ix (ixT K) (pv 1) pe_int (fun _ _ => rfl))) (pe_op op_mulW (pe_ix (ixT K) (pv 1) pe_int (fun _ _ => rfl)) (pe_ix (ixT K) (pv 0) pe_int (fun _ _ => rfl)))) (pa_cons (pe_op op_mulW (pe_ix (ixT K) (pv 0) pe_int (fun _ _ => rfl)) (pe_ix (ixT K) (pv 1) pe_int (fun _ _ => rfl))) pa_nil))))), ?_⟩
  exact run_P (N := ["a", "b"]) (f := body_minus) (fun _ => (st_ret (s_callP (s_cons (s_op o_i0 (s_op o_mul (s_op o_ixT s_var s_int) (s_op o_ixT s_var s_int)) (s_op o_mul (s_op o_ixT s_var s_int) (s_op o_ixT s_var s_int))) (s_cons (s_op o_mul (s_op o_ixT s_var s_int) (s_op o_ixT s_var s_int)) s_nil))))) h
theorem ok_own_row {P : Program} {w : World} {K : PySem.W.Frag} {mg : Str → Option Value} {base : Heap} (T : Env K mg) : FnOk P w K mg base CX0 3 T.a_own_row T.d_own_row ["chain", "asked", "state"] (spP K 3 den_own_row) := by
  refine T.F_own_row.ok sc_own_row (fun vs H Q E h => len_P h) (fun cdv A outer s H vs Q E hr h => ?_)
  have G_moves := ok_moves (P := P) (w := w) (base := base) T
  have hr_moves : Room 2 _ := hr.mono (by decide)
  have G_minus := ok_minus (P := P) (w := w) (base := base) T
  have hr_minus : Room 2 _ := hr.mono (by decide)
  refine ⟨_, (pss_cons (ps_set (i := 3) sc_own_row.nd rfl (Or.inl rfl) (pe_callTy (k_dictP K (by rfl) rfl) (by rfl) T.z_dict (by decide +kernel) (pa_cons (pe_call G_moves hr_moves (by rfl) T.g_moves T.F_moves.kp T.b_moves .nil pass0 (pa_cons (pv 0) (pa_cons (pv 2) (pa_cons pe_int pa_nil)))) pa_nil)))
      (pss_cons (ps_set (i := 4) sc_own_row.nd rfl (Or.inl rfl) (pe_lst pa_nil))
      (pss_cons (ps_for PassesOwn.never rfl (k_iList K (by rfl) (pv 1)) (pg_name (i := 5) sc_own_row.nd rfl (Or.inl rfl)) (pss_cons (ps_set (i := 6) sc_own_row.nd rfl (Or.inl rfl) (pe_ifExp (pt_cmpR op_eq (pv 5) (pv 2) (nomark _)) (pe_tup (pa_cons pe_int (pa_cons pe_int pa_nil))) (pe_tup (pa_cons pe_int (pa_cons pe_int pa_nil)))))
      (pss_one (ps_expr (pe_bm PySem.F.plainAttrs_list PySem.F.slot_list_append PySem.F.type_list_append mt_append (pv 4) (pa_cons (pe_call G_minus hr_minus (by rfl) T.g_minus T.F_minus.kp T.b_minus .nil pass0 (pa_cons (pv 6) (pa_cons (pe_dget2 (hu_of hr) (pv 3) (pv 5) (pe_tup (pa_cons pe_int (pa_cons pe_int pa_nil))) ⟨by rfl, by rfl, by rfl, by rfl⟩) pa_nil))) pa_nil))))))
      (pss_one (ps_ret (pv 4)))))), ?_⟩
  exact run_P (N := ["chain", "asked", "state", "chances", "row", "other", "one"]) (f := body_own_row) (fun _ => (st_seq (st_dictL (by decide) (s_callP (s_cons s_var (s_cons s_var (s_cons s_int s_nil)))))
      (st_seq (st_own (by decide) (f_lst s_nil))
      (st_seq (st_for (i_list s_var) (g_name (by decide)) (st_seq (st_asg (s_if (s_tst (s_op o_eq s_var s_var)) (s_tup (s_cons s_int (s_cons s_int s_nil))) (s_tup (s_cons s_int (s_cons s_int s_nil)))) (g_name (by decide)))
      (st_drop (s_app (s_callP (s_cons s_var (s_cons (s_get2 s_var (s_tup (s_cons s_int (s_cons s_int s_nil)))) s_nil)))))))
      (st_frz (by decide) (st_ret s_var)))))) h
theorem ok_plus {P : Program} {w : World} {K : PySem.W.Frag} {mg : Str → Option Value} {base : Heap} (T : Env K mg) : FnOk P w K mg base CX0 2 T.a_plus T.d_plus ["a", "b"] (spP K 2 den_plus) := by
  refine T.F_plus.ok sc_plus (fun vs H Q E h => len_P h) (fun cdv A outer s H vs Q E hr h => ?_)
  have G_ratio := ok_ratio (P := P) (w := w) (base := base) T
  have hr_ratio : Room 1 _ := hr.mono (by decide)
  refine ⟨_, (pss_one (ps_ret (pe_call G_ratio hr_ratio (by rfl) T.g_ratio T.F_ratio.kp T.b_ratio .nil pass0 (pa_cons (pe_op op_add (pe_op op_mulW (pe_ix (ixT K) (pv 0) pe_int (fun _ _ => rfl)) (pe_ix (ixT K) (pv 1) pe_int (fun _ _ => rfl))) (pe_op op_mulW (pe_ix (ixT K) (pv 1) pe_int (fun _ _ => rfl)) (pe_ix (ixT K) (pv 0) pe_int (fun _ _ => rfl)))) (pa_cons (pe_op op_mulW (pe_ix (ixT K) (pv 0) pe_int (fun _ _ => rfl)) (pe_ix (ixT K) (pv 1) pe_int (fun _ _ => rfl))) pa_nil))))), ?_⟩
  exact run_P (N := ["a", "b"]) (f := body_plus) (fun _ => (st_ret (s_callP (s_cons (s_op o_i0 (s_op o_mul (s_op o_ixT s_var s_int) (s_op o_ixT s_var s_int)) (s_op o_mul (s_op o_ixT s_var s_int) (s_op o_ixT s_var s_int))) (s_cons (s_op o_mul (s_op o_ixT s_var s_int) (s_op o_ixT s_var s_int)) s_nil))))) h
theorem ok_times {P : Program} {w : World} {K : PySem.W.Frag} {mg : Str → Option Value} {base : Heap} (T : Env K mg) : FnOk P w K mg base CX0 2 T.a_times T.d_times ["a", "b"] (spP K 2 den_times) := by
  refine T.F_times.ok sc_times (fun vs H Q E h => len_P h) (fun cdv A outer s H vs Q E hr h => ?_)
  have G_ratio := ok_ratio (P := P) (w := w) (base := base) T
  have hr_ratio : Room 1 _ := hr.mono (by decide)
  refine ⟨_, (pss_one (ps_ret (pe_call G_ratio hr_ratio (by rfl) T.g_ratio T.F_ratio.kp T.b_ratio .nil pass0 (pa_cons (pe_op op_mulW (pe_ix (ixT K) (pv 0) pe_int (fun _ _ => rfl)) (pe_ix (ixT K) (pv 1) pe_int (fun _ _ => rfl))) (pa_cons (pe_op op_mulW (pe_ix (ixT K) (pv 0) pe_int (fun _ _ => rfl)) (pe_ix (ixT K) (pv 1) pe_int (fun _ _ => rfl))) pa_nil))))), ?_⟩
  exact run_P (N := ["a", "b"]) (f := body_times) (fun _ => (st_ret (s_callP (s_cons (s_op o_mul (s_op o_ixT s_var s_int) (s_op o_ixT s_var s_int)) (s_cons (s_op o_mul (s_op o_ixT s_var s_int) (s_op o_ixT s_var s_int)) s_nil))))) h
theorem ok_outside_part {P : Program} {w : World} {K : PySem.W.Frag} {mg : Str → Option Value} {base : Heap} (T : Env K mg) : FnOk P w K mg base CX0 3 T.a_outside_part T.d_outside_part ["chain", "values", "asked", "paid", "state"] (spP K 5 den_outside_part) := by
  refine T.F_outside_part.ok sc_outside_part (fun vs H Q E h => len_P h) (fun cdv A outer s H vs Q E hr h => ?_)
  have G_moves := ok_moves (P := P) (w := w) (base := base) T
  have hr_moves : Room 2 _ := hr.mono (by decide)
  have G_plus := ok_plus (P := P) (w := w) (base := base) T
  have hr_plus : Room 2 _ := hr.mono (by decide)
  have G_times := ok_times (P := P) (w := w) (base := base) T
  have hr_times : Room 2 _ := hr.mono (by decide)
  refine ⟨_, (pss_cons (ps_set (i := 5) sc_outside_part.nd rfl (Or.inl rfl) (pe_ix (ixL K) (pv 3) (pv 4) (fun _ _ => rfl)))
      (pss_cons (ps_for PassesOwn.never rfl (k_iList K (by rfl) (pe_call G_moves hr_moves (by rfl) T.g_moves T.F_moves.kp T.b_moves .nil pass0 (pa_cons (pv 0) (pa_cons (pv 4) (pa_cons pe_int pa_nil))))) (k_gTup K (by rfl) (by rfl) (pgs_cons (pg_name (i := 6) sc_outside_part.nd rfl (Or.inl rfl)) (pgs_cons (pg_name (i := 7) sc_outside_part.nd rfl (Or.inl rfl)) pgs_nil))) (pss_one (ps_if (pt_cmpR (k_notIn K) (pv 6) (pv 2) rfl) (pss_one (ps_set (i := 5) sc_outside_part.nd rfl (Or.inl rfl) (pe_call G_plus hr_plus (by rfl) T.g_plus T.F_plus.kp T.b_plus .nil pass0 (pa_cons (pv 5) (pa_cons (pe_call G_times hr_times (by rfl) T.g_times T.F_times.kp T.b_times .nil pass0 (pa_cons (pv 7) (pa_cons (pe_ix (ixL K) (pv 1) (pv 6) (fun _ _ => rfl)) pa_nil))) pa_nil))))) pss_nil)))
      (pss_one (ps_ret (pv 5))))), ?_⟩
  exact run_P (N := ["chain", "values", "asked", "paid", "state", "total", "end", "chance"]) (f := body_outside_part) (fun _ => (st_seq (st_asg (s_op o_ixL s_var s_var) (g_name (by decide)))
      (st_seq (st_for (i_list (s_callP (s_cons s_var (s_cons s_var (s_cons s_int s_nil))))) (g_tup (g_cons (g_name (by decide)) (g_cons (g_name (by decide)) g_nil))) (st_if (s_tst (s_op o_in s_var s_var)) (st_asg (s_callP (s_cons s_var (s_cons (s_callP (s_cons s_var (s_cons (s_op o_ixL s_var s_var) s_nil))) s_nil))) (g_name (by decide))) st_next))
      (st_ret s_var)))) h
theorem ok_settled {P : Program} {w : World} {K : PySem.W.Frag} {mg : Str → Option Value} {base : Heap} (T : Env K mg) : FnOk P w K mg base CX0 4 T.a_settled T.d_settled ["chain", "values", "asked", "paid"] (spP K 4 den_settled) := by
  refine T.F_settled.ok sc_settled (fun vs H Q E h => len_P h) (fun cdv A outer s H vs Q E hr h => ?_)
  have G_solve := ok_solve (P := P) (w := w) (base := base) T
  have hr_solve : Room 3 _ := hr.mono (by decide)
  have G_own_row := ok_own_row (P := P) (w := w) (base := base) T
  have hr_own_row : Room 3 _ := hr.mono (by decide)
  have G_outside_part := ok_outside_part (P := P) (w := w) (base := base) T
  have hr_outside_part : Room 3 _ := hr.mono (by decide)
  refine ⟨_, (pss_cons (ps_set (i := 4) sc_settled.nd rfl (Or.inl rfl) (pe_callTy (k_list K) (by rfl) T.z_list (by decide +kernel) (pa_cons (pv 1) pa_nil)))
      (pss_cons (ps_set (i := 5) sc_settled.nd rfl (Or.inl rfl) (pe_call G_solve hr_solve (by rfl) T.g_solve T.F_solve.kp T.b_solve .nil pass0 (pa_cons (pe_lc (own := [("state", 6)]) (g := gName 6) (by rfl) sc_settled.nd (k_iList K (by rfl) (pv 2)) (blkOk_by (own := [("state", 6)]) (N := ["chain", "values", "asked", "paid", "found", "solution", "state", "value"]) (sc := defScope s_settled) (by decide +kernel)) (fun _ _ _ _ _ => (pg_name (i := 6) sc_settled.nd rfl (Or.inl rfl))) (fun _ _ _ _ _ => pts_nil) (fun _ _ _ _ _ => (pe_call G_own_row hr_own_row (by rfl) T.g_own_row T.F_own_row.kp T.b_own_row .nil pass0 (pa_cons (pv 0) (pa_cons (pv 2) (pa_cons (pv 6) pa_nil)))))) (pa_cons (pe_lc (own := [("state", 6)]) (g := gName 6) (by rfl) sc_settled.nd (k_iList K (by rfl) (pv 2)) (blkOk_by (own := [("state", 6)]) (N := ["chain", "values", "asked", "paid", "found", "solution", "state", "value"]) (sc := defScope s_settled) (by decide +kernel)) (fun _ _ _ _ _ => (pg_name (i := 6) sc_settled.nd rfl (Or.inl rfl))) (fun _ _ _ _ _ => pts_nil) (fun _ _ _ _ _ => (pe_call G_outside_part hr_outside_part (by rfl) T.g_outside_part T.F_outside_part.kp T.b_outside_part .nil pass0 (pa_cons (pv 0) (pa_cons (pv 1) (pa_cons (pv 2) (pa_cons (pv 3) (pa_cons (pv 6) pa_nil)))))))) pa_nil))))
      (pss_cons (ps_for PassesOwn.never rfl (pi_zipK .L .L (by rfl) T.z_zip (pa_cons (pv 2) (pa_cons (pv 5) pa_nil))) (k_gTup K (by rfl) (by rfl) (pgs_cons (pg_name (i := 6) sc_settled.nd rfl (Or.inl rfl)) (pgs_cons (pg_name (i := 7) sc_settled.nd rfl (Or.inl rfl)) pgs_nil))) (pss_one (ps_asg (pv 7) (pg_sub (pv 4) (pv 6) set_list))))
      (pss_one (ps_ret (pv 4)))))), ?_⟩
  exact run_P (N := ["chain", "values", "asked", "paid", "found", "solution", "state", "value"]) (f := body_settled) (fun _ => (st_seq (st_own (by decide) (f_list s_var))
      (st_seq (st_asg (s_callP (s_cons (s_fr (f_lc (by decide) (by decide) (i_list s_var) (fun _ => (g_name (by decide))) (fun _ => s_yes) (fun _ => (s_callP (s_cons s_var (s_cons s_var (s_cons s_var s_nil))))))) (s_cons (s_fr (f_lc (by decide) (by decide) (i_list s_var) (fun _ => (g_name (by decide))) (fun _ => s_yes) (fun _ => (s_callP (s_cons s_var (s_cons s_var (s_cons s_var (s_cons s_var (s_cons s_var s_nil))))))))) s_nil))) (g_name (by decide)))
      (st_seq (st_for (i_zipK (s_cons s_var (s_cons s_var s_nil))) (g_tup (g_cons (g_name (by decide)) (g_cons (g_name (by decide)) g_nil))) (st_setI s_var s_var))
      (st_frz (by decide) (st_ret s_var)))))) h
theorem ok_choices_on_way {P : Program} {w : World} {K : PySem.W.Frag} {mg : Str → Option Value} {base : Heap} (T : Env K mg) : FnOk P w K mg base CX0 1 T.a_choices_on_way T.d_choices_on_way ["system", "allowed", "targets"] (spP K 3 den_choices_on_way) := by
  refine T.F_choices_on_way.ok sc_choices_on_way (fun vs H Q E h => len_P h) (fun cdv A outer s H vs Q E hr h => ?_)
  refine ⟨_, (pss_cons (ps_set (i := 3) sc_choices_on_way.nd rfl (Or.inl rfl) (pe_lst pa_nil))
      (pss_cons (ps_for PassesOwn.never rfl (pi_enumK .T (by rfl) T.z_enumerate (pa_cons (pv 0) pa_nil)) (k_gTup K (by rfl) (by rfl) (pgs_cons (pg_name (i := 4) sc_choices_on_way.nd rfl (Or.inl rfl)) (pgs_cons (pg_name (i := 5) sc_choices_on_way.nd rfl (Or.inl rfl)) pgs_nil))) (pss_cons (ps_set (i := 6) sc_choices_on_way.nd rfl (Or.inl rfl) (pe_and (pe_cmpR (k_in K) (pv 4) (pv 1) rfl) (pe_one (pe_cmpR (k_notIn K) (pv 4) (pv 2) rfl))))
      (pss_one (ps_expr (pe_bm PySem.F.plainAttrs_list PySem.F.slot_list_append PySem.F.type_list_append mt_append (pv 3) (pa_cons (pe_ifExp (pt_val (pv 6)) (pe_listRg (by rfl) (by rfl) T.z_list (prg_1 (by rfl) T.z_range (pe_callB (k_len K) (by rfl) T.z_len (by decide +kernel) (pa_cons (pv 5) pa_nil)))) (pe_lst pa_nil)) pa_nil))))))
      (pss_one (ps_ret (pv 3))))), ?_⟩
  exact run_P (N := ["system", "allowed", "targets", "usable", "state", "choices", "on_way"]) (f := body_choices_on_way) (fun _ => (st_seq (st_own (by decide) (f_lst s_nil))
      (st_seq (st_for (i_enumK (s_cons s_var s_nil)) (g_tup (g_cons (g_name (by decide)) (g_cons (g_name (by decide)) g_nil))) (st_seq (st_asg (s_andV (s_op o_in s_var s_var) (s_op o_in s_var s_var)) (g_name (by decide)))
      (st_drop (s_app (s_if (s_tB s_var) (s_fr (f_listRg (s_cb c_len (s_cons s_var s_nil)))) (s_lst s_nil))))))
      (st_frz (by decide) (st_ret s_var))))) h
theorem ok_found_states {P : Program} {w : World} {K : PySem.W.Frag} {mg : Str → Option Value} {base : Heap} (T : Env K mg) : FnOk P w K mg base CX0 1 T.a_found_states T.d_found_states ["found"] (spP K 1 den_found_states) := by
  refine T.F_found_states.ok sc_found_states (fun vs H Q E h => len_P h) (fun cdv A outer s H vs Q E hr h => ?_)
  refine ⟨_, (pss_one (ps_ret (pe_lc (own := [("state", 1), ("level", 2)]) (g := gTup K 2 (gCons (gName 1) (gCons (gName 2) gNil))) (by rfl) sc_found_states.nd (pi_enumK .L (by rfl) T.z_enumerate (pa_cons (pv 0) pa_nil)) (blkOk_by (own := [("state", 1), ("level", 2)]) (N := ["found", "state", "level"]) (sc := defScope s_found_states) (by decide +kernel)) (fun _ _ _ _ _ => (k_gTup K (by rfl) (by rfl) (pgs_cons (pg_name (i := 1) sc_found_states.nd rfl (Or.inl rfl)) (pgs_cons (pg_name (i := 2) sc_found_states.nd rfl (Or.inl rfl)) pgs_nil)))) (fun _ _ _ _ _ => (pts_one (pt_cmpR op_notN (pv 2) pe_non (nomark _)))) (fun _ _ _ _ _ => (pv 1))))), ?_⟩
  exact run_P (N := ["found", "state", "level"]) (f := body_found_states) (fun _ => (st_ret (s_fr (f_lc (by decide) (by decide) (i_enumK (s_cons s_var s_nil)) (fun _ => (g_tup (g_cons (g_name (by decide)) (g_cons (g_name (by decide)) g_nil)))) (fun _ => (s_tst (s_op o_notN s_var s_non))) (fun _ => s_var))))) h
theorem ok_leads_into {P : Program} {w : World} {K : PySem.W.Frag} {mg : Str → Option Value} {base : Heap} (T : Env K mg) : FnOk P w K mg base CX0 1 T.a_leads_into T.d_leads_into ["choice", "found"] (spP K 2 den_leads_into) := by
  refine T.F_leads_into.ok sc_leads_into (fun vs H Q E h => len_P h) (fun cdv A outer s H vs Q E hr h => ?_)
  refine ⟨_, (pss_one (ps_ret (pe_callB (k_any K (by rfl) rfl) (by rfl) T.z_any (by decide +kernel) (pa_cons (pe_lc (own := [("end", 2), ("_", 3)]) (g := gTup K 2 (gCons (gName 2) (gCons (gName 3) gNil))) (by rfl) sc_leads_into.nd (k_iTup K (by rfl) (pe_ix (ixT K) (pv 0) pe_int (fun _ _ => rfl))) (blkOk_by (own := [("end", 2), ("_", 3)]) (N := ["choice", "found", "end", "_"]) (sc := defScope s_leads_into) (by decide +kernel)) (fun _ _ _ _ _ => (k_gTup K (by rfl) (by rfl) (pgs_cons (pg_name (i := 2) sc_leads_into.nd rfl (Or.inl rfl)) (pgs_cons (pg_name (i := 3) sc_leads_into.nd rfl (Or.inl rfl)) pgs_nil)))) (fun _ _ _ _ _ => pts_nil) (fun _ _ _ _ _ => (pe_cmpR op_notN (pe_ix (ixL K) (pv 1) (pv 2) (fun _ _ => rfl)) pe_non (nomark _)))) pa_nil)))), ?_⟩
  exact run_P (N := ["choice", "found", "end", "_"]) (f := body_leads_into) (fun _ => (st_ret (s_cb c_any (s_cons (s_fr (f_lc (by decide) (by decide) (i_tup (s_op o_ixT s_var s_int)) (fun _ => (g_tup (g_cons (g_name (by decide)) (g_cons (g_name (by decide)) g_nil)))) (fun _ => s_yes) (fun _ => (s_op o_notN (s_op o_ixL s_var s_var) s_non)))) s_nil)))) h
theorem ok_joins {P : Program} {w : World} {K : PySem.W.Frag} {mg : Str → Option Value} {base : Heap} (T : Env K mg) : FnOk P w K mg base CX0 2 T.a_joins T.d_joins ["choices", "numbers", "found", "every"] (spP K 4 den_joins) := by
  refine T.F_joins.ok sc_joins (fun vs H Q E h => len_P h) (fun cdv A outer s H vs Q E hr h => ?_)
  have G_leads_into := ok_leads_into (P := P) (w := w) (base := base) T
  have hr_leads_into : Room 1 _ := hr.mono (by decide)
  refine ⟨_, (pss_cons (ps_setLc (i := 4) (own := [("number", 5)]) (g := gName 5) (by rfl) sc_joins.nd rfl rfl (sw_true rfl rfl rfl (by decide +kernel)) (k_iList K (by rfl) (pv 1)) (blkOk_by (own := [("number", 5)]) (N := ["choices", "numbers", "found", "every", "hits", "number"]) (sc := defScope s_joins) (by decide +kernel)) (fun _ _ _ _ _ => (pg_name (i := 5) sc_joins.nd rfl (Or.inl rfl))) (fun _ _ _ _ _ => pts_nil) (fun _ _ _ _ _ => (pe_call G_leads_into hr_leads_into (by rfl) T.g_leads_into T.F_leads_into.kp T.b_leads_into .nil pass0 (pa_cons (pe_ix (ixT K) (pv 0) (pv 5) (fun _ _ => rfl)) (pa_cons (pv 2) pa_nil)))))
      (pss_cons (ps_if (pt_val (pv 3)) (pss_one (ps_ret (pe_and (pe_cmpR (k_neD K (by rfl) hr.units) (pv 1) (pe_lst pa_nil) (nomark _)) (pe_one (pe_callB (k_all K (by rfl) rfl) (by rfl) T.z_all (by decide +kernel) (pa_cons (pv 4) pa_nil)))))) pss_nil)
      (pss_one (ps_ret (pe_callB (k_any K (by rfl) rfl) (by rfl) T.z_any (by decide +kernel) (pa_cons (pv 4) pa_nil)))))), ?_⟩
  exact run_P (N := ["choices", "numbers", "found", "every", "hits", "number"]) (f := body_joins) (fun _ => (st_seq (st_asg (s_fr (f_lc (by decide) (by decide) (i_list s_var) (fun _ => (g_name (by decide))) (fun _ => s_yes) (fun _ => (s_callP (s_cons (s_op o_ixT s_var s_var) (s_cons s_var s_nil)))))) (g_name (by decide)))
      (st_seq (st_if (s_tB s_var) (st_ret (s_andV (s_op o_neD s_var (s_lst s_nil)) (s_cb c_all (s_cons s_var s_nil)))) st_next)
      (st_ret (s_cb c_any (s_cons s_var s_nil)))))) h
theorem ok_levels {P : Program} {w : World} {K : PySem.W.Frag} {mg : Str → Option Value} {base : Heap} (T : Env K mg) : FnOk P w K mg base CX0 3 T.a_levels T.d_levels ["system", "usable", "goals", "every"] (spP K 4 den_levels) := by
  refine T.F_levels.ok sc_levels (fun vs H Q E h => len_P h) (fun cdv A outer s H vs Q E hr h => ?_)
  have G_joins := ok_joins (P := P) (w := w) (base := base) T
  have hr_joins : Room 2 _ := hr.mono (by decide)
  refine ⟨_, (pss_cons (ps_set (i := 4) sc_levels.nd rfl (Or.inr rfl) (pe_op op_rep (pe_lst (pa_cons pe_non pa_nil)) (pe_callB (k_len K) (by rfl) T.z_len (by decide +kernel) (pa_cons (pv 0) pa_nil))))
      (pss_cons (ps_for PassesOwn.never rfl (k_iList K (by rfl) (pv 2)) (pg_name (i := 5) sc_levels.nd rfl (Or.inl rfl)) (pss_one (ps_asg pe_int (pg_sub (pv 4) (pv 5) set_list))))
      (pss_cons (ps_set (i := 6) sc_levels.nd rfl (Or.inl rfl) pe_int)
      (pss_cons (ps_while PassesOwn.never (pt_cmpR (k_in K) (pv 6) (pv 4) rfl) (pss_cons (ps_aug (i := 6) sc_levels.nd rfl (Or.inl rfl) pe_int ip_add)
      (pss_cons (ps_setLc (i := 7) (own := [("state", 5), ("level", 8)]) (g := gTup K 2 (gCons (gName 5) (gCons (gName 8) gNil))) (by rfl) sc_levels.nd rfl rfl (sw_true rfl rfl rfl (by decide +kernel)) (pi_enumK .L (by rfl) T.z_enumerate (pa_cons (pv 4) pa_nil)) (blkOk_by (own := [("state", 5), ("level", 8)]) (N := ["system", "usable", "goals", "every", "found", "state", "rounds", "fresh", "level"]) (sc := defScope s_levels) (by decide +kernel)) (fun _ _ _ _ _ => (k_gTup K (by rfl) (by rfl) (pgs_cons (pg_name (i := 5) sc_levels.nd rfl (Or.inl rfl)) (pgs_cons (pg_name (i := 8) sc_levels.nd rfl (Or.inl rfl)) pgs_nil)))) (fun _ _ _ _ _ => (pts_one (PW.pt (pw_and (pt_cmpR op_isN (pv 8) pe_non (nomark _)) (pw_and1 (pt_val (pe_call G_joins hr_joins (by rfl) T.g_joins T.F_joins.kp T.b_joins .nil pass0 (pa_cons (pe_ix (ixT K) (pv 0) (pv 5) (fun _ _ => rfl)) (pa_cons (pe_ix (ixL K) (pv 1) (pv 5) (fun _ _ => rfl)) (pa_cons (pv 4) (pa_cons (pv 3) pa_nil))))))))))) (fun _ _ _ _ _ => (pv 5)))
      (pss_one (ps_for PassesOwn.never rfl (k_iList K (by rfl) (pv 7)) (pg_name (i := 5) sc_levels.nd rfl (Or.inl rfl)) (pss_one (ps_asg (pv 6) (pg_sub (pv 4) (pv 5) set_list))))))))
      (pss_one (ps_ret (pv 4))))))), ?_⟩
  exact run_P (N := ["system", "usable", "goals", "every", "found", "state", "rounds", "fresh", "level"]) (f := body_levels) (fun _ => (st_seq (st_own (by decide) (f_rep (s_lst (s_cons s_non s_nil)) (s_cb c_len (s_cons s_var s_nil))))
      (st_seq (st_for (i_list s_var) (g_name (by decide)) (st_setI s_var s_int))
      (st_seq (st_asg s_int (g_name (by decide)))
      (st_seq (st_while (s_tst (s_inO s_var)) (st_seq (st_aug (by decide) s_int)
      (st_seq (st_asg (s_fr (f_lcO (by decide) (by decide) (by decide) io_enum (fun _ => (g_tup (g_cons (g_name (by decide)) (g_cons (g_name (by decide)) g_nil)))) (fun _ => (s_and (s_tst (s_op o_isN s_var s_non)) (s_tB (s_callL (sl_cons (s_op o_ixT s_var s_var) (sl_cons (s_op o_ixL s_var s_var) (sl_own (sl_cons s_var sl_nil)))))))) (fun _ => s_var))) (g_name (by decide)))
      (st_for (i_list s_var) (g_name (by decide)) (st_setI s_var s_var)))))
      (st_frz (by decide) (st_ret s_var))))))) h
theorem ok_possible {P : Program} {w : World} {K : PySem.W.Frag} {mg : Str → Option Value} {base : Heap} (T : Env K mg) : FnOk P w K mg base CX0 4 T.a_possible T.d_possible ["system", "allowed", "targets"] (spP K 3 den_possible) := by
  refine T.F_possible.ok sc_possible (fun vs H Q E h => len_P h) (fun cdv A outer s H vs Q E hr h => ?_)
  have G_choices_on_way := ok_choices_on_way (P := P) (w := w) (base := base) T
  have hr_choices_on_way : Room 1 _ := hr.mono (by decide)
  have G_found_states := ok_found_states (P := P) (w := w) (base := base) T
  have hr_found_states : Room 1 _ := hr.mono (by decide)
  have G_levels := ok_levels (P := P) (w := w) (base := base) T
  have hr_levels : Room 3 _ := hr.mono (by decide)
  refine ⟨_, (pss_cons (ps_set (i := 3) sc_possible.nd rfl (Or.inl rfl) (pe_call G_choices_on_way hr_choices_on_way (by rfl) T.g_choices_on_way T.F_choices_on_way.kp T.b_choices_on_way .nil pass0 (pa_cons (pv 0) (pa_cons (pv 1) (pa_cons (pv 2) pa_nil)))))
      (pss_one (ps_ret (pe_call G_found_states hr_found_states (by rfl) T.g_found_states T.F_found_states.kp T.b_found_states .nil pass0 (pa_cons (pe_call G_levels hr_levels (by rfl) T.g_levels T.F_levels.kp T.b_levels .nil pass0 (pa_cons (pv 0) (pa_cons (pv 3) (pa_cons (pv 2) (pa_cons pe_bl pa_nil))))) pa_nil))))), ?_⟩
  exact run_P (N := ["system", "allowed", "targets", "usable"]) (f := body_possible) (fun _ => (st_seq (st_asg (s_callP (s_cons s_var (s_cons s_var (s_cons s_var s_nil)))) (g_name (by decide)))
      (st_ret (s_callP (s_cons (s_callP (s_cons s_var (s_cons s_var (s_cons s_var (s_cons s_bl s_nil))))) s_nil))))) h
theorem ok_policy_chances {P : Program} {w : World} {K : PySem.W.Frag} {mg : Str → Option Value} {base : Heap} (T : Env K mg) : FnOk P w K mg base CX0 5 T.a_policy_chances T.d_policy_chances ["system", "policy", "allowed", "targets"] (spP K 4 den_policy_chances) := by
  refine T.F_policy_chances.ok sc_policy_chances (fun vs H Q E h => len_P h) (fun cdv A outer s H vs Q E hr h => ?_)
  have G_chain_of := ok_chain_of (P := P) (w := w) (base := base) T
  have hr_chain_of : Room 1 _ := hr.mono (by decide)
  have G_at_targets := ok_at_targets (P := P) (w := w) (base := base) T
  have hr_at_targets : Room 1 _ := hr.mono (by decide)
  have G_settled := ok_settled (P := P) (w := w) (base := base) T
  have hr_settled : Room 4 _ := hr.mono (by decide)
  have G_possible := ok_possible (P := P) (w := w) (base := base) T
  have hr_possible : Room 4 _ := hr.mono (by decide)
  refine ⟨_, (pss_cons (ps_set (i := 4) sc_policy_chances.nd rfl (Or.inl rfl) (pe_call G_chain_of hr_chain_of (by rfl) T.g_chain_of T.F_chain_of.kp T.b_chain_of .nil pass0 (pa_cons (pv 0) (pa_cons (pv 1) pa_nil))))
      (pss_cons (ps_set (i := 5) sc_policy_chances.nd rfl (Or.inl rfl) (pe_call G_at_targets hr_at_targets (by rfl) T.g_at_targets T.F_at_targets.kp T.b_at_targets .nil pass0 (pa_cons (pv 4) (pa_cons (pv 3) (pa_cons (pe_tup (pa_cons pe_int (pa_cons pe_int pa_nil))) (pa_cons (pe_tup (pa_cons pe_int (pa_cons pe_int pa_nil))) pa_nil))))))
      (pss_cons (ps_setLc (i := 6) (own := [("state", 7)]) (g := gName 7) (by rfl) sc_policy_chances.nd rfl rfl (sw_true rfl rfl rfl (by decide +kernel)) (k_iList K (by rfl) (pe_call G_possible hr_possible (by rfl) T.g_possible T.F_possible.kp T.b_possible .nil pass0 (pa_cons (pv 4) (pa_cons (pv 2) (pa_cons (pv 3) pa_nil))))) (blkOk_by (own := [("state", 7)]) (N := ["system", "policy", "allowed", "targets", "chain", "values", "hopeful", "state"]) (sc := defScope s_policy_chances) (by decide +kernel)) (fun _ _ _ _ _ => (pg_name (i := 7) sc_policy_chances.nd rfl (Or.inl rfl))) (fun _ _ _ _ _ => (pts_one (pt_cmpR (k_notIn K) (pv 7) (pv 3) rfl))) (fun _ _ _ _ _ => (pv 7)))
      (pss_one (ps_ret (pe_call G_settled hr_settled (by rfl) T.g_settled T.F_settled.kp T.b_settled .nil pass0 (pa_cons (pv 4) (pa_cons (pv 5) (pa_cons (pv 6) (pa_cons (pe_op op_rep (pe_lst (pa_cons (pe_tup (pa_cons pe_int (pa_cons pe_int pa_nil))) pa_nil)) (pe_callB (k_len K) (by rfl) T.z_len (by decide +kernel) (pa_cons (pv 4) pa_nil))) pa_nil)))))))))), ?_⟩
  exact run_P (N := ["system", "policy", "allowed", "targets", "chain", "values", "hopeful", "state"]) (f := body_policy_chances) (fun _ => (st_seq (st_asg (s_callP (s_cons s_var (s_cons s_var s_nil))) (g_name (by decide)))
      (st_seq (st_asg (s_callP (s_cons s_var (s_cons s_var (s_cons (s_tup (s_cons s_int (s_cons s_int s_nil))) (s_cons (s_tup (s_cons s_int (s_cons s_int s_nil))) s_nil))))) (g_name (by decide)))
      (st_seq (st_asg (s_fr (f_lc (by decide) (by decide) (i_list (s_callP (s_cons s_var (s_cons s_var (s_cons s_var s_nil))))) (fun _ => (g_name (by decide))) (fun _ => (s_tst (s_op o_in s_var s_var))) (fun _ => s_var))) (g_name (by decide)))
      (st_ret (s_callP (s_cons s_var (s_cons s_var (s_cons s_var (s_cons (s_op o_rep (s_lst (s_cons (s_tup (s_cons s_int (s_cons s_int s_nil))) s_nil)) (s_cb c_len (s_cons s_var s_nil))) s_nil)))))))))) h
theorem ok_law0 {P : Program} {w : World} {K : PySem.W.Frag} {mg : Str → Option Value} {base : Heap} (T : Env K mg) : FnOk P w K mg base CX0 9 T.a_law T.d_law ["script"] (spS K den_law) := by
  refine T.F_law.ok sc_law (fun vs H Q E h => len_S h) (fun cdv A outer s H vs Q E hr h => ?_)
  have G_l_tape := ok_l_tape (P := P) (w := w) (base := base) T
  have hr_l_tape : Room 1 _ := hr.mono (by decide)
  have G_l_system := ok_l_system (P := P) (w := w) (base := base) T
  have hr_l_system : Room 5 _ := hr.mono (by decide)
  have G_l_drawn_policy := ok_l_drawn_policy (P := P) (w := w) (base := base) T
  have hr_l_drawn_policy : Room 3 _ := hr.mono (by decide)
  have G_l_some := ok_l_some (P := P) (w := w) (base := base) T
  have hr_l_some : Room 3 _ := hr.mono (by decide)
  have G_l_chances := ok_l_chances (P := P) (w := w) (base := base) T
  have hr_l_chances : Room 5 _ := hr.mono (by decide)
  have G_l_take := ok_l_take (P := P) (w := w) (base := base) T
  have hr_l_take : Room 2 _ := hr.mono (by decide)
  have G_l_thin := ok_l_thin (P := P) (w := w) (base := base) T
  have hr_l_thin : Room 3 _ := hr.mono (by decide)
  have G_l_chain := ok_l_chain (P := P) (w := w) (base := base) T
  have hr_l_chain : Room 2 _ := hr.mono (by decide)
  have G_l_large := ok_l_large (P := P) (w := w) (base := base) T
  have hr_l_large : Room 3 _ := hr.mono (by decide)
  have G_l_equal := ok_l_equal (P := P) (w := w) (base := base) T
  have hr_l_equal : Room 8 _ := hr.mono (by decide)
  have G_policy_chances := ok_policy_chances (P := P) (w := w) (base := base) T
  have hr_policy_chances : Room 5 _ := hr.mono (by decide)
  refine ⟨_, (pss_cons (ps_set (i := 1) sc_law.nd rfl (Or.inl rfl) (pe_lst (pa_cons (pe_call G_l_tape hr_l_tape (by rfl) T.g_l_tape T.F_l_tape.kp T.b_l_tape .nil pass0 (pa_cons (pv 0) pa_nil)) (pa_cons pe_int pa_nil))))
      (pss_cons (ps_for PassesOwn.never rfl (pi_range1 (by rfl) T.z_range (pa_cons pe_int pa_nil)) (pg_name (i := 2) sc_law.nd rfl (Or.inl rfl)) (pss_cons (ps_set (i := 3) sc_law.nd rfl (Or.inl rfl) (pe_call G_l_system hr_l_system (by rfl) T.g_l_system T.F_l_system.kp T.b_l_system .nil pass0 (pa_cons (pv 1) (pa_cons pe_int pa_nil))))
      (pss_cons (ps_if (pt_cmpR op_eq (pe_call G_l_take hr_l_take (by rfl) T.g_l_take T.F_l_take.kp T.b_l_take .nil pass0 (pa_cons (pv 1) (pa_cons pe_int pa_nil))) pe_int (nomark _)) (pss_cons (ps_set (i := 3) sc_law.nd rfl (Or.inl rfl) (pe_call G_l_thin hr_l_thin (by rfl) T.g_l_thin T.F_l_thin.kp T.b_l_thin .nil pass0 (pa_cons (pv 1) (pa_cons (pe_op op_add pe_int (pe_call G_l_take hr_l_take (by rfl) T.g_l_take T.F_l_take.kp T.b_l_take .nil pass0 (pa_cons (pv 1) (pa_cons pe_int pa_nil)))) pa_nil))))
      (pss_one (ps_if (pt_cmpR op_eq (pe_call G_l_take hr_l_take (by rfl) T.g_l_take T.F_l_take.kp T.b_l_take .nil pass0 (pa_cons (pv 1) (pa_cons pe_int pa_nil))) pe_int (nomark _)) (pss_one (ps_set (i := 3) sc_law.nd rfl (Or.inl rfl) (pe_call G_l_large hr_l_large (by rfl) T.g_l_large T.F_l_large.kp T.b_l_large .nil pass0 (pa_cons (pv 1) (pa_cons (pe_op op_add pe_int (pe_call G_l_take hr_l_take (by rfl) T.g_l_take T.F_l_take.kp T.b_l_take .nil pass0 (pa_cons (pv 1) (pa_cons pe_int pa_nil)))) pa_nil))))) pss_nil))) pss_nil)
      (pss_cons (ps_set (i := 4) sc_law.nd rfl (Or.inl rfl) (pe_call G_l_drawn_policy hr_l_drawn_policy (by rfl) T.g_l_drawn_policy T.F_l_drawn_policy.kp T.b_l_drawn_policy .nil pass0 (pa_cons (pv 1) (pa_cons (pv 3) pa_nil))))
      (pss_cons (ps_set (i := 5) sc_law.nd rfl (Or.inl rfl) (pe_ifExp (pt_cmpR op_eq (pe_call G_l_take hr_l_take (by rfl) T.g_l_take T.F_l_take.kp T.b_l_take .nil pass0 (pa_cons (pv 1) (pa_cons pe_int pa_nil))) pe_int (nomark _)) (pe_call G_l_some hr_l_some (by rfl) T.g_l_some T.F_l_some.kp T.b_l_some .nil pass0 (pa_cons (pv 1) (pa_cons (pe_callB (k_len K) (by rfl) T.z_len (by decide +kernel) (pa_cons (pv 3) pa_nil)) (pa_cons pe_int pa_nil)))) (pe_listRg (by rfl) (by rfl) T.z_list (prg_1 (by rfl) T.z_range (pe_callB (k_len K) (by rfl) T.z_len (by decide +kernel) (pa_cons (pv 3) pa_nil))))))
      (pss_cons (ps_set (i := 6) sc_law.nd rfl (Or.inl rfl) (pe_call G_l_some hr_l_some (by rfl) T.g_l_some T.F_l_some.kp T.b_l_some .nil pass0 (pa_cons (pv 1) (pa_cons (pe_callB (k_len K) (by rfl) T.z_len (by decide +kernel) (pa_cons (pv 3) pa_nil)) (pa_cons pe_int pa_nil)))))
      (pss_cons (ps_set (i := 7) sc_law.nd rfl (Or.inl rfl) (pe_call G_l_chances hr_l_chances (by rfl) T.g_l_chances T.F_l_chances.kp T.b_l_chances .nil pass0 (pa_cons (pe_call G_l_chain hr_l_chain (by rfl) T.g_l_chain T.F_l_chain.kp T.b_l_chain .nil pass0 (pa_cons (pv 3) (pa_cons (pv 4) pa_nil))) (pa_cons (pv 5) (pa_cons (pv 6) pa_nil)))))
      (pss_cons (ps_set (i := 8) sc_law.nd rfl (Or.inl rfl) (pe_lst (pa_cons (pe_callTy (k_list K) (by rfl) T.z_list (by decide +kernel) (pa_cons (pv 5) pa_nil)) (pa_cons (pe_callTy (k_list K) (by rfl) T.z_list (by decide +kernel) (pa_cons (pv 6) pa_nil)) pa_nil))))
      (pss_one (ps_if (PW.pt (pw_or (pt_not (pt_val (pe_call G_l_equal hr_l_equal (by rfl) T.g_l_equal T.F_l_equal.kp T.b_l_equal .nil pass0 (pa_cons (pe_call G_policy_chances hr_policy_chances (by rfl) T.g_policy_chances T.F_policy_chances.kp T.b_policy_chances .nil pass0 (pa_cons (pv 3) (pa_cons (pv 4) (pa_cons (pe_ix (ixL K) (pv 8) pe_int (fun _ _ => rfl)) (pa_cons (pe_ix (ixL K) (pv 8) pe_int (fun _ _ => rfl)) pa_nil))))) (pa_cons (pv 7) pa_nil))))) (pw_or1 (pt_cmpR (k_neD K (by rfl) hr.units) (pv 8) (pe_lst (pa_cons (pv 5) (pa_cons (pv 6) pa_nil))) (nomark _))))) (pss_one (ps_ret pe_bl)) pss_nil))))))))))
      (pss_one (ps_ret pe_bl)))), ?_⟩
  exact run_S (N := ["state", "turn", "system", "policy", "allowed", "targets", "due", "passed"]) (f := body_law) (fun _ => (st_seq (st_own (by decide) (f_lst (s_cons s_callS (s_cons s_int s_nil))))
      (st_seq (st_for (i_range1 (s_cons s_int s_nil)) (g_name (by decide)) (st_seq (st_asg (s_callB (s_cons s_int s_nil)) (g_name (by decide)))
      (st_seq (st_if (s_tst (s_op o_eq (s_callB (s_cons s_int s_nil)) s_int)) (st_seq (st_asg (s_callB (s_cons (s_op o_i0 s_int (s_callB (s_cons s_int s_nil))) s_nil)) (g_name (by decide)))
      (st_if (s_tst (s_op o_eq (s_callB (s_cons s_int s_nil)) s_int)) (st_asg (s_callB (s_cons (s_op o_i0 s_int (s_callB (s_cons s_int s_nil))) s_nil)) (g_name (by decide))) st_next)) st_next)
      (st_seq (st_asg (s_callB (s_cons s_var s_nil)) (g_name (by decide)))
      (st_seq (st_asg (s_if (s_tst (s_op o_eq (s_callB (s_cons s_int s_nil)) s_int)) (s_callB (s_cons (s_cb c_len (s_cons s_var s_nil)) (s_cons s_int s_nil))) (s_fr (f_listRg (s_cb c_len (s_cons s_var s_nil))))) (g_name (by decide)))
      (st_seq (st_asg (s_callB (s_cons (s_cb c_len (s_cons s_var s_nil)) (s_cons s_int s_nil))) (g_name (by decide)))
      (st_seq (st_asg (s_callP (s_cons (s_callP (s_cons s_var (s_cons s_var s_nil))) (s_cons s_var (s_cons s_var s_nil)))) (g_name (by decide)))
      (st_seq (st_asg (s_lst (s_cons (s_cb c_list (s_cons s_var s_nil)) (s_cons (s_cb c_list (s_cons s_var s_nil)) s_nil))) (g_name (by decide)))
      (st_if (s_or (s_not (s_tB (s_callP (s_cons (s_callP (s_cons s_var (s_cons s_var (s_cons (s_op o_ixL s_var s_int) (s_cons (s_op o_ixL s_var s_int) s_nil))))) (s_cons s_var s_nil))))) (s_tst (s_op o_neD s_var (s_lst (s_cons s_var (s_cons s_var s_nil)))))) (st_ret s_bl) st_next)))))))))
      (st_ret s_bl)))) h
def sp_law (K : PySem.W.Frag) : Sp := fun vs H Q _ => ∃ (a : Addr) (ns : List Int), vs = [.ref a] ∧ SqL K H a (ns.map V.int) ∧ ns.length ≤ 63 ∧ ∀ H', Q (.bl true) H'
theorem ok_law {P : Program} {w : World} {K : PySem.W.Frag} {mg : Str → Option Value} {base : Heap} (T : Env K mg) : FnOk P w K mg base CX0 9 T.a_law T.d_law ["script"] (sp_law K) :=
  (ok_law0 T).imp fun vs H Q E ⟨a, ns, e, s, hl, q⟩ => ⟨a, ns, H, e, s, Same.refl _, (law_worth hl).mono fun z hz v H' B' _ _ _ _ dv => by
    subst hz
    cases dv
    exact q H'⟩
theorem all_mk {l : PySem.W.OpenLaw} {w : World} {K : PySem.W.Frag} {h : Heap} {mg : Str → Option Value} {fa f0 f1 f2 f3 f4 f5 f6 f7 f8 f9 f10 f11 f12 f13 f14 f15 f16 f17 f18 f19 f20 f21 f22 f23 f24 f25 f26 f27 f28 f29 f30 f31 f32 f33 f34 f35 f36 f37 f38 f39 f40 f41 f42 : Addr} (X : K.In h) (G : h.Ns mainGlobals mg) (hfa : mg "law" = some (.ref fa))
    {od0 an0 : Option Addr} {sl0 : Array (Option Value)} {oc0 kV0 dc0 pm0 cd0 ct0 : Value}
    {od1 an1 : Option Addr} {sl1 : Array (Option Value)} {oc1 kV1 dc1 pm1 cd1 ct1 : Value}
    {od2 an2 : Option Addr} {sl2 : Array (Option Value)} {oc2 kV2 dc2 pm2 cd2 ct2 : Value}
    {od3 an3 : Option Addr} {sl3 : Array (Option Value)} {oc3 kV3 dc3 pm3 cd3 ct3 : Value}
    {od4 an4 : Option Addr} {sl4 : Array (Option Value)} {oc4 kV4 dc4 pm4 cd4 ct4 : Value}
    {od5 an5 : Option Addr} {sl5 : Array (Option Value)} {oc5 kV5 dc5 pm5 cd5 ct5 : Value}
    {od6 an6 : Option Addr} {sl6 : Array (Option Value)} {oc6 kV6 dc6 pm6 cd6 ct6 : Value}
    {od7 an7 : Option Addr} {sl7 : Array (Option Value)} {oc7 kV7 dc7 pm7 cd7 ct7 : Value}
    {od8 an8 : Option Addr} {sl8 : Array (Option Value)} {oc8 kV8 dc8 pm8 cd8 ct8 : Value}
    {od9 an9 : Option Addr} {sl9 : Array (Option Value)} {oc9 kV9 dc9 pm9 cd9 ct9 : Value}
    {od10 an10 : Option Addr} {sl10 : Array (Option Value)} {oc10 kV10 dc10 pm10 cd10 ct10 : Value}
    {od11 an11 : Option Addr} {sl11 : Array (Option Value)} {oc11 kV11 dc11 pm11 cd11 ct11 : Value}
    {od12 an12 : Option Addr} {sl12 : Array (Option Value)} {oc12 kV12 dc12 pm12 cd12 ct12 : Value}
    {od13 an13 : Option Addr} {sl13 : Array (Option Value)} {oc13 kV13 dc13 pm13 cd13 ct13 : Value}
    {od14 an14 : Option Addr} {sl14 : Array (Option Value)} {oc14 kV14 dc14 pm14 cd14 ct14 : Value}
    {od15 an15 : Option Addr} {sl15 : Array (Option Value)} {oc15 kV15 dc15 pm15 cd15 ct15 : Value}
    {od16 an16 : Option Addr} {sl16 : Array (Option Value)} {oc16 kV16 dc16 pm16 cd16 ct16 : Value}
    {od17 an17 : Option Addr} {sl17 : Array (Option Value)} {oc17 kV17 dc17 pm17 cd17 ct17 : Value}
    {od18 an18 : Option Addr} {sl18 : Array (Option Value)} {oc18 kV18 dc18 pm18 cd18 ct18 : Value}
    {od19 an19 : Option Addr} {sl19 : Array (Option Value)} {oc19 kV19 dc19 pm19 cd19 ct19 : Value}
    {od20 an20 : Option Addr} {sl20 : Array (Option Value)} {oc20 kV20 dc20 pm20 cd20 ct20 : Value}
    {od21 an21 : Option Addr} {sl21 : Array (Option Value)} {oc21 kV21 dc21 pm21 cd21 ct21 : Value}
    {od22 an22 : Option Addr} {sl22 : Array (Option Value)} {oc22 kV22 dc22 pm22 cd22 ct22 : Value}
    {od23 an23 : Option Addr} {sl23 : Array (Option Value)} {oc23 kV23 dc23 pm23 cd23 ct23 : Value}
    {od24 an24 : Option Addr} {sl24 : Array (Option Value)} {oc24 kV24 dc24 pm24 cd24 ct24 : Value}
    {od25 an25 : Option Addr} {sl25 : Array (Option Value)} {oc25 kV25 dc25 pm25 cd25 ct25 : Value}
    {od26 an26 : Option Addr} {sl26 : Array (Option Value)} {oc26 kV26 dc26 pm26 cd26 ct26 : Value}
    {od27 an27 : Option Addr} {sl27 : Array (Option Value)} {oc27 kV27 dc27 pm27 cd27 ct27 : Value}
    {od28 an28 : Option Addr} {sl28 : Array (Option Value)} {oc28 kV28 dc28 pm28 cd28 ct28 : Value}
    {od29 an29 : Option Addr} {sl29 : Array (Option Value)} {oc29 kV29 dc29 pm29 cd29 ct29 : Value}
    {od30 an30 : Option Addr} {sl30 : Array (Option Value)} {oc30 kV30 dc30 pm30 cd30 ct30 : Value}
    {od31 an31 : Option Addr} {sl31 : Array (Option Value)} {oc31 kV31 dc31 pm31 cd31 ct31 : Value}
    {od32 an32 : Option Addr} {sl32 : Array (Option Value)} {oc32 kV32 dc32 pm32 cd32 ct32 : Value}
    {od33 an33 : Option Addr} {sl33 : Array (Option Value)} {oc33 kV33 dc33 pm33 cd33 ct33 : Value}
    {od34 an34 : Option Addr} {sl34 : Array (Option Value)} {oc34 kV34 dc34 pm34 cd34 ct34 : Value}
    {od35 an35 : Option Addr} {sl35 : Array (Option Value)} {oc35 kV35 dc35 pm35 cd35 ct35 : Value}
    {od36 an36 : Option Addr} {sl36 : Array (Option Value)} {oc36 kV36 dc36 pm36 cd36 ct36 : Value}
    {od37 an37 : Option Addr} {sl37 : Array (Option Value)} {oc37 kV37 dc37 pm37 cd37 ct37 : Value}
    {od38 an38 : Option Addr} {sl38 : Array (Option Value)} {oc38 kV38 dc38 pm38 cd38 ct38 : Value}
    {od39 an39 : Option Addr} {sl39 : Array (Option Value)} {oc39 kV39 dc39 pm39 cd39 ct39 : Value}
    {od40 an40 : Option Addr} {sl40 : Array (Option Value)} {oc40 kV40 dc40 pm40 cd40 ct40 : Value}
    {od41 an41 : Option Addr} {sl41 : Array (Option Value)} {oc41 kV41 dc41 pm41 cd41 ct41 : Value}
    {od42 an42 : Option Addr} {sl42 : Array (Option Value)} {oc42 kV42 dc42 pm42 cd42 ct42 : Value}
    (a0 : PySem.W.nsIn K mainGlobals "_law_tape" = some (some (.ref f0))) (l0 : K.lookup f0 = some ⟨oc0, od0, .func (PySem.W.fnOf "_law_tape" "_law_tape" (defArgs s_l_tape) (defBody s_l_tape) (defScope s_l_tape) .none kV0 dc0 pm0 an0 cd0 ct0), sl0⟩) (c0 : PySem.W.codeIn K cd0 "_law_tape" = true) (k0 : PySem.W.keepIn K (.ref f0) = true)
    (a1 : PySem.W.nsIn K mainGlobals "_law_draw" = some (some (.ref f1))) (l1 : K.lookup f1 = some ⟨oc1, od1, .func (PySem.W.fnOf "_law_draw" "_law_draw" (defArgs s_l_draw) (defBody s_l_draw) (defScope s_l_draw) .none kV1 dc1 pm1 an1 cd1 ct1), sl1⟩) (c1 : PySem.W.codeIn K cd1 "_law_draw" = true) (k1 : PySem.W.keepIn K (.ref f1) = true)
    (a2 : PySem.W.nsIn K mainGlobals "_law_take" = some (some (.ref f2))) (l2 : K.lookup f2 = some ⟨oc2, od2, .func (PySem.W.fnOf "_law_take" "_law_take" (defArgs s_l_take) (defBody s_l_take) (defScope s_l_take) .none kV2 dc2 pm2 an2 cd2 ct2), sl2⟩) (c2 : PySem.W.codeIn K cd2 "_law_take" = true) (k2 : PySem.W.keepIn K (.ref f2) = true)
    (a3 : PySem.W.nsIn K mainGlobals "_law_ends" = some (some (.ref f3))) (l3 : K.lookup f3 = some ⟨oc3, od3, .func (PySem.W.fnOf "_law_ends" "_law_ends" (defArgs s_l_ends) (defBody s_l_ends) (defScope s_l_ends) .none kV3 dc3 pm3 an3 cd3 ct3), sl3⟩) (c3 : PySem.W.codeIn K cd3 "_law_ends" = true) (k3 : PySem.W.keepIn K (.ref f3) = true)
    (a4 : PySem.W.nsIn K mainGlobals "_law_choices" = some (some (.ref f4))) (l4 : K.lookup f4 = some ⟨oc4, od4, .func (PySem.W.fnOf "_law_choices" "_law_choices" (defArgs s_l_choices) (defBody s_l_choices) (defScope s_l_choices) .none kV4 dc4 pm4 an4 cd4 ct4), sl4⟩) (c4 : PySem.W.codeIn K cd4 "_law_choices" = true) (k4 : PySem.W.keepIn K (.ref f4) = true)
    (a5 : PySem.W.nsIn K mainGlobals "_law_system" = some (some (.ref f5))) (l5 : K.lookup f5 = some ⟨oc5, od5, .func (PySem.W.fnOf "_law_system" "_law_system" (defArgs s_l_system) (defBody s_l_system) (defScope s_l_system) .none kV5 dc5 pm5 an5 cd5 ct5), sl5⟩) (c5 : PySem.W.codeIn K cd5 "_law_system" = true) (k5 : PySem.W.keepIn K (.ref f5) = true)
    (a6 : PySem.W.nsIn K mainGlobals "_law_drawn_policy" = some (some (.ref f6))) (l6 : K.lookup f6 = some ⟨oc6, od6, .func (PySem.W.fnOf "_law_drawn_policy" "_law_drawn_policy" (defArgs s_l_drawn_policy) (defBody s_l_drawn_policy) (defScope s_l_drawn_policy) .none kV6 dc6 pm6 an6 cd6 ct6), sl6⟩) (c6 : PySem.W.codeIn K cd6 "_law_drawn_policy" = true) (k6 : PySem.W.keepIn K (.ref f6) = true)
    (a7 : PySem.W.nsIn K mainGlobals "_law_some" = some (some (.ref f7))) (l7 : K.lookup f7 = some ⟨oc7, od7, .func (PySem.W.fnOf "_law_some" "_law_some" (defArgs s_l_some) (defBody s_l_some) (defScope s_l_some) .none kV7 dc7 pm7 an7 cd7 ct7), sl7⟩) (c7 : PySem.W.codeIn K cd7 "_law_some" = true) (k7 : PySem.W.keepIn K (.ref f7) = true)
    (a8 : PySem.W.nsIn K mainGlobals "_law_backward" = some (some (.ref f8))) (l8 : K.lookup f8 = some ⟨oc8, od8, .func (PySem.W.fnOf "_law_backward" "_law_backward" (defArgs s_l_backward) (defBody s_l_backward) (defScope s_l_backward) .none kV8 dc8 pm8 an8 cd8 ct8), sl8⟩) (c8 : PySem.W.codeIn K cd8 "_law_backward" = true) (k8 : PySem.W.keepIn K (.ref f8) = true)
    (a9 : PySem.W.nsIn K mainGlobals "_law_ratio" = some (some (.ref f9))) (l9 : K.lookup f9 = some ⟨oc9, od9, .func (PySem.W.fnOf "_law_ratio" "_law_ratio" (defArgs s_l_ratio) (defBody s_l_ratio) (defScope s_l_ratio) .none kV9 dc9 pm9 an9 cd9 ct9), sl9⟩) (c9 : PySem.W.codeIn K cd9 "_law_ratio" = true) (k9 : PySem.W.keepIn K (.ref f9) = true)
    (a10 : PySem.W.nsIn K mainGlobals "_law_over" = some (some (.ref f10))) (l10 : K.lookup f10 = some ⟨oc10, od10, .func (PySem.W.fnOf "_law_over" "_law_over" (defArgs s_l_over) (defBody s_l_over) (defScope s_l_over) .none kV10 dc10 pm10 an10 cd10 ct10), sl10⟩) (c10 : PySem.W.codeIn K cd10 "_law_over" = true) (k10 : PySem.W.keepIn K (.ref f10) = true)
    (a11 : PySem.W.nsIn K mainGlobals "_law_plus" = some (some (.ref f11))) (l11 : K.lookup f11 = some ⟨oc11, od11, .func (PySem.W.fnOf "_law_plus" "_law_plus" (defArgs s_l_plus) (defBody s_l_plus) (defScope s_l_plus) .none kV11 dc11 pm11 an11 cd11 ct11), sl11⟩) (c11 : PySem.W.codeIn K cd11 "_law_plus" = true) (k11 : PySem.W.keepIn K (.ref f11) = true)
    (a12 : PySem.W.nsIn K mainGlobals "_law_times" = some (some (.ref f12))) (l12 : K.lookup f12 = some ⟨oc12, od12, .func (PySem.W.fnOf "_law_times" "_law_times" (defArgs s_l_times) (defBody s_l_times) (defScope s_l_times) .none kV12 dc12 pm12 an12 cd12 ct12), sl12⟩) (c12 : PySem.W.codeIn K cd12 "_law_times" = true) (k12 : PySem.W.keepIn K (.ref f12) = true)
    (a13 : PySem.W.nsIn K mainGlobals "_law_solve" = some (some (.ref f13))) (l13 : K.lookup f13 = some ⟨oc13, od13, .func (PySem.W.fnOf "_law_solve" "_law_solve" (defArgs s_l_solve) (defBody s_l_solve) (defScope s_l_solve) .none kV13 dc13 pm13 an13 cd13 ct13), sl13⟩) (c13 : PySem.W.codeIn K cd13 "_law_solve" = true) (k13 : PySem.W.keepIn K (.ref f13) = true)
    (a14 : PySem.W.nsIn K mainGlobals "_law_filled" = some (some (.ref f14))) (l14 : K.lookup f14 = some ⟨oc14, od14, .func (PySem.W.fnOf "_law_filled" "_law_filled" (defArgs s_l_filled) (defBody s_l_filled) (defScope s_l_filled) .none kV14 dc14 pm14 an14 cd14 ct14), sl14⟩) (c14 : PySem.W.codeIn K cd14 "_law_filled" = true) (k14 : PySem.W.keepIn K (.ref f14) = true)
    (a15 : PySem.W.nsIn K mainGlobals "_law_chances" = some (some (.ref f15))) (l15 : K.lookup f15 = some ⟨oc15, od15, .func (PySem.W.fnOf "_law_chances" "_law_chances" (defArgs s_l_chances) (defBody s_l_chances) (defScope s_l_chances) .none kV15 dc15 pm15 an15 cd15 ct15), sl15⟩) (c15 : PySem.W.codeIn K cd15 "_law_chances" = true) (k15 : PySem.W.keepIn K (.ref f15) = true)
    (a16 : PySem.W.nsIn K mainGlobals "_law_thin" = some (some (.ref f16))) (l16 : K.lookup f16 = some ⟨oc16, od16, .func (PySem.W.fnOf "_law_thin" "_law_thin" (defArgs s_l_thin) (defBody s_l_thin) (defScope s_l_thin) .none kV16 dc16 pm16 an16 cd16 ct16), sl16⟩) (c16 : PySem.W.codeIn K cd16 "_law_thin" = true) (k16 : PySem.W.keepIn K (.ref f16) = true)
    (a17 : PySem.W.nsIn K mainGlobals "_law_chain" = some (some (.ref f17))) (l17 : K.lookup f17 = some ⟨oc17, od17, .func (PySem.W.fnOf "_law_chain" "_law_chain" (defArgs s_l_chain) (defBody s_l_chain) (defScope s_l_chain) .none kV17 dc17 pm17 an17 cd17 ct17), sl17⟩) (c17 : PySem.W.codeIn K cd17 "_law_chain" = true) (k17 : PySem.W.keepIn K (.ref f17) = true)
    (a18 : PySem.W.nsIn K mainGlobals "_law_large" = some (some (.ref f18))) (l18 : K.lookup f18 = some ⟨oc18, od18, .func (PySem.W.fnOf "_law_large" "_law_large" (defArgs s_l_large) (defBody s_l_large) (defScope s_l_large) .none kV18 dc18 pm18 an18 cd18 ct18), sl18⟩) (c18 : PySem.W.codeIn K cd18 "_law_large" = true) (k18 : PySem.W.keepIn K (.ref f18) = true)
    (a19 : PySem.W.nsIn K mainGlobals "_law_equal" = some (some (.ref f19))) (l19 : K.lookup f19 = some ⟨oc19, od19, .func (PySem.W.fnOf "_law_equal" "_law_equal" (defArgs s_l_equal) (defBody s_l_equal) (defScope s_l_equal) .none kV19 dc19 pm19 an19 cd19 ct19), sl19⟩) (c19 : PySem.W.codeIn K cd19 "_law_equal" = true) (k19 : PySem.W.keepIn K (.ref f19) = true)
    (a20 : PySem.W.nsIn K mainGlobals "chain_of" = some (some (.ref f20))) (l20 : K.lookup f20 = some ⟨oc20, od20, .func (PySem.W.fnOf "chain_of" "chain_of" (defArgs s_chain_of) (defBody s_chain_of) (defScope s_chain_of) .none kV20 dc20 pm20 an20 cd20 ct20), sl20⟩) (c20 : PySem.W.codeIn K cd20 "chain_of" = true) (k20 : PySem.W.keepIn K (.ref f20) = true)
    (a21 : PySem.W.nsIn K mainGlobals "at_targets" = some (some (.ref f21))) (l21 : K.lookup f21 = some ⟨oc21, od21, .func (PySem.W.fnOf "at_targets" "at_targets" (defArgs s_at_targets) (defBody s_at_targets) (defScope s_at_targets) .none kV21 dc21 pm21 an21 cd21 ct21), sl21⟩) (c21 : PySem.W.codeIn K cd21 "at_targets" = true) (k21 : PySem.W.keepIn K (.ref f21) = true)
    (a22 : PySem.W.nsIn K mainGlobals "ratio" = some (some (.ref f22))) (l22 : K.lookup f22 = some ⟨oc22, od22, .func (PySem.W.fnOf "ratio" "ratio" (defArgs s_ratio) (defBody s_ratio) (defScope s_ratio) .none kV22 dc22 pm22 an22 cd22 ct22), sl22⟩) (c22 : PySem.W.codeIn K cd22 "ratio" = true) (k22 : PySem.W.keepIn K (.ref f22) = true)
    (a23 : PySem.W.nsIn K mainGlobals "substituted" = some (some (.ref f23))) (l23 : K.lookup f23 = some ⟨oc23, od23, .func (PySem.W.fnOf "substituted" "substituted" (defArgs s_substituted) (defBody s_substituted) (defScope s_substituted) .none kV23 dc23 pm23 an23 cd23 ct23), sl23⟩) (c23 : PySem.W.codeIn K cd23 "substituted" = true) (k23 : PySem.W.keepIn K (.ref f23) = true)
    (a24 : PySem.W.nsIn K mainGlobals "whole_row" = some (some (.ref f24))) (l24 : K.lookup f24 = some ⟨oc24, od24, .func (PySem.W.fnOf "whole_row" "whole_row" (defArgs s_whole_row) (defBody s_whole_row) (defScope s_whole_row) .none kV24 dc24 pm24 an24 cd24 ct24), sl24⟩) (c24 : PySem.W.codeIn K cd24 "whole_row" = true) (k24 : PySem.W.keepIn K (.ref f24) = true)
    (a25 : PySem.W.nsIn K mainGlobals "first_with_unknown" = some (some (.ref f25))) (l25 : K.lookup f25 = some ⟨oc25, od25, .func (PySem.W.fnOf "first_with_unknown" "first_with_unknown" (defArgs s_first_with_unknown) (defBody s_first_with_unknown) (defScope s_first_with_unknown) .none kV25 dc25 pm25 an25 cd25 ct25), sl25⟩) (c25 : PySem.W.codeIn K cd25 "first_with_unknown" = true) (k25 : PySem.W.keepIn K (.ref f25) = true)
    (a26 : PySem.W.nsIn K mainGlobals "without_unknown" = some (some (.ref f26))) (l26 : K.lookup f26 = some ⟨oc26, od26, .func (PySem.W.fnOf "without_unknown" "without_unknown" (defArgs s_without_unknown) (defBody s_without_unknown) (defScope s_without_unknown) .none kV26 dc26 pm26 an26 cd26 ct26), sl26⟩) (c26 : PySem.W.codeIn K cd26 "without_unknown" = true) (k26 : PySem.W.keepIn K (.ref f26) = true)
    (a27 : PySem.W.nsIn K mainGlobals "solve" = some (some (.ref f27))) (l27 : K.lookup f27 = some ⟨oc27, od27, .func (PySem.W.fnOf "solve" "solve" (defArgs s_solve) (defBody s_solve) (defScope s_solve) .none kV27 dc27 pm27 an27 cd27 ct27), sl27⟩) (c27 : PySem.W.codeIn K cd27 "solve" = true) (k27 : PySem.W.keepIn K (.ref f27) = true)
    (a28 : PySem.W.nsIn K mainGlobals "moves" = some (some (.ref f28))) (l28 : K.lookup f28 = some ⟨oc28, od28, .func (PySem.W.fnOf "moves" "moves" (defArgs s_moves) (defBody s_moves) (defScope s_moves) .none kV28 dc28 pm28 an28 cd28 ct28), sl28⟩) (c28 : PySem.W.codeIn K cd28 "moves" = true) (k28 : PySem.W.keepIn K (.ref f28) = true)
    (a29 : PySem.W.nsIn K mainGlobals "minus" = some (some (.ref f29))) (l29 : K.lookup f29 = some ⟨oc29, od29, .func (PySem.W.fnOf "minus" "minus" (defArgs s_minus) (defBody s_minus) (defScope s_minus) .none kV29 dc29 pm29 an29 cd29 ct29), sl29⟩) (c29 : PySem.W.codeIn K cd29 "minus" = true) (k29 : PySem.W.keepIn K (.ref f29) = true)
    (a30 : PySem.W.nsIn K mainGlobals "own_row" = some (some (.ref f30))) (l30 : K.lookup f30 = some ⟨oc30, od30, .func (PySem.W.fnOf "own_row" "own_row" (defArgs s_own_row) (defBody s_own_row) (defScope s_own_row) .none kV30 dc30 pm30 an30 cd30 ct30), sl30⟩) (c30 : PySem.W.codeIn K cd30 "own_row" = true) (k30 : PySem.W.keepIn K (.ref f30) = true)
    (a31 : PySem.W.nsIn K mainGlobals "plus" = some (some (.ref f31))) (l31 : K.lookup f31 = some ⟨oc31, od31, .func (PySem.W.fnOf "plus" "plus" (defArgs s_plus) (defBody s_plus) (defScope s_plus) .none kV31 dc31 pm31 an31 cd31 ct31), sl31⟩) (c31 : PySem.W.codeIn K cd31 "plus" = true) (k31 : PySem.W.keepIn K (.ref f31) = true)
    (a32 : PySem.W.nsIn K mainGlobals "times" = some (some (.ref f32))) (l32 : K.lookup f32 = some ⟨oc32, od32, .func (PySem.W.fnOf "times" "times" (defArgs s_times) (defBody s_times) (defScope s_times) .none kV32 dc32 pm32 an32 cd32 ct32), sl32⟩) (c32 : PySem.W.codeIn K cd32 "times" = true) (k32 : PySem.W.keepIn K (.ref f32) = true)
    (a33 : PySem.W.nsIn K mainGlobals "outside_part" = some (some (.ref f33))) (l33 : K.lookup f33 = some ⟨oc33, od33, .func (PySem.W.fnOf "outside_part" "outside_part" (defArgs s_outside_part) (defBody s_outside_part) (defScope s_outside_part) .none kV33 dc33 pm33 an33 cd33 ct33), sl33⟩) (c33 : PySem.W.codeIn K cd33 "outside_part" = true) (k33 : PySem.W.keepIn K (.ref f33) = true)
    (a34 : PySem.W.nsIn K mainGlobals "settled" = some (some (.ref f34))) (l34 : K.lookup f34 = some ⟨oc34, od34, .func (PySem.W.fnOf "settled" "settled" (defArgs s_settled) (defBody s_settled) (defScope s_settled) .none kV34 dc34 pm34 an34 cd34 ct34), sl34⟩) (c34 : PySem.W.codeIn K cd34 "settled" = true) (k34 : PySem.W.keepIn K (.ref f34) = true)
    (a35 : PySem.W.nsIn K mainGlobals "choices_on_way" = some (some (.ref f35))) (l35 : K.lookup f35 = some ⟨oc35, od35, .func (PySem.W.fnOf "choices_on_way" "choices_on_way" (defArgs s_choices_on_way) (defBody s_choices_on_way) (defScope s_choices_on_way) .none kV35 dc35 pm35 an35 cd35 ct35), sl35⟩) (c35 : PySem.W.codeIn K cd35 "choices_on_way" = true) (k35 : PySem.W.keepIn K (.ref f35) = true)
    (a36 : PySem.W.nsIn K mainGlobals "found_states" = some (some (.ref f36))) (l36 : K.lookup f36 = some ⟨oc36, od36, .func (PySem.W.fnOf "found_states" "found_states" (defArgs s_found_states) (defBody s_found_states) (defScope s_found_states) .none kV36 dc36 pm36 an36 cd36 ct36), sl36⟩) (c36 : PySem.W.codeIn K cd36 "found_states" = true) (k36 : PySem.W.keepIn K (.ref f36) = true)
    (a37 : PySem.W.nsIn K mainGlobals "leads_into" = some (some (.ref f37))) (l37 : K.lookup f37 = some ⟨oc37, od37, .func (PySem.W.fnOf "leads_into" "leads_into" (defArgs s_leads_into) (defBody s_leads_into) (defScope s_leads_into) .none kV37 dc37 pm37 an37 cd37 ct37), sl37⟩) (c37 : PySem.W.codeIn K cd37 "leads_into" = true) (k37 : PySem.W.keepIn K (.ref f37) = true)
    (a38 : PySem.W.nsIn K mainGlobals "joins" = some (some (.ref f38))) (l38 : K.lookup f38 = some ⟨oc38, od38, .func (PySem.W.fnOf "joins" "joins" (defArgs s_joins) (defBody s_joins) (defScope s_joins) .none kV38 dc38 pm38 an38 cd38 ct38), sl38⟩) (c38 : PySem.W.codeIn K cd38 "joins" = true) (k38 : PySem.W.keepIn K (.ref f38) = true)
    (a39 : PySem.W.nsIn K mainGlobals "levels" = some (some (.ref f39))) (l39 : K.lookup f39 = some ⟨oc39, od39, .func (PySem.W.fnOf "levels" "levels" (defArgs s_levels) (defBody s_levels) (defScope s_levels) .none kV39 dc39 pm39 an39 cd39 ct39), sl39⟩) (c39 : PySem.W.codeIn K cd39 "levels" = true) (k39 : PySem.W.keepIn K (.ref f39) = true)
    (a40 : PySem.W.nsIn K mainGlobals "possible" = some (some (.ref f40))) (l40 : K.lookup f40 = some ⟨oc40, od40, .func (PySem.W.fnOf "possible" "possible" (defArgs s_possible) (defBody s_possible) (defScope s_possible) .none kV40 dc40 pm40 an40 cd40 ct40), sl40⟩) (c40 : PySem.W.codeIn K cd40 "possible" = true) (k40 : PySem.W.keepIn K (.ref f40) = true)
    (a41 : PySem.W.nsIn K mainGlobals "policy_chances" = some (some (.ref f41))) (l41 : K.lookup f41 = some ⟨oc41, od41, .func (PySem.W.fnOf "policy_chances" "policy_chances" (defArgs s_policy_chances) (defBody s_policy_chances) (defScope s_policy_chances) .none kV41 dc41 pm41 an41 cd41 ct41), sl41⟩) (c41 : PySem.W.codeIn K cd41 "policy_chances" = true) (k41 : PySem.W.keepIn K (.ref f41) = true)
    (a42 : PySem.W.nsIn K mainGlobals "law" = some (some (.ref f42))) (l42 : K.lookup f42 = some ⟨oc42, od42, .func (PySem.W.fnOf "law" "law" (defArgs s_law) (defBody s_law) (defScope s_law) .none kV42 dc42 pm42 an42 cd42 ct42), sl42⟩) (c42 : PySem.W.codeIn K cd42 "law" = true) (k42 : PySem.W.keepIn K (.ref f42) = true)
    (z_abs : PySem.W.nsIn K mainGlobals "abs" = some none)
    (z_all : PySem.W.nsIn K mainGlobals "all" = some none)
    (z_any : PySem.W.nsIn K mainGlobals "any" = some none)
    (z_bool : PySem.W.nsIn K mainGlobals "bool" = some none)
    (z_dict : PySem.W.nsIn K mainGlobals "dict" = some none)
    (z_enumerate : PySem.W.nsIn K mainGlobals "enumerate" = some none)
    (z_int : PySem.W.nsIn K mainGlobals "int" = some none)
    (z_isinstance : PySem.W.nsIn K mainGlobals "isinstance" = some none)
    (z_len : PySem.W.nsIn K mainGlobals "len" = some none)
    (z_list : PySem.W.nsIn K mainGlobals "list" = some none)
    (z_range : PySem.W.nsIn K mainGlobals "range" = some none)
    (z_reversed : PySem.W.nsIn K mainGlobals "reversed" = some none)
    (z_sorted : PySem.W.nsIn K mainGlobals "sorted" = some none)
    (z_str : PySem.W.nsIn K mainGlobals "str" = some none)
    (z_sum : PySem.W.nsIn K mainGlobals "sum" = some none)
    (z_tuple : PySem.W.nsIn K mainGlobals "tuple" = some none)
    (z_zip : PySem.W.nsIn K mainGlobals "zip" = some none)
    (z_gcd : PySem.W.nsIn K mainGlobals "gcd" = some (some (.builtin "math.gcd")))
    (z_lcm : PySem.W.nsIn K mainGlobals "lcm" = some (some (.builtin "math.lcm")))
    : ∃ fd : FuncData, (∀ (s : Shared) (v : Value), BindsTo s fd ⟨[v], []⟩ [("script", v)]) ∧ ∀ base : Heap, K.In base → base.Ns mainGlobals mg → FnOk l.prog w K mg base CX0 9 fa fd ["script"] (sp_law K) := by
  have e := hfa.symm.trans (PySem.W.mg_of X G a42)
  cases e
  have F0 := fun_mk (st := s_l_tape) l0 c0 k0
  have b0 := F0.binds (ps := ["script"]) fun _ _ _ _ _ _ us hl => match us, hl with | [_], _ => rfl
  have F1 := fun_mk (st := s_l_draw) l1 c1 k1
  have b1 := F1.binds (ps := ["tape", "at", "many"]) fun _ _ _ _ _ _ us hl => match us, hl with | [_, _, _], _ => rfl
  have F2 := fun_mk (st := s_l_take) l2 c2 k2
  have b2 := F2.binds (ps := ["state", "many"]) fun _ _ _ _ _ _ us hl => match us, hl with | [_, _], _ => rfl
  have F3 := fun_mk (st := s_l_ends) l3 c3 k3
  have b3 := F3.binds (ps := ["state", "many"]) fun _ _ _ _ _ _ us hl => match us, hl with | [_, _], _ => rfl
  have F4 := fun_mk (st := s_l_choices) l4 c4 k4
  have b4 := F4.binds (ps := ["state", "many", "most"]) fun _ _ _ _ _ _ us hl => match us, hl with | [_, _, _], _ => rfl
  have F5 := fun_mk (st := s_l_system) l5 c5 k5
  have b5 := F5.binds (ps := ["state", "most"]) fun _ _ _ _ _ _ us hl => match us, hl with | [_, _], _ => rfl
  have F6 := fun_mk (st := s_l_drawn_policy) l6 c6 k6
  have b6 := F6.binds (ps := ["state", "system"]) fun _ _ _ _ _ _ us hl => match us, hl with | [_, _], _ => rfl
  have F7 := fun_mk (st := s_l_some) l7 c7 k7
  have b7 := F7.binds (ps := ["state", "many", "share"]) fun _ _ _ _ _ _ us hl => match us, hl with | [_, _, _], _ => rfl
  have F8 := fun_mk (st := s_l_backward) l8 c8 k8
  have b8 := F8.binds (ps := ["chain", "rest", "known"]) fun _ _ _ _ _ _ us hl => match us, hl with | [_, _, _], _ => rfl
  have F9 := fun_mk (st := s_l_ratio) l9 c9 k9
  have b9 := F9.binds (ps := ["n", "d"]) fun _ _ _ _ _ _ us hl => match us, hl with | [_, _], _ => rfl
  have F10 := fun_mk (st := s_l_over) l10 c10 k10
  have b10 := F10.binds (ps := ["a", "b"]) fun _ _ _ _ _ _ us hl => match us, hl with | [_, _], _ => rfl
  have F11 := fun_mk (st := s_l_plus) l11 c11 k11
  have b11 := F11.binds (ps := ["a", "b"]) fun _ _ _ _ _ _ us hl => match us, hl with | [_, _], _ => rfl
  have F12 := fun_mk (st := s_l_times) l12 c12 k12
  have b12 := F12.binds (ps := ["a", "b"]) fun _ _ _ _ _ _ us hl => match us, hl with | [_, _], _ => rfl
  have F13 := fun_mk (st := s_l_solve) l13 c13 k13
  have b13 := F13.binds (ps := ["rows", "right"]) fun _ _ _ _ _ _ us hl => match us, hl with | [_, _], _ => rfl
  have F14 := fun_mk (st := s_l_filled) l14 c14 k14
  have b14 := F14.binds (ps := ["chain", "unknown", "known", "extra"]) fun _ _ _ _ _ _ us hl => match us, hl with | [_, _, _, _], _ => rfl
  have F15 := fun_mk (st := s_l_chances) l15 c15 k15
  have b15 := F15.binds (ps := ["chain", "allowed", "targets"]) fun _ _ _ _ _ _ us hl => match us, hl with | [_, _, _], _ => rfl
  have F16 := fun_mk (st := s_l_thin) l16 c16 k16
  have b16 := F16.binds (ps := ["state", "many"]) fun _ _ _ _ _ _ us hl => match us, hl with | [_, _], _ => rfl
  have F17 := fun_mk (st := s_l_chain) l17 c17 k17
  have b17 := F17.binds (ps := ["system", "policy"]) fun _ _ _ _ _ _ us hl => match us, hl with | [_, _], _ => rfl
  have F18 := fun_mk (st := s_l_large) l18 c18 k18
  have b18 := F18.binds (ps := ["state", "many"]) fun _ _ _ _ _ _ us hl => match us, hl with | [_, _], _ => rfl
  have F19 := fun_mk (st := s_l_equal) l19 c19 k19
  have b19 := F19.binds (ps := ["actual", "due"]) fun _ _ _ _ _ _ us hl => match us, hl with | [_, _], _ => rfl
  have F20 := fun_mk (st := s_chain_of) l20 c20 k20
  have b20 := F20.binds (ps := ["system", "policy"]) fun _ _ _ _ _ _ us hl => match us, hl with | [_, _], _ => rfl
  have F21 := fun_mk (st := s_at_targets) l21 c21 k21
  have b21 := F21.binds (ps := ["chain", "targets", "inside", "elsewhere"]) fun _ _ _ _ _ _ us hl => match us, hl with | [_, _, _, _], _ => rfl
  have F22 := fun_mk (st := s_ratio) l22 c22 k22
  have b22 := F22.binds (ps := ["n", "d"]) fun _ _ _ _ _ _ us hl => match us, hl with | [_, _], _ => rfl
  have F23 := fun_mk (st := s_substituted) l23 c23 k23
  have b23 := F23.binds (ps := ["steps", "scale"]) fun _ _ _ _ _ _ us hl => match us, hl with | [_, _], _ => rfl
  have F24 := fun_mk (st := s_whole_row) l24 c24 k24
  have b24 := F24.binds (ps := ["row"]) fun _ _ _ _ _ _ us hl => match us, hl with | [_], _ => rfl
  have F25 := fun_mk (st := s_first_with_unknown) l25 c25 k25
  have b25 := F25.binds (ps := ["table"]) fun _ _ _ _ _ _ us hl => match us, hl with | [_], _ => rfl
  have F26 := fun_mk (st := s_without_unknown) l26 c26 k26
  have b26 := F26.binds (ps := ["row", "step", "before"]) fun _ _ _ _ _ _ us hl => match us, hl with | [_, _, _], _ => rfl
  have F27 := fun_mk (st := s_solve) l27 c27 k27
  have b27 := F27.binds (ps := ["rows", "right"]) fun _ _ _ _ _ _ us hl => match us, hl with | [_, _], _ => rfl
  have F28 := fun_mk (st := s_moves) l28 c28 k28
  have b28 := F28.binds (ps := ["system", "state", "choice"]) fun _ _ _ _ _ _ us hl => match us, hl with | [_, _, _], _ => rfl
  have F29 := fun_mk (st := s_minus) l29 c29 k29
  have b29 := F29.binds (ps := ["a", "b"]) fun _ _ _ _ _ _ us hl => match us, hl with | [_, _], _ => rfl
  have F30 := fun_mk (st := s_own_row) l30 c30 k30
  have b30 := F30.binds (ps := ["chain", "asked", "state"]) fun _ _ _ _ _ _ us hl => match us, hl with | [_, _, _], _ => rfl
  have F31 := fun_mk (st := s_plus) l31 c31 k31
  have b31 := F31.binds (ps := ["a", "b"]) fun _ _ _ _ _ _ us hl => match us, hl with | [_, _], _ => rfl
  have F32 := fun_mk (st := s_times) l32 c32 k32
  have b32 := F32.binds (ps := ["a", "b"]) fun _ _ _ _ _ _ us hl => match us, hl with | [_, _], _ => rfl
  have F33 := fun_mk (st := s_outside_part) l33 c33 k33
  have b33 := F33.binds (ps := ["chain", "values", "asked", "paid", "state"]) fun _ _ _ _ _ _ us hl => match us, hl with | [_, _, _, _, _], _ => rfl
  have F34 := fun_mk (st := s_settled) l34 c34 k34
  have b34 := F34.binds (ps := ["chain", "values", "asked", "paid"]) fun _ _ _ _ _ _ us hl => match us, hl with | [_, _, _, _], _ => rfl
  have F35 := fun_mk (st := s_choices_on_way) l35 c35 k35
  have b35 := F35.binds (ps := ["system", "allowed", "targets"]) fun _ _ _ _ _ _ us hl => match us, hl with | [_, _, _], _ => rfl
  have F36 := fun_mk (st := s_found_states) l36 c36 k36
  have b36 := F36.binds (ps := ["found"]) fun _ _ _ _ _ _ us hl => match us, hl with | [_], _ => rfl
  have F37 := fun_mk (st := s_leads_into) l37 c37 k37
  have b37 := F37.binds (ps := ["choice", "found"]) fun _ _ _ _ _ _ us hl => match us, hl with | [_, _], _ => rfl
  have F38 := fun_mk (st := s_joins) l38 c38 k38
  have b38 := F38.binds (ps := ["choices", "numbers", "found", "every"]) fun _ _ _ _ _ _ us hl => match us, hl with | [_, _, _, _], _ => rfl
  have F39 := fun_mk (st := s_levels) l39 c39 k39
  have b39 := F39.binds (ps := ["system", "usable", "goals", "every"]) fun _ _ _ _ _ _ us hl => match us, hl with | [_, _, _, _], _ => rfl
  have F40 := fun_mk (st := s_possible) l40 c40 k40
  have b40 := F40.binds (ps := ["system", "allowed", "targets"]) fun _ _ _ _ _ _ us hl => match us, hl with | [_, _, _], _ => rfl
  have F41 := fun_mk (st := s_policy_chances) l41 c41 k41
  have b41 := F41.binds (ps := ["system", "policy", "allowed", "targets"]) fun _ _ _ _ _ _ us hl => match us, hl with | [_, _, _, _], _ => rfl
  have F42 := fun_mk (st := s_law) l42 c42 k42
  have b42 := F42.binds (ps := ["script"]) fun _ _ _ _ _ _ us hl => match us, hl with | [_], _ => rfl
  let T : Env K mg := { a_l_tape := _, d_l_tape := _, F_l_tape := F0, b_l_tape := b0, g_l_tape := PySem.W.mg_of X G a0, a_l_draw := _, d_l_draw := _, F_l_draw := F1, b_l_draw := b1, g_l_draw := PySem.W.mg_of X G a1, a_l_take := _, d_l_take := _, F_l_take := F2, b_l_take := b2, g_l_take := PySem.W.mg_of X G a2, a_l_ends := _, d_l_ends := _, F_l_ends := F3, b_l_ends := b3, g_l_ends := PySem.W.mg_of X G a3, a_l_choices := _, d_l_choices := _, F_l_choices := F4, b_l_choices := b4, g_l_choices := PySem.W.mg_of X G a4, a_l_system := _, d_l_system := _, F_l_system := F5, b_l_system := b5, g_l_system := PySem.W.mg_of X G a5, a_l_drawn_policy := _, d_l_drawn_policy := _, F_l_drawn_policy := F6, b_l_drawn_policy := b6, g_l_drawn_policy := PySem.W.mg_of X G a6, a_l_some := _, d_l_some := _, F_l_some := F7, b_l_some := b7, g_l_some := PySem.W.mg_of X G a7, a_l_backward := _, d_l_backward := _, F_l_backward := F8, b_l_backward := b8, g_l_backward := PySem.W.mg_of X G a8, a_l_ratio := _, d_l_ratio := _, F_l_ratio := F9, b_l_ratio := b9, g_l_ratio := PySem.W.mg_of X G a9, a_l_over := _, d_l_over := _, F_l_over := F10, b_l_over := b10, g_l_over := PySem.W.mg_of X G a10, a_l_plus := _, d_l_plus := _, F_l_plus := F11, b_l_plus := b11, g_l_plus := PySem.W.mg_of X G a11, a_l_times := _, d_l_times := _, F_l_times := F12, b_l_times := b12, g_l_times := PySem.W.mg_of X G a12, a_l_solve := _, d_l_solve := _, F_l_solve := F13, b_l_solve := b13, g_l_solve := PySem.W.mg_of X G a13, a_l_filled := _, d_l_filled := _, F_l_filled := F14, b_l_filled := b14, g_l_filled := PySem.W.mg_of X G a14, a_l_chances := _, d_l_chances := _, F_l_chances := F15, b_l_chances := b15, g_l_chances := PySem.W.mg_of X G a15, a_l_thin := _, d_l_thin := _, F_l_thin := F16, b_l_thin := b16, g_l_thin := PySem.W.mg_of X G a16, a_l_chain := _, d_l_chain := _, F_l_chain := F17, b_l_chain := b17, g_l_chain := PySem.W.mg_of X G a17, a_l_large := _, d_l_large := _, F_l_large := F18, b_l_large := b18, g_l_large := PySem.W.mg_of X G a18, a_l_equal := _, d_l_equal := _, F_l_equal := F19, b_l_equal := b19, g_l_equal := PySem.W.mg_of X G a19, a_chain_of := _, d_chain_of := _, F_chain_of := F20, b_chain_of := b20, g_chain_of := PySem.W.mg_of X G a20, a_at_targets := _, d_at_targets := _, F_at_targets := F21, b_at_targets := b21, g_at_targets := PySem.W.mg_of X G a21, a_ratio := _, d_ratio := _, F_ratio := F22, b_ratio := b22, g_ratio := PySem.W.mg_of X G a22, a_substituted := _, d_substituted := _, F_substituted := F23, b_substituted := b23, g_substituted := PySem.W.mg_of X G a23, a_whole_row := _, d_whole_row := _, F_whole_row := F24, b_whole_row := b24, g_whole_row := PySem.W.mg_of X G a24, a_first_with_unknown := _, d_first_with_unknown := _, F_first_with_unknown := F25, b_first_with_unknown := b25, g_first_with_unknown := PySem.W.mg_of X G a25, a_without_unknown := _, d_without_unknown := _, F_without_unknown := F26, b_without_unknown := b26, g_without_unknown := PySem.W.mg_of X G a26, a_solve := _, d_solve := _, F_solve := F27, b_solve := b27, g_solve := PySem.W.mg_of X G a27, a_moves := _, d_moves := _, F_moves := F28, b_moves := b28, g_moves := PySem.W.mg_of X G a28, a_minus := _, d_minus := _, F_minus := F29, b_minus := b29, g_minus := PySem.W.mg_of X G a29, a_own_row := _, d_own_row := _, F_own_row := F30, b_own_row := b30, g_own_row := PySem.W.mg_of X G a30, a_plus := _, d_plus := _, F_plus := F31, b_plus := b31, g_plus := PySem.W.mg_of X G a31, a_times := _, d_times := _, F_times := F32, b_times := b32, g_times := PySem.W.mg_of X G a32, a_outside_part := _, d_outside_part := _, F_outside_part := F33, b_outside_part := b33, g_outside_part := PySem.W.mg_of X G a33, a_settled := _, d_settled := _, F_settled := F34, b_settled := b34, g_settled := PySem.W.mg_of X G a34, a_choices_on_way := _, d_choices_on_way := _, F_choices_on_way := F35, b_choices_on_way := b35, g_choices_on_way := PySem.W.mg_of X G a35, a_found_states := _, d_found_states := _, F_found_states := F36, b_found_states := b36, g_found_states := PySem.W.mg_of X G a36, a_leads_into := _, d_leads_into := _, F_leads_into := F37, b_leads_into := b37, g_leads_into := PySem.W.mg_of X G a37, a_joins := _, d_joins := _, F_joins := F38, b_joins := b38, g_joins := PySem.W.mg_of X G a38, a_levels := _, d_levels := _, F_levels := F39, b_levels := b39, g_levels := PySem.W.mg_of X G a39, a_possible := _, d_possible := _, F_possible := F40, b_possible := b40, g_possible := PySem.W.mg_of X G a40, a_policy_chances := _, d_policy_chances := _, F_policy_chances := F41, b_policy_chances := b41, g_policy_chances := PySem.W.mg_of X G a41, a_law := _, d_law := _, F_law := F42, b_law := b42, g_law := PySem.W.mg_of X G a42, z_abs := PySem.W.mg_none_of X G z_abs, z_all := PySem.W.mg_none_of X G z_all, z_any := PySem.W.mg_none_of X G z_any, z_bool := PySem.W.mg_none_of X G z_bool, z_dict := PySem.W.mg_none_of X G z_dict, z_enumerate := PySem.W.mg_none_of X G z_enumerate, z_int := PySem.W.mg_none_of X G z_int, z_isinstance := PySem.W.mg_none_of X G z_isinstance, z_len := PySem.W.mg_none_of X G z_len, z_list := PySem.W.mg_none_of X G z_list, z_range := PySem.W.mg_none_of X G z_range, z_reversed := PySem.W.mg_none_of X G z_reversed, z_sorted := PySem.W.mg_none_of X G z_sorted, z_str := PySem.W.mg_none_of X G z_str, z_sum := PySem.W.mg_none_of X G z_sum, z_tuple := PySem.W.mg_none_of X G z_tuple, z_zip := PySem.W.mg_none_of X G z_zip, z_gcd := PySem.W.mg_of X G z_gcd, z_lcm := PySem.W.mg_of X G z_lcm }
  exact ⟨PySem.W.fnOf "law" "law" (defArgs s_law) (defBody s_law) (defScope s_law) .none kV42 dc42 pm42 an42 cd42 ct42, fun s v => .of_eq rfl, fun base _ _ => ok_law T⟩
end Bo
open PySem PySem.W PyProof.Rows
set_option maxRecDepth 100000 in
set_option maxHeartbeats 0 in
theorem PySem.Challenge.cw_bestodds_k16_chances_of_policies_holds : PySem.Challenge.rw_bestodds_k16_chances_of_policies.Holds := by
  w_on; o_law; k_head; (case hw => w_witness2)
  k_fill
  refine L2.walk_of (l := PySem.Challenge.rw_bestodds_k16_chances_of_policies) (n := 63) (k := 9) (x := "script") (CX := fun _ => L2.CX0) (sp := fun w => Bo.sp_law _) rfl (by decide) rfl ⟨rfl, by decide, by decide⟩ (fun w h Y => PySem.W.kIn_of Y) ?F (fun _ _ a ns hl _ hS => ⟨a, ns, rfl, hS, hl, fun _ => rfl⟩) (fun _ _ _ _ _ h => h)
  case F =>
    intro w mg fa h KX G hmg
    refine' Bo.all_mk KX G hmg ?a0 ?l0 ?c0 ?k0 ?a1 ?l1 ?c1 ?k1 ?a2 ?l2 ?c2 ?k2 ?a3 ?l3 ?c3 ?k3 ?a4 ?l4 ?c4 ?k4 ?a5 ?l5 ?c5 ?k5 ?a6 ?l6 ?c6 ?k6 ?a7 ?l7 ?c7 ?k7 ?a8 ?l8 ?c8 ?k8 ?a9 ?l9 ?c9 ?k9 ?a10 ?l10 ?c10 ?k10 ?a11 ?l11 ?c11 ?k11 ?a12 ?l12 ?c12 ?k12 ?a13 ?l13 ?c13 ?k13 ?a14 ?l14 ?c14 ?k14 ?a15 ?l15 ?c15 ?k15 ?a16 ?l16 ?c16 ?k16 ?a17 ?l17 ?c17 ?k17 ?a18 ?l18 ?c18 ?k18 ?a19 ?l19 ?c19 ?k19 ?a20 ?l20 ?c20 ?k20 ?a21 ?l21 ?c21 ?k21 ?a22 ?l22 ?c22 ?k22 ?a23 ?l23 ?c23 ?k23 ?a24 ?l24 ?c24 ?k24 ?a25 ?l25 ?c25 ?k25 ?a26 ?l26 ?c26 ?k26 ?a27 ?l27 ?c27 ?k27 ?a28 ?l28 ?c28 ?k28 ?a29 ?l29 ?c29 ?k29 ?a30 ?l30 ?c30 ?k30 ?a31 ?l31 ?c31 ?k31 ?a32 ?l32 ?c32 ?k32 ?a33 ?l33 ?c33 ?k33 ?a34 ?l34 ?c34 ?k34 ?a35 ?l35 ?c35 ?k35 ?a36 ?l36 ?c36 ?k36 ?a37 ?l37 ?c37 ?k37 ?a38 ?l38 ?c38 ?k38 ?a39 ?l39 ?c39 ?k39 ?a40 ?l40 ?c40 ?k40 ?a41 ?l41 ?c41 ?k41 ?a42 ?l42 ?c42 ?k42 ?z_abs ?z_all ?z_any ?z_bool ?z_dict ?z_enumerate ?z_int ?z_isinstance ?z_len ?z_list ?z_range ?z_reversed ?z_sorted ?z_str ?z_sum ?z_tuple ?z_zip ?z_gcd ?z_lcm
    (case a0 => k_is)
    (case l0 => k_is)
    (case c0 => k_is)
    (case k0 => k_is)
    (case a1 => k_is)
    (case l1 => k_is)
    (case c1 => k_is)
    (case k1 => k_is)
    (case a2 => k_is)
    (case l2 => k_is)
    (case c2 => k_is)
    (case k2 => k_is)
    (case a3 => k_is)
    (case l3 => k_is)
    (case c3 => k_is)
    (case k3 => k_is)
    (case a4 => k_is)
    (case l4 => k_is)
    (case c4 => k_is)
    (case k4 => k_is)
    (case a5 => k_is)
    (case l5 => k_is)
    (case c5 => k_is)
    (case k5 => k_is)
    (case a6 => k_is)
    (case l6 => k_is)
    (case c6 => k_is)
    (case k6 => k_is)
    (case a7 => k_is)
    (case l7 => k_is)
    (case c7 => k_is)
    (case k7 => k_is)
    (case a8 => k_is)
    (case l8 => k_is)
    (case c8 => k_is)
    (case k8 => k_is)
    (case a9 => k_is)
    (case l9 => k_is)
    (case c9 => k_is)
    (case k9 => k_is)
    (case a10 => k_is)
    (case l10 => k_is)
    (case c10 => k_is)
    (case k10 => k_is)
    (case a11 => k_is)
    (case l11 => k_is)
    (case c11 => k_is)
    (case k11 => k_is)
    (case a12 => k_is)
    (case l12 => k_is)
    (case c12 => k_is)
    (case k12 => k_is)
    (case a13 => k_is)
    (case l13 => k_is)
    (case c13 => k_is)
    (case k13 => k_is)
    (case a14 => k_is)
    (case l14 => k_is)
    (case c14 => k_is)
    (case k14 => k_is)
    (case a15 => k_is)
    (case l15 => k_is)
    (case c15 => k_is)
    (case k15 => k_is)
    (case a16 => k_is)
    (case l16 => k_is)
    (case c16 => k_is)
    (case k16 => k_is)
    (case a17 => k_is)
    (case l17 => k_is)
    (case c17 => k_is)
    (case k17 => k_is)
    (case a18 => k_is)
    (case l18 => k_is)
    (case c18 => k_is)
    (case k18 => k_is)
    (case a19 => k_is)
    (case l19 => k_is)
    (case c19 => k_is)
    (case k19 => k_is)
    (case a20 => k_is)
    (case l20 => k_is)
    (case c20 => k_is)
    (case k20 => k_is)
    (case a21 => k_is)
    (case l21 => k_is)
    (case c21 => k_is)
    (case k21 => k_is)
    (case a22 => k_is)
    (case l22 => k_is)
    (case c22 => k_is)
    (case k22 => k_is)
    (case a23 => k_is)
    (case l23 => k_is)
    (case c23 => k_is)
    (case k23 => k_is)
    (case a24 => k_is)
    (case l24 => k_is)
    (case c24 => k_is)
    (case k24 => k_is)
    (case a25 => k_is)
    (case l25 => k_is)
    (case c25 => k_is)
    (case k25 => k_is)
    (case a26 => k_is)
    (case l26 => k_is)
    (case c26 => k_is)
    (case k26 => k_is)
    (case a27 => k_is)
    (case l27 => k_is)
    (case c27 => k_is)
    (case k27 => k_is)
    (case a28 => k_is)
    (case l28 => k_is)
    (case c28 => k_is)
    (case k28 => k_is)
    (case a29 => k_is)
    (case l29 => k_is)
    (case c29 => k_is)
    (case k29 => k_is)
    (case a30 => k_is)
    (case l30 => k_is)
    (case c30 => k_is)
    (case k30 => k_is)
    (case a31 => k_is)
    (case l31 => k_is)
    (case c31 => k_is)
    (case k31 => k_is)
    (case a32 => k_is)
    (case l32 => k_is)
    (case c32 => k_is)
    (case k32 => k_is)
    (case a33 => k_is)
    (case l33 => k_is)
    (case c33 => k_is)
    (case k33 => k_is)
    (case a34 => k_is)
    (case l34 => k_is)
    (case c34 => k_is)
    (case k34 => k_is)
    (case a35 => k_is)
    (case l35 => k_is)
    (case c35 => k_is)
    (case k35 => k_is)
    (case a36 => k_is)
    (case l36 => k_is)
    (case c36 => k_is)
    (case k36 => k_is)
    (case a37 => k_is)
    (case l37 => k_is)
    (case c37 => k_is)
    (case k37 => k_is)
    (case a38 => k_is)
    (case l38 => k_is)
    (case c38 => k_is)
    (case k38 => k_is)
    (case a39 => k_is)
    (case l39 => k_is)
    (case c39 => k_is)
    (case k39 => k_is)
    (case a40 => k_is)
    (case l40 => k_is)
    (case c40 => k_is)
    (case k40 => k_is)
    (case a41 => k_is)
    (case l41 => k_is)
    (case c41 => k_is)
    (case k41 => k_is)
    (case a42 => k_is)
    (case l42 => k_is)
    (case c42 => k_is)
    (case k42 => k_is)
    (case z_abs => k_is)
    (case z_all => k_is)
    (case z_any => k_is)
    (case z_bool => k_is)
    (case z_dict => k_is)
    (case z_enumerate => k_is)
    (case z_int => k_is)
    (case z_isinstance => k_is)
    (case z_len => k_is)
    (case z_list => k_is)
    (case z_range => k_is)
    (case z_reversed => k_is)
    (case z_sorted => k_is)
    (case z_str => k_is)
    (case z_sum => k_is)
    (case z_tuple => k_is)
    (case z_zip => k_is)
    (case z_gcd => k_is)
    (case z_lcm => k_is)

