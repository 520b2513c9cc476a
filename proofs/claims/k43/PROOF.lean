import PyProof.Rows.All
import Wide.All
import OpenK.AllK
import Wide.FinOn
import HandS.ForMost
import HandS.IsInst
import HandS.Wide
import HandS.Gcd
import HandS.Codes
import HandS.Style
import HandS.TupMul
import HandS.TupAny
import KE.GoesNew
import KE.GoesMore
import HandS.Conv
import HandS.SortInts
import HandS.DictTup
import HandS.NoneIn
import HandS.Star
import HandS.Iter
import HandS.List
import Flt.Len
import HandS.DictComp
import HandS.ForExc
import HandS.ExcInit
import HandS.Small
import KE.KExcIs
import HandS.Text
import HandS.StrMore
import HandS.FStr
import PyProof.StrOps2
import HandS.Rev
import HandS.MapJoin
import HandS.ExcValue
import HandS.ExcField
import HandS.ExcIs
import HandS.TryMany
import HandS.HotCalls
import KE.KUnpackStar
import HandS.TupLe
import HandS.StrSplit
import PyProof.StrLawsTight
import PyProof.Rows.StrNews2
import KE.IntTextLaws
import KE.OsScanText
import HandS.Deep
import HandS.ExcInitHot
import KE.SortData
import KE.KDictKeyed
import HandS.TupLen
import PySem.Challenge.RW_bestodds_k43_changes_of_benches
set_option Elab.async false
set_option linter.all false
set_option maxRecDepth 100000
set_option maxHeartbeats 4000000
namespace Bo
open PySem L2

/-! ### readings, step by step -/
section
variable {σ : L2.St} {H : Hp} {Q : VK} {D : Ends} {ta tb te : TE} {t u : TS} {tt tu : TT} {K : PySem.W.Frag}
theorem r_seq (h : t { D with nx := u D } σ H) : tSeq t u D σ H := h
theorem r_asg {g : TG} (h : te σ H fun x H1 => g x σ H1 D.nx) : tAsg te g D σ H := h
theorem r_name {i : Nat} {v : V} {R : L2.St → Hp → Prop} (h : R (σ.set i (some v)) H) : gName i v σ H R := h
theorem r_var {i : Nat} (h : ∃ v, σ[i]? = some (some v) ∧ Q v H) : tVar i σ H Q := h
theorem r_c {v : V} (h : Q v H) : tC v σ H Q := h
theorem r_op {r : R2} (h : ta σ H fun x H1 => tb σ H1 fun y H2 => r x y H2 Q) : tOp r ta tb σ H Q := h
theorem r_un {r : V → Hp → VK → Prop} (h : ta σ H fun x H1 => r x H1 Q) : tUn r ta σ H Q := h
theorem r_i0 {g : Int → Int → V} {i j : Int} (h : Q (g i j) H) : rI0 g (.int i) (.int j) H Q := ⟨i, j, rfl, rfl, h⟩
theorem r_iC {C : Int → Int → Prop} {g : Int → Int → V} {i j : Int} (c : C i j) (h : Q (g i j) H) : rI C g (.int i) (.int j) H Q := ⟨i, j, rfl, rfl, c, h⟩
theorem r_u {g : Int → V} {i : Int} (h : Q (g i) H) : rU g (.int i) H Q := ⟨i, rfl, h⟩
theorem r_eqI {i j : Int} (h : Q (.bl (decide (i = j))) H) : rEq (.int i) (.int j) H Q := by
  refine ⟨rfl, ?_⟩
  have e : decide (V.int i = V.int j) = decide (i = j) := by
    by_cases q : i = j
    · subst q; simp
    · rw [decide_eq_false q, decide_eq_false fun z => q (V.int.inj z)]
  rw [e]
  exact h
theorem r_neI {i j : Int} (h : Q (.bl (!decide (i = j))) H) : rNe (.int i) (.int j) H Q := by
  refine ⟨rfl, ?_⟩
  have e : decide (V.int i = V.int j) = decide (i = j) := by
    by_cases q : i = j
    · subst q; simp
    · rw [decide_eq_false q, decide_eq_false fun z => q (V.int.inj z)]
  rw [e]
  exact h
theorem r_eqS {i j : Str} (h : Q (.bl (decide (i = j))) H) : rEq (.str i) (.str j) H Q := by
  refine ⟨rfl, ?_⟩
  have e : decide (V.str i = V.str j) = decide (i = j) := by
    by_cases q : i = j
    · subst q; simp
    · rw [decide_eq_false q, decide_eq_false fun z => q (V.str.inj z)]
  rw [e]
  exact h
theorem r_eqB {i j : Bool} (h : Q (.bl (decide (i = j))) H) : rEq (.bl i) (.bl j) H Q := by
  refine ⟨rfl, ?_⟩
  have e : decide (V.bl i = V.bl j) = decide (i = j) := by
    by_cases q : i = j
    · subst q; simp
    · rw [decide_eq_false q, decide_eq_false fun z => q (V.bl.inj z)]
  rw [e]
  exact h
theorem r_tst {R : Bool → Hp → Prop} (h : te σ H fun x H' => ∃ k, x = .bl k ∧ R k H') : tTest te σ H R := h
theorem r_tB {R : Bool → Hp → Prop} (h : te σ H fun x H' => ∃ k, x = .bl k ∧ R k H') : tB te σ H R := h
theorem r_bl {b : Bool} {R : Bool → Prop} (h : R b) : ∃ k, V.bl b = .bl k ∧ R k := ⟨b, rfl, h⟩
theorem r_not {R : Bool → Hp → Prop} (h : tt σ H fun c H1 => R (!c) H1) : tNot tt σ H R := h
theorem r_and {R : Bool → Hp → Prop} (h : tt σ H fun c H1 => if c = true then tu σ H1 R else R false H1) : tAnd tt tu σ H R := h
theorem r_or {R : Bool → Hp → Prop} (h : tt σ H fun c H1 => if c = true then R true H1 else tu σ H1 R) : tOr tt tu σ H R := h
theorem r_andV (h : ta σ H fun x H1 => ∃ c, x = .bl c ∧ if c = true then tb σ H1 Q else Q (.bl false) H1) : tAndV ta tb σ H Q := h
theorem r_orV (h : ta σ H fun x H1 => ∃ c, x = .bl c ∧ if c = true then Q (.bl true) H1 else tb σ H1 Q) : tOrV ta tb σ H Q := h
theorem r_notV (h : ta σ H fun x H1 => ∃ c, x = .bl c ∧ Q (.bl (!c)) H1) : tNotV ta σ H Q := h
theorem r_ifs (h : tt σ H fun b H1 => if b = true then t D σ H1 else u D σ H1) : tIfS tt t u D σ H := h
theorem r_ifE (h : tt σ H fun c H1 => if c = true then ta σ H1 Q else tb σ H1 Q) : tIf tt ta tb σ H Q := h
theorem r_ret (h : te σ H D.rt) : tRet te D σ H := h
theorem r_retN (h : D.rt .non H) : tRetN D σ H := h
theorem r_next (h : D.nx σ H) : tNext D σ H := h
theorem r_brk (h : D.bk σ H) : tBreak D σ H := h
theorem r_cont (h : D.ct σ H) : tCont D σ H := h
theorem r_drop (h : te σ H fun _ H1 => D.nx σ H1) : tDrop te D σ H := h
theorem r_nil {R : List V → Hp → Prop} (h : R [] H) : tNil σ H R := h
theorem r_cons {tr : TA} {R : List V → Hp → Prop} (h : ta σ H fun x H1 => tr σ H1 fun xs H2 => R (x :: xs) H2) : tCons ta tr σ H R := h
theorem r_tup {tA : TA} (h : tA σ H fun xs H1 => xs.length ≤ sizeLine ∧ ∀ p, H1 p = none → Q (.ref p) (upd H1 p (.tup xs))) : tTup tA σ H Q := h
theorem r_lst {tA : TA} (h : tA σ H fun xs H1 => xs.length ≤ sizeLine ∧ ∀ p, H1 p = none → Q (.ref p) (upd H1 p (.lst xs))) : tLst tA σ H Q := h
theorem r_cb {r : List V → Hp → VK → Prop} {tA : TA} (h : tA σ H fun vs H1 => r vs H1 Q) : tCB r tA σ H Q := h
theorem r_call {sp : Sp} {E : XK} {tA : TA} (h : tA σ H fun vs H1 => sp (vs ++ []) H1 Q E) : tCall sp [] E tA σ H Q := h
theorem r_gsub {to ti : TE} {ts : TSet} {v : V} {R : L2.St → Hp → Prop} (h : to σ H fun o H1 => ti σ H1 fun i H2 => ts o i v H2 fun H3 => R σ H3) : gSub to ti ts v σ H R := h
theorem r_ixQT {p : Addr} {xs : List V} {i : Int} {v : V} (s : SqT K H p xs) (a : atI xs i = some v) (h : Q v H) : rIx K (.ref p) (.int i) H Q := .inr (.inl ⟨p, xs, i, v, rfl, rfl, s, a, h⟩)
theorem r_ixQL {p : Addr} {xs : List V} {i : Int} {v : V} (s : SqL K H p xs) (a : atI xs i = some v) (h : Q v H) : rIx K (.ref p) (.int i) H Q := .inl ⟨p, xs, i, v, rfl, rfl, s, a, h⟩
theorem r_bm {T : String} {r : V → List V → Hp → VK → Prop} {tA : TA} (h : ta σ H fun x H1 => tyV K T x H1 ∧ tA σ H1 fun xs H2 => r x xs H2 Q) : tBM K T r ta tA σ H Q := h
theorem r_bm0 {T : String} {r : V → List V → Hp → VK → Prop} (h : ta σ H fun x H1 => tyV K T x H1 ∧ r x [] H1 Q) : tBM0 K T r ta σ H Q := h
theorem r_dput {td ty : TE} (h : te σ H fun v H1 => td σ H1 fun x H2 => ty σ H2 fun y H3 => ∃ a H4, x = .ref a ∧ DPut H3 a y v H4 ∧ D.nx σ H4) : sDPut td ty te D σ H := h
theorem r_dnew (h : ∀ p, H p = none → Q (.ref p) (upd H p (.dK []))) : tDNewK σ H Q := h
theorem r_chain {r r' : R2} {tc : TE} (h : ta σ H fun x H1 => tb σ H1 fun y H2 => r x y H2 fun z H3 => ∃ k, z = .bl k ∧ if k = true then tc σ H3 fun v H4 => r' y v H4 Q else Q (.bl false) H3) : tChain r r' ta tb tc σ H Q := h
theorem r_for {wi : TI} {g : TG} {b : TS} (h : wi σ H fun J H1 => ∃ W : Nat → Nat → L2.St → Hp → Prop, (∃ m, W 0 m σ H1) ∧ ∀ i m σ H, W i m σ H →
    (J.stop i H ∧ D.nx σ H) ∨ (J.go i H ∧ ∃ N : L2.St → Hp → Prop, (∀ σ' H', N σ' H' → ∃ m', m' < m ∧ W (i + 1) m' σ' H') ∧ ∀ x H', J.yld i H x H' → g x σ H' fun σ2 H2 => b { D with nx := N, ct := N, bk := D.nx } σ2 H2)) : tFor wi g b D σ H := h
theorem r_iList {R : It → Hp → Prop} (h : te σ H fun x H1 => ∃ a, x = .ref a ∧ (∃ xs, SqL K H1 a xs) ∧ R (Itl K a) H1) : iList K te σ H R := h
theorem r_iTup {R : It → Hp → Prop} (h : te σ H fun x H1 => ∃ a, x = .ref a ∧ (∃ xs, SqT K H1 a xs) ∧ R (Itt K a) H1) : iTup K te σ H R := h
theorem r_rng1 {tA : TA} {R : It → Hp → Prop} (h : tA σ H fun vs H1 => ∃ j : Int, vs = [.int j] ∧ -(2 ^ 62) ≤ j ∧ j < 2 ^ 62 ∧ R (Itr 0 j.toNat) H1) : iRng1 tA σ H R := h
theorem r_rng2 {tA : TA} {R : It → Hp → Prop} (h : tA σ H fun vs H1 => ∃ i j : Int, vs = [.int i, .int j] ∧ (-(2 ^ 62) ≤ i ∧ i < 2 ^ 62 ∧ -(2 ^ 62) ≤ j ∧ j < 2 ^ 62) ∧ R (Itr i (j - i).toNat) H1) : iRng2 tA σ H R := h
theorem r_if {c : Prop} [Decidable c] {A B : Prop} (h1 : c → A) (h2 : ¬ c → B) : if decide c = true then A else B := by
  by_cases h : c
  · rw [decide_eq_true h, if_pos rfl]
    exact h1 h
  · rw [decide_eq_false h, if_neg Bool.false_ne_true]
    exact h2 h
theorem r_ifN {c : Prop} [Decidable c] {A B : Prop} (h1 : ¬ c → A) (h2 : c → B) : if (!decide c) = true then A else B := by
  by_cases h : c
  · rw [decide_eq_true h]
    exact h2 h
  · rw [decide_eq_false h]
    exact h1 h
theorem r_ifT {A B : Prop} (h : A) : if true = true then A else B := h
theorem r_ifF {A B : Prop} (h : B) : if false = true then A else B := h
theorem r_ifNT {A B : Prop} (h : B) : if (!true) = true then A else B := h
theorem r_ifNF {A B : Prop} (h : A) : if (!false) = true then A else B := h
end

section
variable {σ : L2.St} {H : Hp} {D : Ends} {t u : TS}
end
/-! ### division by any int that is not nought -/
def CDivX (_ j : Int) : Prop := j ≠ 0 ∧ j.natAbs.log2 < 9000
theorem op_fdivX {X : Cx} : OpR X (binaryOp .FloorDiv) (rI CDivX fun i j => .int (i.fdiv j)) := opI fun _ _ _ _ _ _ _ hc q => PyProof.Rows.floordiv_int hc.1 q (.inl (PyProof.noPylong_of_log2 hc.2))

/-! ### heaps -/
section
variable {K : PySem.W.Frag} {H H' H1 : Hp} {a b p q : Addr} {xs ys : List V} {o : HO}
theorem sm_t (e : Same H H') (h : SqT K H a xs) : SqT K H' a xs := by
  rcases h with (h | ⟨o, h⟩) | h
  · exact .inl (.inl (e _ _ h))
  · exact .inl (.inr ⟨o, e _ _ h⟩)
  · exact .inr h
theorem sm_l (e : Same H H') (h : SqL K H a xs) : SqL K H' a xs := e.seq h
theorem sm_new (h : H p = none) : Same H (upd H p o) := fun b u e => by
  rw [upd_ne (ne_of_none e h)]
  exact e
end

/-! ### rules whose reading names K outright (within a comprehension) -/
section
variable {X : Cx}
theorem ixT (K : PySem.W.Frag) (h : X.K = K := by rfl) : IxR X (rIxT K) := by
  subst h
  exact ix_tup
theorem ixL (K : PySem.W.Frag) (h : X.K = K := by rfl) : IxR X (rIxL K) := by
  subst h
  exact ix_list
end
/-! ### what is kept but for the list at p; tuples -/
def Fm (p : Addr) (H H' : Hp) : Prop := ∀ b o, b ≠ p → H b = some o → H' b = some o
section
variable {K : PySem.W.Frag} {H H' H1 : Hp} {a b p q : Addr} {xs ys : List V} {o : HO}
theorem Fm.refl : Fm p H H := fun _ _ _ h => h
theorem Fm.trans (e : Fm p H H1) (f : Fm p H1 H') : Fm p H H' := fun b o n h => f b o n (e b o n h)
theorem Fm.free (e : Fm p H H') (n : a ≠ p) (h : H' a = none) : H a = none := by
  cases q : H a with
  | none => rfl
  | some u =>
    rw [e a u n q] at h
    cases h
/-- tuples are kept -/
def Tk (H H' : Hp) : Prop := ∀ b xs, (H b = some (.tup xs) → H' b = some (.tup xs)) ∧ ∀ o, H b = some (.frz o (.tup xs)) → H' b = some (.frz o (.tup xs))
theorem Tk.refl : Tk H H := fun _ _ => ⟨id, fun _ => id⟩
theorem Tk.trans (e : Tk H H1) (f : Tk H1 H') : Tk H H' := fun b xs => ⟨fun h => (f b xs).1 ((e b xs).1 h), fun o h => (f b xs).2 o ((e b xs).2 o h)⟩
theorem Fm.tk (e : Fm p H H') (h : H p = some (.lst ys)) : Tk H H' := fun b xs =>
  ⟨fun q => e b _ (ne_of q h (fun z => by cases z)) q, fun o q => e b _ (ne_of q h (fun z => by cases z)) q⟩
end

/-! ### data -/
section
variable {K : PySem.W.Frag} {H H' : Hp}
theorem dpa_len : ∀ {vs : List V} {ds : List PyData}, DpAll K H vs ds → vs.length = ds.length
  | _, _, .nil => rfl
  | _, _, .cons _ t => congrArg (· + 1) (dpa_len t)
theorem dpa_get : ∀ {vs : List V} {ds : List PyData} {i : Nat} {d : PyData}, DpAll K H vs ds → ds[i]? = some d → ∃ v, vs[i]? = some v ∧ Dp K H v d
  | _, _, _, _, .nil, e => by simp at e
  | _, _, 0, _, .cons h _, e => by
    simp at e
    subst e
    exact ⟨_, rfl, h⟩
  | _, _, i + 1, d, .cons _ t, e => by
    obtain ⟨v, h1, h2⟩ := dpa_get (i := i) (d := d) t (by simpa using e)
    exact ⟨v, by simpa using h1, h2⟩
/-- data without lists -/
inductive Tu : PyData → Prop
  | non : Tu .none
  | bl (b : Bool) : Tu (.bool b)
  | int (i : Int) : Tu (.int i)
  | str (x : Str) : Tu (.str x)
  | tup {ds : List PyData} (h : ∀ d, d ∈ ds → Tu d) : Tu (.tuple ds)
/-- the types of what is read -/
theorem tyx_t {a : Addr} {xs : List V} (s : SqT K H a xs) : TyX K H (.ref a) (.type "tuple") := by
  rcases s with (s | ⟨o, s⟩) | ⟨o, its, n, e, c, _⟩
  · exact .base (.tup s)
  · exact .fTuple s
  · exact .kTuple e c
theorem tyx_l {a : Addr} {xs : List V} (s : SqL K H a xs) : TyX K H (.ref a) (.type "list") := by
  rcases s with (s | ⟨o, s⟩) | ⟨o, its, n, e, c, _⟩
  · exact .base (.lst s)
  · exact .base (.frz s)
  · exact .kList e c
theorem r_isi {Q : VK} {x : V} {a c : String} (b : Bool) (ty : TyX K H x (.type a)) (e : kitB a c = some b) (h : Q (.bl b) H) : rIsi K [x, .ty c] H Q := ⟨x, .ty c, .type a, .type c, b, rfl, .ty c, ty, kit_ty e, h⟩
/-- data at most n deep -/
inductive Dn : Nat → PyData → Prop
  | non (n : Nat) : Dn n .none
  | bl (n : Nat) (b : Bool) : Dn n (.bool b)
  | int (n : Nat) (i : Int) : Dn n (.int i)
  | str (n : Nat) (x : Str) : Dn n (.str x)
  | tup {n : Nat} {ds : List PyData} (l : ds.length ≤ 100000) (h : ∀ d, d ∈ ds → Dn n d) : Dn (n + 1) (.tuple ds)
  | lst {n : Nat} {ds : List PyData} (l : ds.length ≤ 100000) (h : ∀ d, d ∈ ds → Dn n d) : Dn (n + 1) (.list ds)
theorem Dn.up : ∀ {n : Nat} {d : PyData}, Dn n d → Dn (n + 1) d
  | _, _, .non _ => .non _
  | _, _, .bl _ b => .bl _ b
  | _, _, .int _ i => .int _ i
  | _, _, .str _ x => .str _ x
  | _, _, .tup l h => .tup l fun d hd => (h d hd).up
  | _, _, .lst l h => .lst l fun d hd => (h d hd).up
end
end Bo

/-! ### what code is worth, as functions on plain values: lists that are changed belong to one slot each -/
namespace Bo
open PySem L2
/-! data that stand: lists and tuples that nobody changes -/
mutual
inductive Da (K : PySem.W.Frag) (B : Hp) : V → PyData → Prop
  | non : Da K B .non .none
  | bl (b : Bool) : Da K B (.bl b) (.bool b)
  | int (i : Int) : Da K B (.int i) (.int i)
  | str (x : Str) : Da K B (.str x) (.str x)
  | lst {a : Addr} {xs : List V} {ds : List PyData} (s : B a = some (.lst xs)) (h : DaAll K B xs ds) : Da K B (.ref a) (.list ds)
  | tup {a : Addr} {xs : List V} {ds : List PyData} (s : SqT K B a xs) (h : DaAll K B xs ds) : Da K B (.ref a) (.tuple ds)
inductive DaAll (K : PySem.W.Frag) (B : Hp) : List V → List PyData → Prop
  | nil : DaAll K B [] []
  | cons {v : V} {d : PyData} {vs : List V} {ds : List PyData} (h : Da K B v d) (t : DaAll K B vs ds) : DaAll K B (v :: vs) (d :: ds)
end
section
variable {K : PySem.W.Frag} {B B' : Hp}
mutual
theorem da_mono (e : Same B B') : ∀ {v : V} {d : PyData}, Da K B v d → Da K B' v d
  | _, _, .non => .non
  | _, _, .bl b => .bl b
  | _, _, .int i => .int i
  | _, _, .str x => .str x
  | _, _, .lst s a => .lst (e _ _ s) (daa_mono e a)
  | _, _, .tup s a => .tup (sm_t e s) (daa_mono e a)
theorem daa_mono (e : Same B B') : ∀ {vs : List V} {ds : List PyData}, DaAll K B vs ds → DaAll K B' vs ds
  | _, _, .nil => .nil
  | _, _, .cons h t => .cons (da_mono e h) (daa_mono e t)
end
mutual
theorem da_dp : ∀ {v : V} {d : PyData}, Da K B v d → Dp K B v d
  | _, _, .non => .non
  | _, _, .bl b => .bl b
  | _, _, .int i => .int i
  | _, _, .str x => .str x
  | _, _, .lst s a => .lst (SqL.of s) (daa_dp a)
  | _, _, .tup s a => .tup s (daa_dp a)
theorem daa_dp : ∀ {vs : List V} {ds : List PyData}, DaAll K B vs ds → DpAll K B vs ds
  | _, _, .nil => .nil
  | _, _, .cons h t => .cons (da_dp h) (daa_dp t)
end
theorem daa_len : ∀ {vs : List V} {ds : List PyData}, DaAll K B vs ds → vs.length = ds.length
  | _, _, .nil => rfl
  | _, _, .cons _ t => congrArg (· + 1) (daa_len t)
theorem daa_get : ∀ {vs : List V} {ds : List PyData} {i : Nat} {d : PyData}, DaAll K B vs ds → ds[i]? = some d → ∃ v, vs[i]? = some v ∧ Da K B v d
  | _, _, _, _, .nil, e => nomatch (show (none : Option PyData) = some _ from e)
  | _, _, 0, _, .cons h _, e => by
    cases (Option.some.inj e)
    exact ⟨_, rfl, h⟩
  | _, _, i + 1, d, .cons _ t, e => daa_get (i := i) (d := d) t e
theorem daa_at : ∀ {vs : List V} {ds : List PyData} {i : Nat} {v : V}, DaAll K B vs ds → vs[i]? = some v → ∃ d, ds[i]? = some d ∧ Da K B v d
  | _, _, _, _, .nil, e => nomatch (show (none : Option V) = some _ from e)
  | _, _, 0, _, .cons h _, e => by
    cases (Option.some.inj e)
    exact ⟨_, rfl, h⟩
  | _, _, i + 1, d, .cons _ t, e => daa_at (i := i) (v := d) t e
theorem daa_app : ∀ {vs ws : List V} {ds es : List PyData}, DaAll K B vs ds → DaAll K B ws es → DaAll K B (vs ++ ws) (ds ++ es)
  | _, _, _, _, .nil, s => s
  | _, _, _, _, .cons h t, s => .cons h (daa_app t s)
theorem daa_take : ∀ {vs : List V} {ds : List PyData} (n : Nat), DaAll K B vs ds → DaAll K B (vs.take n) (ds.take n)
  | _, _, 0, _ => .nil
  | _, _, _ + 1, .nil => .nil
  | _, _, n + 1, .cons h t => .cons h (daa_take n t)
theorem daa_drop : ∀ {vs : List V} {ds : List PyData} (n : Nat), DaAll K B vs ds → DaAll K B (vs.drop n) (ds.drop n)
  | _, _, 0, h => h
  | _, _, _ + 1, .nil => .nil
  | _, _, n + 1, .cons _ t => daa_drop n t
theorem daa_set : ∀ {vs : List V} {ds : List PyData} {v : V} {d : PyData} (i : Nat), DaAll K B vs ds → Da K B v d → DaAll K B (vs.set i v) (ds.set i d)
  | _, _, _, _, _, .nil, _ => .nil
  | _, _, _, _, 0, .cons _ t, h => .cons h t
  | _, _, _, _, i + 1, .cons g t, h => .cons g (daa_set i t h)
end
/-- a field's worth -/
inductive FV where
  | dat (d : PyData)
  | own (ds : List PyData)
  | dic (kvs : List (Key × PyData))
/-- an error: its class, what it holds, and as what it leaves the object that the method is called on -/
structure Exc where
  cls : String
  arg : Option PyData
  ob : Option (List (Str × FV))
inductive R (α : Type) where
  | ok (a : α)
  | err (e : Exc)
  | bad
namespace R
variable {α β : Type}
def bind (x : R α) (f : α → R β) : R β := match x with
  | .ok a => f a
  | .err e => .err e
  | .bad => .bad
@[simp] theorem bind_ok {a : α} {f : α → R β} : bind (.ok a) f = f a := rfl
@[simp] theorem bind_err {e : Exc} {f : α → R β} : bind (.err e) f = .err e := rfl
@[simp] theorem bind_bad {f : α → R β} : bind .bad f = .bad := rfl
/-- only where c holds -/
def when (c : Prop) [Decidable c] (x : R α) : R α := if c then x else .bad
@[simp] theorem when_pos {c : Prop} [Decidable c] {x : R α} (h : c) : when c x = x := if_pos h
theorem when_neg {c : Prop} [Decidable c] {x : R α} (h : ¬ c) : when c x = .bad := if_neg h
end R
/-- a slot's worth: data that stay, a list of its own, a dict of its own -/
inductive SV where
  | dat (d : PyData)
  | own (ds : List PyData)
  | dic (kvs : List (Key × PyData))
  | scr (ns : List Int)
  | obj (nm : Str) (fs : List (Str × FV))
def SV.mine : SV → Bool
  | .dat _ => false
  | .scr _ => false
  | .obj _ _ => false
  | _ => true
def SV.isObj : SV → Bool
  | .obj _ _ => true
  | _ => false
abbrev SS := List (Option SV)
/-- the entry: the heap, what of it stays, the boxes (the first parameters), what errors are to meet -/
structure Ct (K : PySem.W.Frag) (n : Nat) where
  H0 : Hp
  B0 : Hp
  bx : List (Option Addr)
  hbx : bx.length = n
  er : Exc → V → Hp → Prop
  /-- the object that a method is called on -/
  ob : Option (Addr × Str) := none
section
variable {K : PySem.W.Frag} {n : Nat}
structure Base (C : Ct K n) (H B : Hp) : Prop where
  keep : ∀ a o, some a ∉ C.bx → C.H0 a = some o → H a = some o
  b0 : Same C.B0 B
  bh : Same B H
  fr : ∀ a o, B a = some o → C.B0 a = some o ∨ C.H0 a = none
def DpKs (K : PySem.W.Frag) (B : Hp) (ws : List (Key × V)) (kvs : List (Key × PyData)) : Prop := Paired (fun w k => w.1 = k.1 ∧ Da K B w.2 k.2) ws kvs
/-- a field's worth -/
def FR (K : PySem.W.Frag) (h B : Hp) (v : V) : FV → Prop
  | .dat d => Da K B v d
  | .own ds => ∃ p vs, v = .ref p ∧ h p = some (.lst vs) ∧ DaAll K B vs ds
  | .dic kvs => ∃ p ws, v = .ref p ∧ h p = some (.dK ws) ∧ DpKs K B ws kvs
/-- cells that belong to one field each -/
structure Parts (h : Hp) (a : Addr) (g : Nat → Hp) : Prop where
  sub : ∀ i p o, g i p = some o → h p = some o
  dis : ∀ i j p o q, g i p = some o → g j p = some q → i = j
  na : ∀ i, g i a = none
/-- the cells of h that stand for an object -/
structure ObAt (K : PySem.W.Frag) (h B : Hp) (a : Addr) (nm : Str) (fs : List (Str × FV)) : Prop where
  at_ : ∃ c dx us g, PySem.W.nsIn K mainGlobals nm = some (some (.ref c)) ∧ h a = some (.ins c dx us) ∧ us.map Prod.fst = fs.map Prod.fst ∧ Parts h a g ∧
    ∀ (i : Nat) u f, us[i]? = some u → fs[i]? = some f → FR K (g i) B u.2 f.2
def SR (C : Ct K n) (H B : Hp) (v : V) : SV → Prop
  | .obj _ _ => True
  | .scr ns => ∃ a, v = .ref a ∧ SqL K B a (ns.map V.int)
  | .dat d => Da K B v d
  | .own ds => ∃ a vs, v = .ref a ∧ H a = some (.lst vs) ∧ B a = none ∧ DaAll K B vs ds
  | .dic kvs => ∃ a ws, v = .ref a ∧ H a = some (.dK ws) ∧ B a = none ∧ DpKs K B ws kvs
structure Rep0 (C : Ct K n) (σ : L2.St) (H B : Hp) (S : SS) : Prop where
  base : Base C H B
  len : S.length = σ.length
  slot : ∀ (i : Nat) s, S[i]? = some (some s) → ∃ v, σ[i]? = some (some v) ∧ SR C H B v s
  dis : ∀ (i j : Nat) s u a, S[i]? = some (some s) → S[j]? = some (some u) → s.mine = true → u.mine = true → σ[i]? = some (some (.ref a)) → σ[j]? = some (some (.ref a)) → i = j
  ownf : ∀ (i : Nat) s a, S[i]? = some (some s) → s.mine = true → σ[i]? = some (some (.ref a)) → C.H0 a = none ∨ C.bx[i]? = some (some a)
  box : ∀ (i : Nat) a, C.bx[i]? = some (some a) → σ[i]? = some (some (.ref a)) ∧ ∃ s, S[i]? = some (some s) ∧ s.mine = true
/-- cells beside what is to be kept -/
def Side (C : Ct K n) (F : Hp) : Prop := ∀ a o, F a = some o → C.H0 a = none ∧ C.B0 a = none ∧ some a ∉ C.bx
/-- the object stands as an error tells it -/
def ObT (C : Ct K n) (H B : Hp) (e : Exc) : Prop := ∀ a nm fs, C.ob = some (a, nm) → e.ob = some fs → ∃ F, Side C F ∧ (∀ p o, F p = some o → H p = some o ∧ B p = none) ∧ ObAt K F B a nm fs
/-- an error goes out -/
def Ct.Out (C : Ct K n) (e : Exc) : Prop := ∀ H B v, Base C H B → ObT C H B e → (∀ d, e.arg = some d → Da K B v d) → C.er e v H
theorem obT_no {C : Ct K n} {H B : Hp} {e : Exc} (h : C.ob = none) : ObT C H B e := fun a nm fs z => by
  rw [h] at z
  cases z
def Post {α : Type} (C : Ct K n) (x : R α) (k : α → Prop) : Prop := match x with
  | .ok a => k a
  | .err e => C.Out e
  | .bad => False
section
variable {α β : Type} {C : Ct K n} {x : R α} {f : α → R β} {k k' : α → Prop} {g : β → Prop}
theorem post_bind : Post C (x.bind f) g ↔ Post C x fun a => Post C (f a) g := by cases x <;> exact Iff.rfl
theorem Post.mono (h : Post C x k) (m : ∀ a, k a → k' a) : Post C x k' := by
  cases x with
  | ok a => exact m a h
  | err e => exact h
  | bad => exact h
theorem post_when {c : Prop} [Decidable c] : Post C (R.when c x) k ↔ c ∧ Post C x k := by
  by_cases h : c
  · rw [R.when_pos h]
    exact ⟨fun q => ⟨h, q⟩, fun q => q.2⟩
  · rw [R.when_neg h]
    exact ⟨fun q => q.elim, fun q => (h q.1).elim⟩
end
/-! ### the state under changes -/
section
variable {C : Ct K n} {σ : L2.St} {H B : Hp} {S : SS}
theorem Rep0.own_at (R : Rep0 C σ H B S) {i : Nat} {s : SV} (h : S[i]? = some (some s)) (m : s.mine = true) : ∃ a o, σ[i]? = some (some (.ref a)) ∧ H a = some o ∧ B a = none := by
  obtain ⟨v, hv, r⟩ := R.slot i s h
  cases s with
  | dat d => cases m
  | scr ns => cases m
  | obj nm fs => cases m
  | own ds =>
    obtain ⟨a, vs, rfl, h1, h2, _⟩ := r
    exact ⟨a, _, hv, h1, h2⟩
  | dic ds =>
    obtain ⟨a, vs, rfl, h1, h2, _⟩ := r
    exact ⟨a, _, hv, h1, h2⟩
theorem Rep0.new (R : Rep0 C σ H B S) {p : Addr} (hp : H p = none) : C.H0 p = none ∧ B p = none ∧ some p ∉ C.bx := by
  have nb : some p ∉ C.bx := fun hb => by
    obtain ⟨i, hi⟩ := List.getElem?_of_mem hb
    obtain ⟨e, s, hs, m⟩ := R.box i p hi
    obtain ⟨a, o, e2, h2, _⟩ := R.own_at hs m
    rw [e] at e2
    cases e2
    rw [hp] at h2
    cases h2
  refine ⟨?_, ?_, nb⟩
  · cases q : C.H0 p with
    | none => rfl
    | some o =>
      rw [R.base.keep p o nb q] at hp
      cases hp
  · cases q : B p with
    | none => rfl
    | some o =>
      rw [R.base.bh p o q] at hp
      cases hp
theorem dpks_mono {B B' : Hp} (e : Same B B') : ∀ {ws : List (Key × V)} {ks : List (Key × PyData)}, DpKs K B ws ks → DpKs K B' ws ks
  | _, _, .nil => .nil
  | _, _, .cons h t => .cons ⟨h.1, da_mono e h.2⟩ (dpks_mono e t)
theorem FR.mono {h B B' : Hp} {v : V} {f : FV} (e : Same B B') (r : FR K h B v f) : FR K h B' v f := by
  cases f with
  | dat d => exact da_mono e r
  | own ds =>
    obtain ⟨p, vs, q1, q2, q3⟩ := r
    exact ⟨p, vs, q1, q2, daa_mono e q3⟩
  | dic ds =>
    obtain ⟨p, vs, q1, q2, q3⟩ := r
    exact ⟨p, vs, q1, q2, dpks_mono e q3⟩
theorem ObAt.mono {h B B' : Hp} {a : Addr} {nm : Str} {fs : List (Str × FV)} (e : Same B B') (r : ObAt K h B a nm fs) : ObAt K h B' a nm fs := by
  obtain ⟨c, dx, us, g, q1, q2, q3, q4, q5⟩ := r.at_
  exact ⟨c, dx, us, g, q1, q2, q3, q4, fun i u f x y => (q5 i u f x y).mono e⟩
theorem SR.mono {H' B' : Hp} {v : V} {s : SV} (eB : Same B B') (hh : s.mine = true → ∀ a, v = .ref a → ∀ o, H a = some o → B a = none → H' a = some o ∧ B' a = none) (h : SR C H B v s) : SR C H' B' v s := by
  cases s with
  | dat d => exact da_mono eB h
  | obj nm fs => trivial
  | scr ns =>
    obtain ⟨a, e, q⟩ := h
    exact ⟨a, e, sm_l eB q⟩
  | own ds =>
    obtain ⟨a, vs, rfl, h1, h2, h3⟩ := h
    obtain ⟨q1, q2⟩ := hh rfl a rfl _ h1 h2
    exact ⟨a, vs, rfl, q1, q2, daa_mono eB h3⟩
  | dic ds =>
    obtain ⟨a, vs, rfl, h1, h2, h3⟩ := h
    obtain ⟨q1, q2⟩ := hh rfl a rfl _ h1 h2
    exact ⟨a, vs, rfl, q1, q2, dpks_mono eB h3⟩
/-- the heaps grow (or change where nothing of ours stands) -/
theorem Rep0.grow {H' B' : Hp} (R : Rep0 C σ H B S) (b : Base C H' B') (eB : Same B B') (hh : ∀ a o, H a = some o → B a = none → (∃ i : Nat, ∃ s, S[i]? = some (some s) ∧ s.mine = true ∧ σ[i]? = some (some (.ref a))) → H' a = some o ∧ B' a = none) : Rep0 C σ H' B' S :=
  ⟨b, R.len, fun i s h => by
    obtain ⟨v, hv, r⟩ := R.slot i s h
    exact ⟨v, hv, SR.mono eB (fun m a e o h1 h2 => hh a o h1 h2 ⟨i, s, h, m, by rw [hv, e]⟩) r⟩, R.dis, R.ownf, R.box⟩
/-- a new thing that stays -/
theorem Rep0.laid (R : Rep0 C σ H B S) {p : Addr} {o : HO} (hp : H p = none) : Rep0 C σ (upd H p o) (upd B p o) S ∧ Same B (upd B p o) := by
  obtain ⟨h0, hb, nb⟩ := R.new hp
  have eB : Same B (upd B p o) := sm_new hb
  refine ⟨R.grow ⟨fun a u n q => ?_, R.base.b0.trans eB, fun a u q => ?_, fun a u q => ?_⟩ eB fun a u h1 h2 _ => ?_, eB⟩
  · rw [upd_ne (ne_of_none q h0)]
    exact R.base.keep a u n q
  · by_cases e : a = p
    · subst e
      rw [upd_same] at q ⊢
      exact q
    · rw [upd_ne e] at q ⊢
      exact R.base.bh a u q
  · by_cases e : a = p
    · subst e
      exact .inr h0
    · rw [upd_ne e] at q
      exact R.base.fr a u q
  · have n := ne_of_none h1 hp
    rw [upd_ne n, upd_ne n]
    exact ⟨h1, h2⟩
/-- a new thing that does not stay (it may be taken by a slot) -/
theorem Rep0.loose (R : Rep0 C σ H B S) {p : Addr} {o : HO} (hp : H p = none) : Rep0 C σ (upd H p o) B S := by
  obtain ⟨h0, hb, nb⟩ := R.new hp
  refine R.grow ⟨fun a u n q => ?_, R.base.b0, fun a u q => ?_, R.base.fr⟩ (Same.refl _) fun a u h1 h2 _ => ?_
  · rw [upd_ne (ne_of_none q h0)]
    exact R.base.keep a u n q
  · rw [upd_ne (ne_of_none q hb)]
    exact R.base.bh a u q
  · rw [upd_ne (ne_of_none h1 hp)]
    exact ⟨h1, h2⟩
/-- a slot is stored: data -/
theorem Rep0.put (R : Rep0 C σ H B S) {i : Nat} {v : V} {d : PyData} (hb : n ≤ i) (h : Da K B v d) : Rep0 C (σ.set i (some v)) H B (S.set i (some (.dat d))) := by
  have ne : ∀ j s, (S.set i (some (.dat d)))[j]? = some (some s) → s.mine = true → j ≠ i ∧ S[j]? = some (some s) := fun j s h m => by
    by_cases e : j = i
    · subst e
      have hl : j < S.length := by
        have := (List.getElem?_eq_some_iff.mp h).1
        simpa using this
      rw [List.getElem?_set_self hl] at h
      cases h
      cases m
    · rw [List.getElem?_set_ne (Ne.symm e)] at h
      exact ⟨e, h⟩
  refine ⟨R.base, by simp [R.len], fun j s h2 => ?_, fun j k s u a h1 h2 m1 m2 e1 e2 => ?_, fun j s a h1 m e => ?_, fun j a h1 => ?_⟩
  · by_cases e : j = i
    · subst e
      have hl : j < S.length := by
        have := (List.getElem?_eq_some_iff.mp h2).1
        simpa using this
      rw [List.getElem?_set_self hl] at h2
      cases h2
      exact ⟨v, List.getElem?_set_self (by rw [← R.len]; exact hl), h⟩
    · rw [List.getElem?_set_ne (Ne.symm e)] at h2 ⊢
      exact R.slot j s h2
  · obtain ⟨n1, q1⟩ := ne j s h1 m1
    obtain ⟨n2, q2⟩ := ne k u h2 m2
    rw [List.getElem?_set_ne (Ne.symm n1)] at e1
    rw [List.getElem?_set_ne (Ne.symm n2)] at e2
    exact R.dis j k s u a q1 q2 m1 m2 e1 e2
  · obtain ⟨n1, q1⟩ := ne j s h1 m
    rw [List.getElem?_set_ne (Ne.symm n1)] at e
    exact R.ownf j s a q1 m e
  · have n1 : j ≠ i := by
      have := (List.getElem?_eq_some_iff.mp h1).1
      have := C.hbx
      omega
    rw [List.getElem?_set_ne (Ne.symm n1), List.getElem?_set_ne (Ne.symm n1)]
    exact R.box j a h1
/-- a slot takes a new list or dict -/
theorem Rep0.take (R : Rep0 C σ H B S) {i : Nat} {p : Addr} {s : SV} (hb : n ≤ i) (m : s.mine = true) (h : SR C H B (.ref p) s) (h0 : C.H0 p = none)
    (hf : ∀ (j : Nat) u, S[j]? = some (some u) → u.mine = true → σ[j]? ≠ some (some (.ref p))) : Rep0 C (σ.set i (some (.ref p))) H B (S.set i (some s)) := by
  have at_ : ∀ j u, (S.set i (some s))[j]? = some (some u) → (j = i ∧ u = s ∧ (σ.set i (some (.ref p)))[j]? = some (some (.ref p))) ∨ (j ≠ i ∧ S[j]? = some (some u) ∧ (σ.set i (some (.ref p)))[j]? = σ[j]?) := fun j u h => by
    by_cases e : j = i
    · subst e
      have hl : j < S.length := by
        have := (List.getElem?_eq_some_iff.mp h).1
        simpa using this
      rw [List.getElem?_set_self hl] at h
      cases h
      exact .inl ⟨rfl, rfl, List.getElem?_set_self (by rw [← R.len]; exact hl)⟩
    · rw [List.getElem?_set_ne (Ne.symm e)] at h
      exact .inr ⟨e, h, List.getElem?_set_ne (Ne.symm e)⟩
  refine ⟨R.base, by simp [R.len], fun j u h2 => ?_, fun j k u w a h1 h2 m1 m2 e1 e2 => ?_, fun j u a h1 m e => ?_, fun j a h1 => ?_⟩
  · rcases at_ j u h2 with ⟨e, e2, e3⟩ | ⟨n, q, e3⟩
    · subst e2
      exact ⟨_, e3, h⟩
    · rw [e3]
      exact R.slot j u q
  · rcases at_ j u h1 with ⟨x1, x2, x3⟩ | ⟨x1, x2, x3⟩
    · rcases at_ k w h2 with ⟨y1, y2, y3⟩ | ⟨y1, y2, y3⟩
      · rw [x1, y1]
      · rw [x3] at e1
        cases e1
        rw [y3] at e2
        exact absurd e2 (hf k w y2 m2)
    · rcases at_ k w h2 with ⟨y1, y2, y3⟩ | ⟨y1, y2, y3⟩
      · rw [y3] at e2
        cases e2
        rw [x3] at e1
        exact absurd e1 (hf j u x2 m1)
      · rw [x3] at e1
        rw [y3] at e2
        exact R.dis j k u w a x2 y2 m1 m2 e1 e2
  · rcases at_ j u h1 with ⟨x1, x2, x3⟩ | ⟨x1, x2, x3⟩
    · rw [x3] at e
      cases e
      exact .inl h0
    · rw [x3] at e
      exact R.ownf j u a x2 m e
  · have n1 : j ≠ i := by
      have := (List.getElem?_eq_some_iff.mp h1).1
      have := C.hbx
      omega
    rw [List.getElem?_set_ne (Ne.symm n1), List.getElem?_set_ne (Ne.symm n1)]
    exact R.box j a h1
/-- a list or dict of a slot is changed -/
theorem Rep0.write (R : Rep0 C σ H B S) {i : Nat} {a : Addr} {s s' : SV} {o : HO} (h : S[i]? = some (some s)) (m : s.mine = true) (m' : s'.mine = true) (hv : σ[i]? = some (some (.ref a))) (r : SR C (upd H a o) B (.ref a) s') :
    Rep0 C σ (upd H a o) B (S.set i (some s')) := by
  obtain ⟨a', o', e1, e2, e3⟩ := R.own_at h m
  rw [hv] at e1
  cases e1
  have hl : i < S.length := (List.getElem?_eq_some_iff.mp h).1
  have at_ : ∀ j u, (S.set i (some s'))[j]? = some (some u) → (j = i ∧ u = s') ∨ (j ≠ i ∧ S[j]? = some (some u)) := fun j u h => by
    by_cases e : j = i
    · subst e
      rw [List.getElem?_set_self hl] at h
      cases h
      exact .inl ⟨rfl, rfl⟩
    · rw [List.getElem?_set_ne (Ne.symm e)] at h
      exact .inr ⟨e, h⟩
  have old : ∀ (j : Nat) (u : SV), (S.set i (some s'))[j]? = some (some u) → u.mine = true → ∃ u' : SV, S[j]? = some (some u') ∧ u'.mine = true := fun j u h2 m2 => by
    rcases at_ j u h2 with ⟨x1, x2⟩ | ⟨x1, x2⟩
    · subst x1
      exact ⟨s, h, m⟩
    · exact ⟨u, x2, m2⟩
  refine ⟨⟨fun b u n q => ?_, R.base.b0, fun b u q => ?_, R.base.fr⟩, by simp [R.len], fun j u h2 => ?_, fun j k u w b h1 h2 m1 m2 q1 q2 => ?_, fun j u b h1 m e => ?_, fun j b h1 => ?_⟩
  · have : b ≠ a := by
      rintro rfl
      rcases R.ownf i s b h m hv with z | z
      · rw [z] at q
        cases q
      · exact n (List.mem_of_getElem? z)
    rw [upd_ne this]
    exact R.base.keep b u n q
  · rw [upd_ne (ne_of_none q e3)]
    exact R.base.bh b u q
  · rcases at_ j u h2 with ⟨x1, x2⟩ | ⟨x1, x2⟩
    · subst x1 x2
      exact ⟨_, hv, r⟩
    · obtain ⟨v, q1, q2⟩ := R.slot j u x2
      refine ⟨v, q1, SR.mono (Same.refl _) (fun mu b e ob h1 h2 => ⟨?_, h2⟩) q2⟩
      rw [upd_ne]
      · exact h1
      · rintro rfl
        exact x1 (R.dis j i u s b x2 h mu m (by rw [q1, e]) hv)
  · obtain ⟨u', z1, z2⟩ := old j u h1 m1
    obtain ⟨w', z3, z4⟩ := old k w h2 m2
    exact R.dis j k u' w' b z1 z3 z2 z4 q1 q2
  · obtain ⟨u', z1, z2⟩ := old j u h1 m
    exact R.ownf j u' b z1 z2 e
  · obtain ⟨q1, u, q2, q3⟩ := R.box j b h1
    refine ⟨q1, ?_⟩
    by_cases e : j = i
    · subst e
      exact ⟨s', List.getElem?_set_self hl, m'⟩
    · rw [List.getElem?_set_ne (Ne.symm e)]
      exact ⟨u, q2, q3⟩
/-- a list of a slot stays from here on -/
theorem Rep0.rest (R : Rep0 C σ H B S) {i : Nat} {ds : List PyData} (hb : n ≤ i) (h : S[i]? = some (some (.own ds))) : ∃ B', Rep0 C σ H B' (S.set i (some (.dat (.list ds)))) ∧ Same B B' := by
  obtain ⟨v, hv, a, vs, rfl, h1, h2, h3⟩ := R.slot i _ h
  have hl : i < S.length := (List.getElem?_eq_some_iff.mp h).1
  have eB : Same B (upd B a (.lst vs)) := sm_new h2
  refine ⟨upd B a (.lst vs), ⟨⟨R.base.keep, R.base.b0.trans eB, fun b o q => ?_, fun b o q => ?_⟩, by simp [R.len], fun j s hj => ?_, fun j k s u b q1 q2 m1 m2 e1 e2 => ?_, fun j s b q m e => ?_, fun j b q => ?_⟩, eB⟩
  · by_cases e : b = a
    · subst e
      rw [upd_same] at q
      cases q
      exact h1
    · rw [upd_ne e] at q
      exact R.base.bh b o q
  · by_cases e : b = a
    · subst e
      rcases R.ownf i _ b h rfl hv with z | z
      · exact .inr z
      · have := (List.getElem?_eq_some_iff.mp z).1
        have := C.hbx
        omega
    · rw [upd_ne e] at q
      exact R.base.fr b o q
  · by_cases e : j = i
    · subst e
      rw [List.getElem?_set_self hl] at hj
      cases hj
      exact ⟨_, hv, .lst (upd_same) (daa_mono eB h3)⟩
    · rw [List.getElem?_set_ne (Ne.symm e)] at hj
      obtain ⟨v, q1, q2⟩ := R.slot j s hj
      refine ⟨v, q1, SR.mono eB (fun mu b e2 ob z1 z2 => ⟨z1, ?_⟩) q2⟩
      rw [upd_ne]
      · exact z2
      · rintro rfl
        exact e (R.dis j i s _ b hj h mu rfl (by rw [q1, e2]) hv)
  · have n1 : j ≠ i := fun e => by
      subst e
      rw [List.getElem?_set_self hl] at q1
      cases q1
      cases m1
    have n2 : k ≠ i := fun e => by
      subst e
      rw [List.getElem?_set_self hl] at q2
      cases q2
      cases m2
    rw [List.getElem?_set_ne (Ne.symm n1)] at q1
    rw [List.getElem?_set_ne (Ne.symm n2)] at q2
    exact R.dis j k s u b q1 q2 m1 m2 e1 e2
  · have n1 : j ≠ i := fun e => by
      subst e
      rw [List.getElem?_set_self hl] at q
      cases q
      cases m
    rw [List.getElem?_set_ne (Ne.symm n1)] at q
    exact R.ownf j s b q m e
  · have n1 : j ≠ i := by
      have := (List.getElem?_eq_some_iff.mp q).1
      have := C.hbx
      omega
    obtain ⟨q1, u, q2, q3⟩ := R.box j b q
    exact ⟨q1, u, by rw [List.getElem?_set_ne (Ne.symm n1)]; exact q2, q3⟩
end
/-! ### objects' cells beside -/
theorem SV.no {s : SV} (m : s.mine = true) : s.isObj = false := by
  cases s <;> first | rfl | cases m
def Ct.ext (C : Ct K n) (F : Hp) : Ct K n := { C with H0 := fun a => match F a with | some o => some o | none => C.H0 a }
theorem ext_F {C : Ct K n} {F : Hp} {a : Addr} {o : HO} (h : F a = some o) : (C.ext F).H0 a = some o := by
  show (match F a with | some o => some o | none => C.H0 a) = _
  rw [h]
theorem ext_N {C : Ct K n} {F : Hp} {a : Addr} (h : F a = none) : (C.ext F).H0 a = C.H0 a := by
  show (match F a with | some o => some o | none => C.H0 a) = _
  rw [h]
structure RepF (C : Ct K n) (F : Hp) (σ : L2.St) (H B : Hp) (S : SS) : Prop where
  sd : Side C F
  rep : Rep0 (C.ext F) σ H B S
  one : ∀ (i j : Nat) s u, S[i]? = some (some s) → S[j]? = some (some u) → s.isObj = true → u.isObj = true → i = j
  ob : ∀ (i : Nat) nm fs, S[i]? = some (some (.obj nm fs)) → ∃ a, σ[i]? = some (some (.ref a)) ∧ (∀ q, C.ob = some q → q = (a, nm)) ∧ ObAt K F B a nm fs
def Rep (C : Ct K n) (σ : L2.St) (H B : Hp) (S : SS) : Prop := ∃ F, RepF C F σ H B S
theorem Base.less {C : Ct K n} {F : Hp} (sd : Side C F) {H B : Hp} (b : Base (C.ext F) H B) : Base C H B where
  keep := fun a o n q => b.keep a o n (by
    cases e : F a with
    | none => rw [ext_N e]; exact q
    | some u => rw [(sd a u e).1] at q; cases q)
  b0 := b.b0
  bh := b.bh
  fr := fun a o q => (b.fr a o q).imp_right fun z => by
    cases e : F a with
    | none => rw [ext_N e] at z; exact z
    | some u => rw [ext_F e] at z; cases z
theorem ext_none {C : Ct K n} {F : Hp} {a : Addr} (h : (C.ext F).H0 a = none) : C.H0 a = none ∧ F a = none := by
  cases e : F a with
  | none => rw [ext_N e] at h; exact ⟨h, rfl⟩
  | some u => rw [ext_F e] at h; cases h
/-- objects' cells stand, and not among what stays -/
theorem RepF.cell {C : Ct K n} {F : Hp} {σ : L2.St} {H B : Hp} {S : SS} (R : RepF C F σ H B S) {a : Addr} {o : HO} (h : F a = some o) : H a = some o ∧ B a = none := by
  obtain ⟨h0, h1, h2⟩ := R.sd a o h
  refine ⟨R.rep.base.keep a o h2 (ext_F h), ?_⟩
  cases e : B a with
  | none => rfl
  | some u =>
    rcases R.rep.base.fr a u e with z | z
    · have : C.B0 a = some u := z
      rw [h1] at this
      cases this
    · rw [ext_F h] at z
      cases z
section
variable {C : Ct K n} {σ : L2.St} {H B : Hp} {S : SS}
theorem Rep.base : Rep C σ H B S → Base C H B := fun ⟨_, R⟩ => R.rep.base.less R.sd
theorem Rep.len : Rep C σ H B S → S.length = σ.length := fun ⟨_, R⟩ => R.rep.len
theorem Rep.dis (R : Rep C σ H B S) : ∀ (i j : Nat) s u a, S[i]? = some (some s) → S[j]? = some (some u) → s.mine = true → u.mine = true → σ[i]? = some (some (.ref a)) → σ[j]? = some (some (.ref a)) → i = j := by
  obtain ⟨F, R⟩ := R
  exact R.rep.dis
theorem Rep.ownf (R : Rep C σ H B S) : ∀ (i : Nat) s a, S[i]? = some (some s) → s.mine = true → σ[i]? = some (some (.ref a)) → C.H0 a = none ∨ C.bx[i]? = some (some a) := by
  obtain ⟨F, R⟩ := R
  exact fun i s a h m e => (R.rep.ownf i s a h m e).imp_left fun z => (ext_none z).1
theorem Rep.box (R : Rep C σ H B S) : ∀ (i : Nat) a, C.bx[i]? = some (some a) → σ[i]? = some (some (.ref a)) ∧ ∃ s, S[i]? = some (some s) ∧ s.mine = true := by
  obtain ⟨F, R⟩ := R
  exact R.rep.box
/-- what a slot that is no object is worth -/
theorem Rep.slot (R : Rep C σ H B S) : ∀ (i : Nat) s, S[i]? = some (some s) → ∃ v, σ[i]? = some (some v) ∧ SR C H B v s := by
  obtain ⟨F, R⟩ := R
  intro i s h
  obtain ⟨v, hv, r⟩ := R.rep.slot i s h
  exact ⟨v, hv, (by cases s <;> exact r)⟩
theorem Rep.own_at (R : Rep C σ H B S) {i : Nat} {s : SV} (h : S[i]? = some (some s)) (m : s.mine = true) : ∃ a o, σ[i]? = some (some (.ref a)) ∧ H a = some o ∧ B a = none := by
  obtain ⟨F, R⟩ := R
  exact R.rep.own_at h m
theorem Rep.new (R : Rep C σ H B S) {p : Addr} (hp : H p = none) : C.H0 p = none ∧ B p = none ∧ some p ∉ C.bx := by
  obtain ⟨F, R⟩ := R
  obtain ⟨h1, h2, h3⟩ := R.rep.new hp
  exact ⟨(ext_none h1).1, h2, h3⟩
theorem RepF.obB {F : Hp} {B' : Hp} (R : RepF C F σ H B S) (e : Same B B') : ∀ (i : Nat) nm fs, S[i]? = some (some (.obj nm fs)) → ∃ a, σ[i]? = some (some (.ref a)) ∧ (∀ q, C.ob = some q → q = (a, nm)) ∧ ObAt K F B' a nm fs := fun i nm fs h => by
  obtain ⟨a, h1, h2, h3⟩ := R.ob i nm fs h
  exact ⟨a, h1, h2, h3.mono e⟩
theorem Rep.laid (R : Rep C σ H B S) {p : Addr} {o : HO} (hp : H p = none) : Rep C σ (upd H p o) (upd B p o) S ∧ Same B (upd B p o) := by
  obtain ⟨F, R⟩ := R
  obtain ⟨h1, h2⟩ := R.rep.laid (o := o) hp
  exact ⟨⟨F, R.sd, h1, R.one, R.obB h2⟩, h2⟩
theorem Rep.loose (R : Rep C σ H B S) {p : Addr} {o : HO} (hp : H p = none) : Rep C σ (upd H p o) B S := by
  obtain ⟨F, R⟩ := R
  exact ⟨F, R.sd, R.rep.loose hp, R.one, R.ob⟩
theorem one_set {i : Nat} {s : SV} (one : ∀ (i j : Nat) s u, S[i]? = some (some s) → S[j]? = some (some u) → s.isObj = true → u.isObj = true → i = j) (no : s.isObj = false) :
    ∀ (k j : Nat) s' u, (S.set i (some s))[k]? = some (some s') → (S.set i (some s))[j]? = some (some u) → s'.isObj = true → u.isObj = true → k = j := by
  have old : ∀ (k : Nat) u, (S.set i (some s))[k]? = some (some u) → u.isObj = true → S[k]? = some (some u) := fun k u h m => by
    by_cases e : k = i
    · subst e
      have hl : k < S.length := by
        have := (List.getElem?_eq_some_iff.mp h).1
        simpa using this
      rw [List.getElem?_set_self hl] at h
      cases h
      rw [no] at m
      cases m
    · rw [List.getElem?_set_ne (Ne.symm e)] at h
      exact h
  exact fun k j s' u h1 h2 m1 m2 => one k j s' u (old k s' h1 m1) (old j u h2 m2) m1 m2
theorem ob_set {F : Hp} {σ' : L2.St} {i : Nat} {s : SV} (ob : ∀ (i : Nat) nm fs, S[i]? = some (some (.obj nm fs)) → ∃ a, σ[i]? = some (some (.ref a)) ∧ (∀ q, C.ob = some q → q = (a, nm)) ∧ ObAt K F B a nm fs) (no : s.isObj = false)
    (e : ∀ j, j ≠ i → σ'[j]? = σ[j]?) : ∀ (j : Nat) nm fs, (S.set i (some s))[j]? = some (some (.obj nm fs)) → ∃ a, σ'[j]? = some (some (.ref a)) ∧ (∀ q, C.ob = some q → q = (a, nm)) ∧ ObAt K F B a nm fs := fun j nm fs h => by
  by_cases z : j = i
  · subst z
    have hl : j < S.length := by
      have := (List.getElem?_eq_some_iff.mp h).1
      simpa using this
    rw [List.getElem?_set_self hl] at h
    cases h
    cases no
  · rw [List.getElem?_set_ne (Ne.symm z)] at h
    obtain ⟨a, h1, h2, h3⟩ := ob j nm fs h
    exact ⟨a, by rw [e j z]; exact h1, h2, h3⟩
theorem Rep.put (R : Rep C σ H B S) {i : Nat} {v : V} {d : PyData} (hb : n ≤ i) (h : Da K B v d) : Rep C (σ.set i (some v)) H B (S.set i (some (.dat d))) := by
  obtain ⟨F, R⟩ := R
  exact ⟨F, R.sd, R.rep.put hb h, one_set R.one rfl, ob_set R.ob rfl fun j e => List.getElem?_set_ne (Ne.symm e)⟩
theorem Rep.write (R : Rep C σ H B S) {i : Nat} {a : Addr} {s s' : SV} {o : HO} (h : S[i]? = some (some s)) (m : s.mine = true) (m' : s'.mine = true) (hv : σ[i]? = some (some (.ref a))) (r : SR C (upd H a o) B (.ref a) s') :
    Rep C σ (upd H a o) B (S.set i (some s')) := by
  obtain ⟨F, R⟩ := R
  exact ⟨F, R.sd, R.rep.write h m m' hv (by cases s' <;> exact r), one_set R.one (SV.no m'), ob_set R.ob (SV.no m') fun j e => rfl⟩
/-- a place that no slot holds, nor an object -/
structure Loose0 (C : Ct K n) (σ : L2.St) (S : SS) (B : Hp) (a : Addr) : Prop where
  b : B a = none
  h0 : C.H0 a = none
  no : ∀ (j : Nat) (u : SV), S[j]? = some (some u) → u.mine = true → σ[j]? ≠ some (some (.ref a))
def Loose (C : Ct K n) (σ : L2.St) (S : SS) (H B : Hp) (a : Addr) : Prop := ∃ F, RepF C F σ H B S ∧ Loose0 (C.ext F) σ S B a
theorem Loose.b {a : Addr} : Loose C σ S H B a → B a = none := fun ⟨_, _, L⟩ => L.b
theorem Loose.h0 {a : Addr} : Loose C σ S H B a → C.H0 a = none := fun ⟨_, _, L⟩ => (ext_none L.h0).1
theorem Loose.no {a : Addr} : Loose C σ S H B a → ∀ (j : Nat) (u : SV), S[j]? = some (some u) → u.mine = true → σ[j]? ≠ some (some (.ref a)) := fun ⟨_, _, L⟩ => L.no
theorem Loose.rep {a : Addr} : Loose C σ S H B a → Rep C σ H B S := fun ⟨F, R, _⟩ => ⟨F, R⟩
/-- laid where nothing stood -/
theorem Rep.newLoose (R : Rep C σ H B S) {p : Addr} {o : HO} (hp : H p = none) : Rep C σ (upd H p o) B S ∧ Loose C σ S (upd H p o) B p := by
  obtain ⟨F, R⟩ := R
  obtain ⟨h0, hb, _⟩ := R.rep.new hp
  have R2 : RepF C F σ (upd H p o) B S := ⟨R.sd, R.rep.loose hp, R.one, R.ob⟩
  refine ⟨⟨F, R2⟩, F, R2, hb, h0, fun j u h m e => ?_⟩
  obtain ⟨a, o', e2, h2, _⟩ := R.rep.own_at h m
  rw [e] at e2
  cases e2
  rw [hp] at h2
  cases h2
/-- a slot takes a new list or dict -/
theorem Loose.take {i : Nat} {p : Addr} {s : SV} (L : Loose C σ S H B p) (hb : n ≤ i) (m : s.mine = true) (h : SR C H B (.ref p) s) : Rep C (σ.set i (some (.ref p))) H B (S.set i (some s)) := by
  obtain ⟨F, R, L⟩ := L
  exact ⟨F, R.sd, R.rep.take hb m (by cases s <;> exact h) L.h0 L.no, one_set R.one (SV.no m), ob_set R.ob (SV.no m) fun j e => List.getElem?_set_ne (Ne.symm e)⟩
/-- a new list stays -/
theorem Rep.settle (_ : Rep C σ H B S) {a : Addr} {vs : List V} (h : H a = some (.lst vs)) (L : Loose C σ S H B a) : Rep C σ H (upd B a (.lst vs)) S ∧ Same B (upd B a (.lst vs)) := by
  obtain ⟨F, R, L⟩ := L
  have e : Same B (upd B a (.lst vs)) := sm_new L.b
  refine ⟨⟨F, R.sd, R.rep.grow ⟨R.rep.base.keep, R.rep.base.b0.trans e, fun b o q => ?_, fun b o q => ?_⟩ e fun b o h1 h2 ⟨j, u, q1, q2, q3⟩ => ⟨h1, ?_⟩, R.one, R.obB e⟩, e⟩
  · by_cases z : b = a
    · subst z
      rw [upd_same] at q
      cases q
      exact h
    · rw [upd_ne z] at q
      exact R.rep.base.bh b o q
  · by_cases z : b = a
    · subst z
      exact .inr L.h0
    · rw [upd_ne z] at q
      exact R.rep.base.fr b o q
  · rw [upd_ne]
    · exact h2
    · rintro rfl
      exact L.no j u q1 q2 q3
theorem Rep.rest (R : Rep C σ H B S) {i : Nat} {ds : List PyData} (hb : n ≤ i) (h : S[i]? = some (some (.own ds))) : ∃ B', Rep C σ H B' (S.set i (some (.dat (.list ds)))) ∧ Same B B' := by
  obtain ⟨F, R⟩ := R
  obtain ⟨B', h1, h2⟩ := R.rep.rest hb h
  exact ⟨B', ⟨F, R.sd, h1, one_set R.one rfl, ob_set (R.obB h2) rfl fun j e => rfl⟩, h2⟩
end
/-! ### judgements: a reading's worth -/
abbrev VE := SS → R (PyData × SS)
abbrev VT := SS → R (Bool × SS)
abbrev VA := SS → R (List PyData × SS)
inductive FL where
  | nx (S : SS) | rt (d : PyData) (S : SS) | bk (S : SS) | ct (S : SS)
abbrev VS := SS → R FL
def SE (C : Ct K n) (t : TE) (f : VE) : Prop := ∀ (σ : L2.St) (H B : Hp) (S : SS) (Q : VK), Rep C σ H B S →
  Post C (f S) (fun p => ∀ v H' B', Rep C σ H' B' p.2 → Same B B' → Da K B' v p.1 → Q v H') → t σ H Q
def ST (C : Ct K n) (t : TT) (f : VT) : Prop := ∀ (σ : L2.St) (H B : Hp) (S : SS) (Q : Bool → Hp → Prop), Rep C σ H B S →
  Post C (f S) (fun p => ∀ H' B', Rep C σ H' B' p.2 → Same B B' → Q p.1 H') → t σ H Q
def SA (C : Ct K n) (t : TA) (f : VA) : Prop := ∀ (σ : L2.St) (H B : Hp) (S : SS) (Q : List V → Hp → Prop), Rep C σ H B S →
  Post C (f S) (fun p => ∀ vs H' B', Rep C σ H' B' p.2 → Same B B' → DaAll K B' vs p.1 → Q vs H') → t σ H Q
def FlPost (C : Ct K n) (B : Hp) (D : Ends) : FL → Prop
  | .nx S' => ∀ σ' H' B', Rep C σ' H' B' S' → Same B B' → D.nx σ' H'
  | .rt d S' => ∀ v σ' H' B', Rep C σ' H' B' S' → Same B B' → Da K B' v d → D.rt v H'
  | .bk S' => ∀ σ' H' B', Rep C σ' H' B' S' → Same B B' → D.bk σ' H'
  | .ct S' => ∀ σ' H' B', Rep C σ' H' B' S' → Same B B' → D.ct σ' H'
def SSt (C : Ct K n) (t : TS) (f : VS) : Prop := ∀ (σ : L2.St) (H B : Hp) (S : SS) (D : Ends), Rep C σ H B S → Post C (f S) (FlPost C B D) → t D σ H
end
end Bo

/-! ### expressions -/
namespace Bo
open PySem L2
section
variable {K : PySem.W.Frag} {n : Nat} {C : Ct K n} {σ : L2.St} {H B : Hp} {S : SS}
/-! names, constants -/
def vVar (i : Nat) : VE := fun S => match S[i]? with
  | some (some (.dat d)) => .ok (d, S)
  | _ => .bad
theorem s_var {i : Nat} : SE C (tVar i) (vVar i) := by
  intro σ H B S Q R h
  unfold vVar at h
  split at h
  · rename_i d e
    obtain ⟨v, hv, r⟩ := R.slot i _ e
    exact ⟨v, hv, h v H B R (Same.refl _) r⟩
  · exact h.elim
def vC (d : PyData) : VE := fun S => .ok (d, S)
theorem s_int {m : Int} : SE C (tC (.int m)) (vC (.int m)) := fun _ H B _ _ R h => h _ H B R (Same.refl _) (.int m)
theorem s_bl {b : Bool} : SE C (tC (.bl b)) (vC (.bool b)) := fun _ H B _ _ R h => h _ H B R (Same.refl _) (.bl b)
theorem s_str {x : Str} : SE C (tC (.str x)) (vC (.str x)) := fun _ H B _ _ R h => h _ H B R (Same.refl _) (.str x)
theorem s_non : SE C (tC .non) (vC .none) := fun _ H B _ _ R h => h _ H B R (Same.refl _) .non
/-! operators -/
def SR2 (C : Ct K n) (r : R2) (g : PyData → PyData → R PyData) : Prop := ∀ (σ : L2.St) (H B : Hp) (S : SS) (x y : V) (d e : PyData) (Q : VK), Rep C σ H B S → Da K B x d → Da K B y e →
  Post C (g d e) (fun z => ∀ v H' B', Rep C σ H' B' S → Same B B' → Da K B' v z → Q v H') → r x y H Q
def vOp (g : PyData → PyData → R PyData) (fa fb : VE) : VE := fun S => (fa S).bind fun p => (fb p.2).bind fun q => (g p.1 q.1).bind fun z => .ok (z, q.2)
theorem s_op {r : R2} {g : PyData → PyData → R PyData} {ta tb : TE} {fa fb : VE} (hr : SR2 C r g) (ha : SE C ta fa) (hb : SE C tb fb) : SE C (tOp r ta tb) (vOp g fa fb) := by
  intro σ H B S Q R h
  unfold vOp at h
  rw [post_bind] at h
  refine ha σ H B S _ R (h.mono fun p h1 v H1 B1 R1 e1 d1 => ?_)
  rw [post_bind] at h1
  refine hb σ H1 B1 p.2 _ R1 (h1.mono fun q h2 w H2 B2 R2 e2 d2 => ?_)
  rw [post_bind] at h2
  exact hr σ H2 B2 q.2 v w p.1 q.1 Q R2 (da_mono e2 d1) d2 (h2.mono fun z h3 u H3 B3 R3 e3 d3 => h3 u H3 B3 R3 (e1.trans (e2.trans e3)) d3)
def gI (f : Int → Int → Int) : PyData → PyData → R PyData
  | .int i, .int j => .ok (.int (f i j))
  | _, _ => .bad
def gIC (c : Int → Int → Bool) (f : Int → Int → Int) : PyData → PyData → R PyData
  | .int i, .int j => R.when (c i j = true) (.ok (.int (f i j)))
  | _, _ => .bad
def gIB (f : Int → Int → Bool) : PyData → PyData → R PyData
  | .int i, .int j => .ok (.bool (f i j))
  | _, _ => .bad
theorem o_i0 {f : Int → Int → Int} : SR2 C (rI0 fun i j => .int (f i j)) (gI f) := by
  intro σ H B S x y d e Q R h1 h2 h
  cases h1 <;> cases h2 <;> first | exact h.elim | exact ⟨_, _, rfl, rfl, h _ H B R (Same.refl _) (.int _)⟩
theorem o_ib {f : Int → Int → Bool} : SR2 C (rI0 fun i j => .bl (f i j)) (gIB f) := by
  intro σ H B S x y d e Q R h1 h2 h
  cases h1 <;> cases h2 <;> first | exact h.elim | exact ⟨_, _, rfl, rfl, h _ H B R (Same.refl _) (.bl _)⟩
theorem o_ic {c : Int → Int → Bool} {p : Int → Int → Prop} {f : Int → Int → Int} (hc : ∀ i j, c i j = true → p i j) : SR2 C (rI p fun i j => .int (f i j)) (gIC c f) := by
  intro σ H B S x y d e Q R h1 h2 h
  cases h1 <;> cases h2 <;> first
    | exact h.elim
    | (obtain ⟨k, h⟩ := post_when.mp h
       exact ⟨_, _, rfl, rfl, hc _ _ k, h _ H B R (Same.refl _) (.int _)⟩)
/-- a product, neither factor too long -/
def cMul (i j : Int) : Bool := decide (i.natAbs < 2 ^ 400000 ∧ j.natAbs < 2 ^ 400000)
def cFdiv (_ j : Int) : Bool := decide (j ≠ 0 ∧ j.natAbs < 2 ^ 8999)
def cMod (_ j : Int) : Bool := decide (j ≠ 0)
theorem lg_lt {m k : Nat} (h : m < 2 ^ k) (hk : 0 < k) : m.log2 < k := by
  by_cases e : m = 0
  · subst e
    exact hk
  · exact (Nat.log2_lt e).mpr h
theorem o_mul : SR2 C (rI CMulW fun i j => .int (i * j)) (gIC cMul fun i j => i * j) := o_ic fun i j h => by
  obtain ⟨h1, h2⟩ := of_decide_eq_true h
  have := lg_lt h1 (by decide)
  have := lg_lt h2 (by decide)
  unfold CMulW
  omega
theorem o_fdiv : SR2 C (rI CDivX fun i j => .int (i.fdiv j)) (gIC cFdiv Int.fdiv) := o_ic fun i j h => by
  obtain ⟨h1, h2⟩ := of_decide_eq_true h
  exact ⟨h1, Nat.lt_trans (lg_lt h2 (by decide)) (by decide)⟩
theorem o_mod : SR2 C (rI (fun _ j => j ≠ 0) fun i j => .int (i.fmod j)) (gIC cMod Int.fmod) := o_ic fun i j h => of_decide_eq_true h
/-- == of plain values -/
def eqF : PyData → PyData → Option Bool
  | .int i, .int j => some (decide (i = j))
  | .bool i, .bool j => some (decide (i = j))
  | .str i, .str j => some (decide (i = j))
  | .none, .none => some true
  | .none, .int _ => some false
  | .int _, .none => some false
  | .none, .bool _ => some false
  | .bool _, .none => some false
  | .none, .str _ => some false
  | .str _, .none => some false
  | .int _, .str _ => some false
  | .str _, .int _ => some false
  | .bool _, .str _ => some false
  | .str _, .bool _ => some false
  | _, _ => none
def gEq (d e : PyData) : R PyData := match eqF d e with
  | some b => .ok (.bool b)
  | none => .bad
def gNe (d e : PyData) : R PyData := match eqF d e with
  | some b => .ok (.bool (!b))
  | none => .bad
theorem eqF_ok {x y : V} {d e : PyData} {b : Bool} (h1 : Da K B x d) (h2 : Da K B y e) (h : eqF d e = some b) : scal x y = true ∧ decide (x = y) = b := by
  cases h1 <;> cases h2 <;> first
    | (cases h; done)
    | (cases (Option.some.inj h); exact ⟨rfl, by simp⟩)
theorem o_eq : SR2 C rEq gEq := by
  intro σ H B S x y d e Q R h1 h2 h
  unfold gEq at h
  split at h
  · rename_i b q
    obtain ⟨k, k2⟩ := eqF_ok h1 h2 q
    exact ⟨k, by rw [k2]; exact h _ H B R (Same.refl _) (.bl _)⟩
  · exact h.elim
theorem o_ne : SR2 C rNe gNe := by
  intro σ H B S x y d e Q R h1 h2 h
  unfold gNe at h
  split at h
  · rename_i b q
    obtain ⟨k, k2⟩ := eqF_ok h1 h2 q
    exact ⟨k, by rw [k2]; exact h _ H B R (Same.refl _) (.bl _)⟩
  · exact h.elim
def isNone : PyData → Bool
  | .none => true
  | _ => false
theorem o_isN : SR2 C (fun x y H Q => y = .non ∧ Q (.bl (decide (x = .non))) H) (fun d e => R.when (isNone e = true) (.ok (.bool (isNone d)))) := by
  intro σ H B S x y d e Q R h1 h2 h
  obtain ⟨k, h⟩ := post_when.mp h
  cases h2 <;> first | (cases k; done) | skip
  refine ⟨rfl, ?_⟩
  have q : decide (x = V.non) = isNone d := by cases h1 <;> simp [isNone]
  rw [q]
  exact h _ H B R (Same.refl _) (.bl _)
theorem o_notN : SR2 C (fun x y H Q => y = .non ∧ Q (.bl (!decide (x = .non))) H) (fun d e => R.when (isNone e = true) (.ok (.bool (!isNone d)))) := by
  intro σ H B S x y d e Q R h1 h2 h
  obtain ⟨k, h⟩ := post_when.mp h
  cases h2 <;> first | (cases k; done) | skip
  refine ⟨rfl, ?_⟩
  have q : decide (x = V.non) = isNone d := by cases h1 <;> simp [isNone]
  rw [q]
  exact h _ H B R (Same.refl _) (.bl _)
/-- == of deep data -/
def gEqD (d e : PyData) : R PyData := R.when (SeqAt.shaped d = true ∧ SeqAt.shaped e = true) (.ok (.bool (PyData.eqv d e)))
def gNeD (d e : PyData) : R PyData := R.when (SeqAt.shaped d = true ∧ SeqAt.shaped e = true) (.ok (.bool (!PyData.eqv d e)))
/-- x in a sequence of plain values -/
def flatD : PyData → Bool
  | .none => true
  | .bool _ => true
  | .int _ => true
  | .str _ => true
  | _ => false
def eqP : PyData → PyData → Bool
  | .int i, .int j => decide (i = j)
  | .bool i, .bool j => decide (i = j)
  | .str i, .str j => decide (i = j)
  | .none, .none => true
  | .int i, .bool b => decide (i = if b then 1 else 0)
  | .bool b, .int i => decide ((if b then 1 else 0) = i)
  | _, _ => false
def inD (d : PyData) (ds : List PyData) : Bool := ds.any fun e => eqP e d
def itemsD : PyData → Option (List PyData)
  | .list ds => some ds
  | .tuple ds => some ds
  | _ => none
def gIn (neg : Bool) (d e : PyData) : R PyData := match itemsD e with
  | some ds => R.when (flatD d = true ∧ ds.all flatD = true) (.ok (.bool (if neg then !inD d ds else inD d ds)))
  | none => .bad
theorem seq_of {y : V} {e : PyData} {ds : List PyData} (h : Da K B y e) (q : itemsD e = some ds) : ∃ p xs, y = .ref p ∧ (SqL K B p xs ∨ SqT K B p xs) ∧ DaAll K B xs ds := by
  cases h with
  | lst s a => cases (Option.some.inj q); exact ⟨_, _, rfl, .inl (SqL.of s), a⟩
  | tup s a => cases (Option.some.inj q); exact ⟨_, _, rfl, .inr s, a⟩
  | non => exact nomatch q
  | bl b => exact nomatch q
  | int i => exact nomatch q
  | str x => exact nomatch q
theorem seq_up {H : Hp} {p : Addr} {xs : List V} (e : Same B H) (h : SqL K B p xs ∨ SqT K B p xs) : SqL K H p xs ∨ SqT K H p xs := h.imp (sm_l e) (sm_t e)
/-- an item -/
def ixD (ds : List PyData) (i : Int) : R PyData := match atI ds i with
  | some d => .ok d
  | none => .bad
def gIxL : PyData → PyData → R PyData
  | .list ds, .int i => ixD ds i
  | _, _ => .bad
def gIxT : PyData → PyData → R PyData
  | .tuple ds, .int i => ixD ds i
  | _, _ => .bad
theorem at_da {xs : List V} {ds : List PyData} {i : Int} {d : PyData} (a : DaAll K B xs ds) (h : atI ds i = some d) : ∃ v, atI xs i = some v ∧ Da K B v d := by
  unfold atI at h ⊢
  rw [daa_len a]
  cases e : ixN ds.length i with
  | none => rw [e] at h; exact nomatch h
  | some j =>
    rw [e] at h
    exact daa_get a h
theorem o_ixL : SR2 C (rIxL K) gIxL := by
  intro σ H B S x y d e Q R h1 h2 h
  cases h1 with
  | lst s a =>
    cases h2 with
    | int i =>
      unfold gIxL ixD at h
      simp only at h
      split at h
      · rename_i z q
        obtain ⟨v, hv, dv⟩ := at_da a q
        exact ⟨_, _, _, v, rfl, rfl, SqL.of (R.base.bh _ _ s), hv, h v H B R (Same.refl _) dv⟩
      · exact h.elim
    | _ => exact h.elim
  | _ => exact h.elim
theorem o_ixT : SR2 C (rIxT K) gIxT := by
  intro σ H B S x y d e Q R h1 h2 h
  cases h1 with
  | tup s a =>
    cases h2 with
    | int i =>
      unfold gIxT ixD at h
      simp only at h
      split at h
      · rename_i z q
        obtain ⟨v, hv, dv⟩ := at_da a q
        exact ⟨_, _, _, v, rfl, rfl, sm_t R.base.bh s, hv, h v H B R (Same.refl _) dv⟩
      · exact h.elim
    | _ => exact h.elim
  | _ => exact h.elim
/-- + of lists, of tuples -/
def gCat : PyData → PyData → R PyData
  | .list ds, .list es => R.when (ds.length + es.length ≤ 100000) (.ok (.list (ds ++ es)))
  | _, _ => .bad
def gCatT : PyData → PyData → R PyData
  | .tuple ds, .tuple es => R.when (ds.length + es.length ≤ 100000) (.ok (.tuple (ds ++ es)))
  | _, _ => .bad
theorem line_le {m : Nat} (h : m ≤ 100000) : m ≤ sizeLine := Nat.le_trans h (by decide)
/-- a new list, a new tuple that stays -/
theorem Rep.lst (R : Rep C σ H B S) {p : Addr} {xs : List V} {ds : List PyData} (hp : H p = none) (a : DaAll K B xs ds) : ∃ B', Rep C σ (upd H p (.lst xs)) B' S ∧ Same B B' ∧ Da K B' (.ref p) (.list ds) := by
  obtain ⟨R1, e⟩ := R.laid (o := .lst xs) hp
  exact ⟨_, R1, e, .lst upd_same (daa_mono e a)⟩
theorem Rep.tup (R : Rep C σ H B S) {p : Addr} {xs : List V} {ds : List PyData} (hp : H p = none) (a : DaAll K B xs ds) : ∃ B', Rep C σ (upd H p (.tup xs)) B' S ∧ Same B B' ∧ Da K B' (.ref p) (.tuple ds) := by
  obtain ⟨R1, e⟩ := R.laid (o := .tup xs) hp
  exact ⟨_, R1, e, .tup (SqT.of upd_same) (daa_mono e a)⟩
theorem o_catT : SR2 C (rCatA K) gCatT := by
  intro σ H B S x y d e Q R h1 h2 h
  cases h1 with
  | tup s a =>
    cases h2 with
    | tup s2 a2 =>
      obtain ⟨k, h⟩ := post_when.mp h
      have l1 := daa_len a
      have l2 := daa_len a2
      refine ⟨_, _, _, _, rfl, rfl, sm_t R.base.bh s, sm_t R.base.bh s2, line_le (by rw [l1, l2]; exact k), fun e => ?_, fun _ e => ?_, fun _ _ p hp => ?_⟩
      · subst e
        cases a
        exact h _ H B R (Same.refl _) (.tup s2 a2)
      · subst e
        cases a2
        refine h _ H B R (Same.refl _) (.tup s ?_)
        rw [List.append_nil]
        exact a
      · obtain ⟨B', R1, e1, d1⟩ := R.tup hp (daa_app a a2)
        exact h _ _ B' R1 e1 d1
    | _ => exact h.elim
  | _ => exact h.elim
def gCatS : PyData → PyData → R PyData
  | .str x, .str y => R.when (x.length + y.length ≤ 100000) (.ok (.str (x ++ y)))
  | _, _ => .bad
/-! one-place operators -/
def vUn (g : PyData → R PyData) (fa : VE) : VE := fun S => (fa S).bind fun p => (g p.1).bind fun z => .ok (z, p.2)
def gNeg : PyData → R PyData
  | .int i => .ok (.int (-i))
  | _ => .bad
theorem s_neg {ta : TE} {fa : VE} (ha : SE C ta fa) : SE C (tUn (rU fun i => .int (-i)) ta) (vUn gNeg fa) := by
  intro σ H B S Q R h
  unfold vUn at h
  rw [post_bind] at h
  refine ha σ H B S _ R (h.mono fun p h1 v H1 B1 R1 e1 d1 => ?_)
  rw [post_bind] at h1
  generalize p.1 = d at d1 h1
  cases d1 <;> first | exact h1.elim | exact ⟨_, rfl, h1 _ H1 B1 R1 e1 (.int _)⟩
/-! bools -/
def toB : PyData → R Bool
  | .bool b => .ok b
  | _ => .bad
theorem bl_of {v : V} {d : PyData} {k : Bool → Prop} (h : Da K B v d) (q : Post C (toB d) k) : ∃ b, v = .bl b ∧ d = .bool b ∧ k b := by
  cases h <;> first | exact q.elim | exact ⟨_, rfl, rfl, q⟩
def vAnd (fa fb : VE) : VE := fun S => (fa S).bind fun p => (toB p.1).bind fun b => if b = true then fb p.2 else .ok (.bool false, p.2)
def vOr (fa fb : VE) : VE := fun S => (fa S).bind fun p => (toB p.1).bind fun b => if b = true then .ok (.bool true, p.2) else fb p.2
def vNot (fa : VE) : VE := fun S => (fa S).bind fun p => (toB p.1).bind fun b => .ok (.bool (!b), p.2)
theorem s_andV {ta tb : TE} {fa fb : VE} (ha : SE C ta fa) (hb : SE C tb fb) : SE C (tAndV ta tb) (vAnd fa fb) := by
  intro σ H B S Q R h
  unfold vAnd at h
  rw [post_bind] at h
  refine ha σ H B S _ R (h.mono fun p h1 v H1 B1 R1 e1 d1 => ?_)
  rw [post_bind] at h1
  obtain ⟨b, rfl, _, h1⟩ := bl_of d1 h1
  refine ⟨b, rfl, ?_⟩
  cases b with
  | true => exact hb σ H1 B1 p.2 Q R1 (h1.mono fun q h2 w H2 B2 R2 e2 d2 => h2 w H2 B2 R2 (e1.trans e2) d2)
  | false => exact h1 _ H1 B1 R1 e1 (.bl _)
/-! tests -/
def vTst (fa : VE) : VT := fun S => (fa S).bind fun p => (toB p.1).bind fun b => .ok (b, p.2)
theorem s_tst {ta : TE} {fa : VE} (ha : SE C ta fa) : ST C (tTest ta) (vTst fa) := by
  intro σ H B S Q R h
  unfold vTst at h
  rw [post_bind] at h
  refine ha σ H B S _ R (h.mono fun p h1 v H1 B1 R1 e1 d1 => ?_)
  rw [post_bind] at h1
  obtain ⟨b, rfl, _, h1⟩ := bl_of d1 h1
  exact ⟨b, rfl, h1 H1 B1 R1 e1⟩
theorem s_tB {ta : TE} {fa : VE} (ha : SE C ta fa) : ST C (tB ta) (vTst fa) := s_tst ha
def tNotF (fa : VT) : VT := fun S => (fa S).bind fun p => .ok (!p.1, p.2)
theorem s_not {ta : TT} {fa : VT} (ha : ST C ta fa) : ST C (tNot ta) (tNotF fa) := by
  intro σ H B S Q R h
  unfold tNotF at h
  rw [post_bind] at h
  exact ha σ H B S _ R (h.mono fun p h1 H1 B1 R1 e1 => h1 H1 B1 R1 e1)
def tAndF (fa fb : VT) : VT := fun S => (fa S).bind fun p => if p.1 = true then fb p.2 else .ok (false, p.2)
def tOrF (fa fb : VT) : VT := fun S => (fa S).bind fun p => if p.1 = true then .ok (true, p.2) else fb p.2
theorem s_and {ta tb : TT} {fa fb : VT} (ha : ST C ta fa) (hb : ST C tb fb) : ST C (tAnd ta tb) (tAndF fa fb) := by
  intro σ H B S Q R h
  unfold tAndF at h
  rw [post_bind] at h
  refine ha σ H B S _ R (h.mono fun p h1 H1 B1 R1 e1 => ?_)
  obtain ⟨c, S1⟩ := p
  cases c with
  | true => exact hb σ H1 B1 S1 Q R1 (Post.mono h1 fun q h2 H2 B2 R2 e2 => h2 H2 B2 R2 (e1.trans e2))
  | false => exact h1 H1 B1 R1 e1
theorem s_or {ta tb : TT} {fa fb : VT} (ha : ST C ta fa) (hb : ST C tb fb) : ST C (tOr ta tb) (tOrF fa fb) := by
  intro σ H B S Q R h
  unfold tOrF at h
  rw [post_bind] at h
  refine ha σ H B S _ R (h.mono fun p h1 H1 B1 R1 e1 => ?_)
  obtain ⟨c, S1⟩ := p
  cases c with
  | false => exact hb σ H1 B1 S1 Q R1 (Post.mono h1 fun q h2 H2 B2 R2 e2 => h2 H2 B2 R2 (e1.trans e2))
  | true => exact h1 H1 B1 R1 e1
/-- by truth -/
def truD : PyData → R Bool
  | .none => .ok false
  | .bool b => .ok b
  | .int i => .ok (i != 0)
  | .str x => R.when (x.length ≤ 100000) (.ok ((x.length : Int) != 0))
  | .list ds => .ok (!ds.isEmpty)
  | .tuple ds => .ok (!ds.isEmpty)
  | _ => .bad
def vTru (fa : VE) : VT := fun S => (fa S).bind fun p => (truD p.1).bind fun b => .ok (b, p.2)
theorem empty_da {xs : List V} {ds : List PyData} (h : DaAll K B xs ds) : ds.isEmpty = xs.isEmpty := by cases h <;> rfl
/-! x if c else y -/
def vIf (fc : VT) (fa fb : VE) : VE := fun S => (fc S).bind fun p => if p.1 = true then fa p.2 else fb p.2
/-! a < b < c -/
def vChain (g g' : PyData → PyData → R PyData) (fa fb fc : VE) : VE := fun S => (fa S).bind fun p => (fb p.2).bind fun q => (g p.1 q.1).bind fun z => (toB z).bind fun b =>
  if b = true then (fc q.2).bind fun r => (g' q.1 r.1).bind fun z => .ok (z, r.2) else .ok (.bool false, q.2)
theorem s_chain {r r' : R2} {g g' : PyData → PyData → R PyData} {ta tb tc : TE} {fa fb fc : VE} (hr : SR2 C r g) (hr' : SR2 C r' g') (ha : SE C ta fa) (hb : SE C tb fb) (hc : SE C tc fc) : SE C (tChain r r' ta tb tc) (vChain g g' fa fb fc) := by
  intro σ H B S Q R h
  unfold vChain at h
  rw [post_bind] at h
  refine ha σ H B S _ R (h.mono fun p h1 v H1 B1 R1 e1 d1 => ?_)
  rw [post_bind] at h1
  refine hb σ H1 B1 p.2 _ R1 (h1.mono fun q h2 w H2 B2 R2 e2 d2 => ?_)
  rw [post_bind] at h2
  refine hr σ H2 B2 q.2 v w p.1 q.1 _ R2 (da_mono e2 d1) d2 (h2.mono fun z h3 u H3 B3 R3 e3 d3 => ?_)
  rw [post_bind] at h3
  obtain ⟨b, rfl, _, h3⟩ := bl_of d3 h3
  refine ⟨b, rfl, ?_⟩
  cases b with
  | false => exact h3 _ H3 B3 R3 (e1.trans (e2.trans e3)) (.bl _)
  | true =>
    replace h3 : Post C ((fc q.2).bind fun r => (g' q.1 r.1).bind fun z => .ok (z, r.2)) _ := h3
    rw [post_bind] at h3
    refine hc σ H3 B3 q.2 _ R3 (h3.mono fun r h4 w4 H4 B4 R4 e4 d4 => ?_)
    rw [post_bind] at h4
    exact hr' σ H4 B4 r.2 w w4 q.1 r.1 Q R4 (da_mono (e3.trans e4) d2) d4 (h4.mono fun z h5 u H5 B5 R5 e5 d5 => h5 u H5 B5 R5 (e1.trans (e2.trans (e3.trans (e4.trans e5)))) d5)
/-! argument lists, displays, calls -/
def vNil : VA := fun S => .ok ([], S)
def vCons (fa : VE) (fr : VA) : VA := fun S => (fa S).bind fun p => (fr p.2).bind fun q => .ok (p.1 :: q.1, q.2)
theorem s_nil : SA C tNil vNil := fun _ H B _ _ R h => h _ H B R (Same.refl _) .nil
theorem s_cons {ta : TE} {tr : TA} {fa : VE} {fr : VA} (ha : SE C ta fa) (hr : SA C tr fr) : SA C (tCons ta tr) (vCons fa fr) := by
  intro σ H B S Q R h
  unfold vCons at h
  rw [post_bind] at h
  refine ha σ H B S _ R (h.mono fun p h1 v H1 B1 R1 e1 d1 => ?_)
  rw [post_bind] at h1
  exact hr σ H1 B1 p.2 _ R1 (h1.mono fun q h2 w H2 B2 R2 e2 d2 => h2 _ H2 B2 R2 (e1.trans e2) (.cons (da_mono e2 d1) d2))
def vTup (fa : VA) : VE := fun S => (fa S).bind fun p => R.when (p.1.length ≤ 100000) (.ok (.tuple p.1, p.2))
def vLst (fa : VA) : VE := fun S => (fa S).bind fun p => R.when (p.1.length ≤ 100000) (.ok (.list p.1, p.2))
theorem s_tup {ta : TA} {fa : VA} (ha : SA C ta fa) : SE C (tTup ta) (vTup fa) := by
  intro σ H B S Q R h
  unfold vTup at h
  rw [post_bind] at h
  refine ha σ H B S _ R (h.mono fun p h1 vs H1 B1 R1 e1 d1 => ?_)
  obtain ⟨k, h1⟩ := post_when.mp h1
  refine ⟨line_le (by rw [daa_len d1]; exact k), fun a ha => ?_⟩
  obtain ⟨B', R2, e2, d2⟩ := R1.tup ha d1
  exact h1 _ _ B' R2 (e1.trans e2) d2
theorem s_lst {ta : TA} {fa : VA} (ha : SA C ta fa) : SE C (tLst ta) (vLst fa) := by
  intro σ H B S Q R h
  unfold vLst at h
  rw [post_bind] at h
  refine ha σ H B S _ R (h.mono fun p h1 vs H1 B1 R1 e1 d1 => ?_)
  obtain ⟨k, h1⟩ := post_when.mp h1
  refine ⟨line_le (by rw [daa_len d1]; exact k), fun a ha => ?_⟩
  obtain ⟨B', R2, e2, d2⟩ := R1.lst ha d1
  exact h1 _ _ B' R2 (e1.trans e2) d2
/-- a built-in, by values -/
def SCR (C : Ct K n) (r : List V → Hp → VK → Prop) (g : List PyData → R PyData) : Prop := ∀ (σ : L2.St) (H B : Hp) (S : SS) (xs : List V) (ds : List PyData) (Q : VK), Rep C σ H B S → DaAll K B xs ds →
  Post C (g ds) (fun z => ∀ v H' B', Rep C σ H' B' S → Same B B' → Da K B' v z → Q v H') → r xs H Q
def vCall (g : List PyData → R PyData) (fa : VA) : VE := fun S => (fa S).bind fun p => (g p.1).bind fun z => .ok (z, p.2)
theorem s_cb {r : List V → Hp → VK → Prop} {g : List PyData → R PyData} {ta : TA} {fa : VA} (hr : SCR C r g) (ha : SA C ta fa) : SE C (tCB r ta) (vCall g fa) := by
  intro σ H B S Q R h
  unfold vCall at h
  rw [post_bind] at h
  refine ha σ H B S _ R (h.mono fun p h1 vs H1 B1 R1 e1 d1 => ?_)
  rw [post_bind] at h1
  exact hr σ H1 B1 p.2 vs p.1 Q R1 d1 (h1.mono fun z h2 v H2 B2 R2 e2 d2 => h2 v H2 B2 R2 (e1.trans e2) d2)
def gLen : List PyData → R PyData
  | [.list ds] => .ok (.int ds.length)
  | [.tuple ds] => .ok (.int ds.length)
  | _ => .bad
theorem c_len : SCR C (fun xs H Q => ∃ p ys, xs = [.ref p] ∧ (SqL K H p ys ∨ SqT K H p ys) ∧ Q (.int ys.length) H) gLen := by
  intro σ H B S xs ds Q R d h
  cases d with
  | nil => exact h.elim
  | cons h1 t =>
    cases t with
    | cons h2 t => cases h1 <;> exact h.elim
    | nil =>
      cases h1 with
      | lst s a => exact ⟨_, _, rfl, .inl (SqL.of (R.base.bh _ _ s)), by rw [daa_len a]; exact h _ H B R (Same.refl _) (.int _)⟩
      | tup s a => exact ⟨_, _, rfl, .inr (sm_t R.base.bh s), by rw [daa_len a]; exact h _ H B R (Same.refl _) (.int _)⟩
      | _ => exact h.elim
def gInt : List PyData → R PyData
  | [.int i] => .ok (.int i)
  | [.bool b] => .ok (.int (if b then 1 else 0))
  | _ => .bad
theorem c_int : SCR C (fun xs H Q => (∃ i, xs = [.int i] ∧ Q (.int i) H) ∨ ∃ k, xs = [.bl k] ∧ Q (.int (if k then 1 else 0)) H) gInt := by
  intro σ H B S xs ds Q R d h
  cases d with
  | nil => exact h.elim
  | cons h1 t =>
    cases t with
    | cons h2 t => cases h1 <;> exact h.elim
    | nil => cases h1 <;> first | exact h.elim | exact .inl ⟨_, rfl, h _ H B R (Same.refl _) (.int _)⟩ | exact .inr ⟨_, rfl, h _ H B R (Same.refl _) (.int _)⟩
def gTuple : List PyData → R PyData
  | [.list ds] => .ok (.tuple ds)
  | [.tuple ds] => .ok (.tuple ds)
  | _ => .bad
def gList : List PyData → R PyData
  | [.list ds] => .ok (.list ds)
  | [.tuple ds] => .ok (.list ds)
  | _ => .bad
theorem c_tuple : SCR C (fun xs H Q => ∃ p ys, xs = [.ref p] ∧ ((SqL K H p ys ∧ ∀ l, H l = none → Q (.ref l) (upd H l (.tup ys))) ∨ (SqT K H p ys ∧ Q (.ref p) H))) gTuple := by
  intro σ H B S xs ds Q R d h
  cases d with
  | nil => exact h.elim
  | cons h1 t =>
    cases t with
    | cons h2 t => cases h1 <;> exact h.elim
    | nil =>
      cases h1 with
      | lst s a =>
        refine ⟨_, _, rfl, .inl ⟨SqL.of (R.base.bh _ _ s), fun l hl => ?_⟩⟩
        obtain ⟨B', R1, e1, d1⟩ := R.tup hl a
        exact h _ _ B' R1 e1 d1
      | tup s a => exact ⟨_, _, rfl, .inr ⟨sm_t R.base.bh s, h _ H B R (Same.refl _) (.tup s a)⟩⟩
      | _ => exact h.elim
/-- ints, bools of data -/
def intsD : List PyData → Option (List Int)
  | [] => some []
  | .int i :: ds => (intsD ds).map (i :: ·)
  | _ :: _ => none
def boolsD : List PyData → Option (List Bool)
  | [] => some []
  | .bool i :: ds => (boolsD ds).map (i :: ·)
  | _ :: _ => none
theorem ints_map : ∀ ns : List Int, intsD (ns.map PyData.int) = some ns
  | [] => rfl
  | n :: ns => by
    show (intsD (ns.map PyData.int)).map (n :: ·) = _
    rw [ints_map ns]
    rfl
theorem bools_map : ∀ ns : List Bool, boolsD (ns.map PyData.bool) = some ns
  | [] => rfl
  | n :: ns => by
    show (boolsD (ns.map PyData.bool)).map (n :: ·) = _
    rw [bools_map ns]
    rfl
def gInts (g : List Int → PyData) : List PyData → R PyData
  | [.list ds] => match intsD ds with
    | some ns => .ok (g ns)
    | none => .bad
  | _ => .bad
def gBools (g : List Bool → PyData) : List PyData → R PyData
  | [.list ds] => match boolsD ds with
    | some ns => .ok (g ns)
    | none => .bad
  | _ => .bad
end
end Bo

namespace Bo
open PySem L2
section
variable {K : PySem.W.Frag} {n : Nat} {C : Ct K n} {σ : L2.St} {H B : Hp} {S : SS}
/-! ### new lists -/
/-- nobody else has it -/
abbrev VF := SS → R (List PyData × SS)
/-- a new list: what it holds -/
def SEF (C : Ct K n) (t : TE) (f : VF) : Prop := ∀ (σ : L2.St) (H B : Hp) (S : SS) (Q : VK), Rep C σ H B S →
  Post C (f S) (fun p => ∀ a vs H' B', Rep C σ H' B' p.2 → Same B B' → H' a = some (.lst vs) → Loose C σ p.2 H' B' a → DaAll K B' vs p.1 → Q (.ref a) H') → t σ H Q
def vFr (f : VF) : VE := fun S => (f S).bind fun p => .ok (.list p.1, p.2)
/-- a new list that stays -/
theorem s_fr {t : TE} {f : VF} (h : SEF C t f) : SE C t (vFr f) := by
  intro σ H B S Q R q
  unfold vFr at q
  rw [post_bind] at q
  refine h σ H B S Q R (q.mono fun p q a vs H' B' R1 e1 ha L d => ?_)
  obtain ⟨R2, e2⟩ := R1.settle ha L
  exact q _ H' _ R2 (e1.trans e2) (.lst upd_same (daa_mono e2 d))
def vLstF (fa : VA) : VF := fun S => (fa S).bind fun p => R.when (p.1.length ≤ 100000) (.ok p)
theorem f_lst {ta : TA} {fa : VA} (ha : SA C ta fa) : SEF C (tLst ta) (vLstF fa) := by
  intro σ H B S Q R h
  unfold vLstF at h
  rw [post_bind] at h
  refine ha σ H B S _ R (h.mono fun p h1 vs H1 B1 R1 e1 d1 => ?_)
  obtain ⟨k, h1⟩ := post_when.mp h1
  refine ⟨line_le (by rw [daa_len d1]; exact k), fun a ha => ?_⟩
  obtain ⟨R2, L⟩ := R1.newLoose (o := .lst vs) ha
  exact h1 a vs _ B1 R2 e1 upd_same L d1
/-- list(x) -/
def vListF (fa : VE) : VF := fun S => (fa S).bind fun p => match itemsD p.1 with
  | some ds => .ok (ds, p.2)
  | none => .bad
/-! ### slices -/
abbrev VO := SS → R (Option Int × SS)
def SO (C : Ct K n) (t : TO) (f : VO) : Prop := ∀ (σ : L2.St) (H B : Hp) (S : SS) (Q : Option Int → Hp → Prop), Rep C σ H B S →
  Post C (f S) (fun p => ∀ H' B', Rep C σ H' B' p.2 → Same B B' → Q p.1 H') → t σ H Q
def vNoPart : VO := fun S => .ok (none, S)
def toI : PyData → R Int
  | .int i => .ok i
  | _ => .bad
def vPart (fa : VE) : VO := fun S => (fa S).bind fun p => (toI p.1).bind fun i => .ok (some i, p.2)
theorem s_noPart : SO C tNoPart vNoPart := fun _ H B _ _ R h => h H B R (Same.refl _)
theorem int_of {v : V} {d : PyData} {k : Int → Prop} (h : Da K B v d) (q : Post C (toI d) k) : ∃ b, v = .int b ∧ d = .int b ∧ k b := by
  cases h <;> first | exact q.elim | exact ⟨_, rfl, rfl, q⟩
theorem s_part {ta : TE} {fa : VE} (ha : SE C ta fa) : SO C (tPart ta) (vPart fa) := by
  intro σ H B S Q R h
  unfold vPart at h
  rw [post_bind] at h
  refine ha σ H B S _ R (h.mono fun p h1 v H1 B1 R1 e1 d1 => ?_)
  rw [post_bind] at h1
  obtain ⟨i, rfl, _, h1⟩ := int_of d1 h1
  exact ⟨i, rfl, h1 H1 B1 R1 e1⟩
def cutD {α : Type} (l : List α) (lo hi : Option Int) : List α := (l.drop (HT.sIx l.length 0 lo)).take (HT.sIx l.length l.length hi - HT.sIx l.length 0 lo)
theorem daa_cut {vs : List V} {ds : List PyData} {lo hi : Option Int} (h : DaAll K B vs ds) : DaAll K B (cutV vs lo hi) (cutD ds lo hi) := by
  unfold cutV cutD
  rw [daa_len h]
  exact daa_take _ (daa_drop _ h)
def SSl (C : Ct K n) (r : V → Option Int → Option Int → Hp → VK → Prop) (g : PyData → Option Int → Option Int → R PyData) : Prop := ∀ (σ : L2.St) (H B : Hp) (S : SS) (x : V) (d : PyData) (lo hi : Option Int) (Q : VK), Rep C σ H B S → Da K B x d →
  Post C (g d lo hi) (fun z => ∀ v H' B', Rep C σ H' B' S → Same B B' → Da K B' v z → Q v H') → r x lo hi H Q
def vSl (g : PyData → Option Int → Option Int → R PyData) (fa : VE) (fl fh : VO) : VE := fun S => (fa S).bind fun p => (fl p.2).bind fun l => (fh l.2).bind fun h => (g p.1 l.1 h.1).bind fun z => .ok (z, h.2)
theorem s_sl {r : V → Option Int → Option Int → Hp → VK → Prop} {g : PyData → Option Int → Option Int → R PyData} {ta : TE} {tl th : TO} {fa : VE} {fl fh : VO} (hr : SSl C r g) (ha : SE C ta fa) (hl : SO C tl fl) (hh : SO C th fh) : SE C (tSl r ta tl th) (vSl g fa fl fh) := by
  intro σ H B S Q R h
  unfold vSl at h
  rw [post_bind] at h
  refine ha σ H B S _ R (h.mono fun p h1 v H1 B1 R1 e1 d1 => ?_)
  rw [post_bind] at h1
  refine hl σ H1 B1 p.2 _ R1 (h1.mono fun l h2 H2 B2 R2 e2 => ?_)
  rw [post_bind] at h2
  refine hh σ H2 B2 l.2 _ R2 (h2.mono fun u h3 H3 B3 R3 e3 => ?_)
  rw [post_bind] at h3
  exact hr σ H3 B3 u.2 v p.1 l.1 u.1 Q R3 (da_mono (e2.trans e3) d1) (h3.mono fun z h4 w H4 B4 R4 e4 d4 => h4 w H4 B4 R4 (e1.trans (e2.trans (e3.trans e4))) d4)
def gSlL (d : PyData) (lo hi : Option Int) : R PyData := match d with
  | .list ds => .ok (.list (cutD ds lo hi))
  | _ => .bad
def gSlT (d : PyData) (lo hi : Option Int) : R PyData := match d with
  | .tuple ds => .ok (.tuple (cutD ds lo hi))
  | _ => .bad
theorem l_slT : SSl C (rSlA K) gSlT := by
  intro σ H B S x d lo hi Q R h1 h
  cases h1 with
  | @tup a xs ds s da =>
    refine ⟨_, _, rfl, sm_t R.base.bh s, fun w => ?_, fun _ p hp => ?_⟩
    · have e : cutD ds lo hi = ds := by
        unfold cutD
        rw [← daa_len da, w.1, w.2, List.drop_zero, Nat.sub_zero, daa_len da, List.take_length]
      have h2 : ∀ v H' B', Rep C σ H' B' S → Same B B' → Da K B' v (.tuple (cutD ds lo hi)) → Q v H' := h
      rw [e] at h2
      exact h2 _ H B R (Same.refl _) (.tup s da)
    · obtain ⟨B', R1, e1, d1⟩ := R.tup hp (daa_cut da)
      exact h _ _ B' R1 e1 d1
  | _ => exact h.elim
/-- xs[::-1] -/
def gRevL : PyData → R PyData
  | .list ds => .ok (.list ds.reverse)
  | _ => .bad
/-! ### targets -/
def SG (C : Ct K n) (g : TG) (fg : PyData → SS → R SS) (ts : List Nat) : Prop := ∀ (σ : L2.St) (H B : Hp) (S : SS) (v : V) (d : PyData) (Q : L2.St → Hp → Prop), Rep C σ H B S → Da K B v d →
  Post C (fg d S) (fun S' => ∀ σ', Rep C σ' H B S' → σ'.length = σ.length → (∀ i, i ∉ ts → σ'[i]? = σ[i]?) → Q σ' H) → g v σ H Q
def SGs (C : Ct K n) (g : TGs) (fg : List PyData → SS → R SS) (ts : List Nat) : Prop := ∀ (σ : L2.St) (H B : Hp) (S : SS) (vs : List V) (ds : List PyData) (Q : L2.St → Hp → Prop), Rep C σ H B S → DaAll K B vs ds →
  Post C (fg ds S) (fun S' => ∀ σ', Rep C σ' H B S' → σ'.length = σ.length → (∀ i, i ∉ ts → σ'[i]? = σ[i]?) → Q σ' H) → g vs σ H Q
def aName (i : Nat) : PyData → SS → R SS := fun d S => .ok (S.set i (some (.dat d)))
theorem g_name {i : Nat} (hi : n ≤ i) : SG C (gName i) (aName i) [i] := by
  intro σ H B S v d Q R dv h
  exact h _ (R.put hi dv) (by simp) fun j hj => List.getElem?_set_ne (fun e => hj (by simp [e]))
def aNil : List PyData → SS → R SS := fun ds S => match ds with
  | [] => .ok S
  | _ => .bad
def aCons (f : PyData → SS → R SS) (g : List PyData → SS → R SS) : List PyData → SS → R SS := fun ds S => match ds with
  | d :: ds => (f d S).bind fun S1 => g ds S1
  | [] => .bad
theorem g_nil : SGs C gNil aNil [] := by
  intro σ H B S vs ds Q R dv h
  cases dv with
  | nil => exact ⟨rfl, h σ R rfl fun _ _ => rfl⟩
  | cons => exact h.elim
theorem g_cons {g : TG} {gs : TGs} {f : PyData → SS → R SS} {fs : List PyData → SS → R SS} {ts us : List Nat} (h1 : SG C g f ts) (h2 : SGs C gs fs us) : SGs C (gCons g gs) (aCons f fs) (ts ++ us) := by
  intro σ H B S vs ds Q R dv h
  cases dv with
  | nil => exact h.elim
  | cons d t =>
    replace h := post_bind.mp h
    refine ⟨_, _, rfl, h1 σ H B S _ _ _ R d (h.mono fun S1 h σ1 R1 l1 k1 => ?_)⟩
    exact h2 σ1 H B S1 _ _ _ R1 t (h.mono fun S2 h σ2 R2 l2 k2 => h σ2 R2 (l2.trans l1) fun i hi => by
      rw [List.mem_append] at hi
      exact (k2 i fun z => hi (.inr z)).trans (k1 i fun z => hi (.inl z)))
def aTup (m : Nat) (f : List PyData → SS → R SS) : PyData → SS → R SS := fun d S => match d with
  | .tuple ds => R.when (ds.length = m) (f ds S)
  | _ => .bad
theorem g_tup {m : Nat} {gs : TGs} {fs : List PyData → SS → R SS} {ts : List Nat} (h1 : SGs C gs fs ts) : SG C (gTup K m gs) (aTup m fs) ts := by
  intro σ H B S v d Q R dv h
  cases dv with
  | tup s a =>
    obtain ⟨k, h⟩ := post_when.mp h
    exact ⟨_, _, rfl, sm_t R.base.bh s, (daa_len a).trans k, h1 σ H B S _ _ Q R a h⟩
  | _ => exact h.elim
/-! ### what is walked -/
/-- the walk J over ds, whatever else changes -/
structure Walks (C : Ct K n) (B : Hp) (J : It) (ds : List PyData) : Prop where
  go : ∀ (i : Nat) (H : Hp), i < ds.length → Same B H → J.go i H
  stop : ∀ (H : Hp), Same B H → J.stop ds.length H
  yld : ∀ (i : Nat) (H H' : Hp) (x : V) (d : PyData), ds[i]? = some d → J.yld i H x H' → ∀ (C : Ct K n) σ B1 S, Rep C σ H B1 S → Same B B1 → ∃ B', Rep C σ H' B' S ∧ Same B1 B' ∧ Da K B' x d ∧ ∀ D o, H D = some o → H' D = some o
def SI (C : Ct K n) (w : TI) (f : VF) : Prop := ∀ (σ : L2.St) (H B : Hp) (S : SS) (Rr : It → Hp → Prop), Rep C σ H B S →
  Post C (f S) (fun p => ∀ J H' B', Rep C σ H' B' p.2 → Same B B' → Walks C B' J p.1 → Rr J H') → w σ H Rr
theorem walks_tup {a : Addr} {xs : List V} {ds : List PyData} (s : SqT K B a xs) (h : DaAll K B xs ds) : Walks C B (Itt K a) ds where
  go := fun i H hi e => by
    rw [← daa_len h] at hi
    exact ⟨xs, xs[i], sm_t e s, List.getElem?_eq_getElem hi⟩
  stop := fun H e => ⟨xs, sm_t e s, by rw [daa_len h]; exact Nat.le_refl _⟩
  yld := fun i H H' x d hd y C σ B1 S R e => by
    obtain ⟨rfl, y⟩ := y
    have hx := y xs (sm_t (e.trans R.base.bh) s)
    obtain ⟨d', q1, q2⟩ := daa_at h hx
    rw [hd] at q1
    cases q1
    exact ⟨B1, R, Same.refl _, da_mono e q2, fun _ _ z => z⟩
def rangeD (lo : Int) (m : Nat) : List PyData := (List.range m).map fun i => .int (lo + (i : Nat))
theorem walks_range {lo : Int} {m : Nat} : Walks C B (Itr lo m) (rangeD lo m) where
  go := fun i H hi _ => by
    unfold rangeD at hi
    rw [List.length_map, List.length_range] at hi
    exact hi
  stop := fun H _ => by
    unfold rangeD
    rw [List.length_map, List.length_range]
    exact Nat.le_refl m
  yld := fun i H H' x d hd y C σ B1 S R e => by
    obtain ⟨rfl, rfl⟩ := y
    unfold rangeD at hd
    rw [List.getElem?_map] at hd
    have hi : i < m := by
      rcases Nat.lt_or_ge i m with q | q
      · exact q
      · rw [List.getElem?_eq_none (by rw [List.length_range]; exact q)] at hd
        cases hd
    rw [List.getElem?_range hi] at hd
    cases hd
    exact ⟨B1, R, Same.refl _, .int _, fun _ _ z => z⟩
def vIter (fa : VE) : VF := fun S => (fa S).bind fun p => match p.1 with
  | .list ds => .ok (ds, p.2)
  | _ => .bad
def vIterT (fa : VE) : VF := fun S => (fa S).bind fun p => match p.1 with
  | .tuple ds => .ok (ds, p.2)
  | _ => .bad
theorem i_tup {ta : TE} {fa : VE} (ha : SE C ta fa) : SI C (iTup K ta) (vIterT fa) := by
  intro σ H B S Rr R h
  replace h := post_bind.mp h
  refine ha σ H B S _ R (h.mono fun p h1 v H1 B1 R1 e1 d1 => ?_)
  obtain ⟨d, S1⟩ := p
  dsimp only at d1 h1 R1
  cases d1 with
  | tup s a => exact ⟨_, rfl, ⟨_, sm_t R1.base.bh s⟩, h1 _ H1 B1 R1 e1 (walks_tup s a)⟩
  | _ => exact h1.elim
def vRange1 (fa : VA) : VF := fun S => (fa S).bind fun p => match p.1 with
  | [.int j] => R.when (-1000000 ≤ j ∧ j ≤ 1000000) (.ok (rangeD 0 j.toNat, p.2))
  | _ => .bad
def vRange2 (fa : VA) : VF := fun S => (fa S).bind fun p => match p.1 with
  | [.int i, .int j] => R.when ((-1000000 ≤ i ∧ i ≤ 1000000) ∧ -1000000 ≤ j ∧ j ≤ 1000000) (.ok (rangeD i (j - i).toNat, p.2))
  | _ => .bad
theorem i_range1 {ta : TA} {fa : VA} (ha : SA C ta fa) : SI C (iRng1 ta) (vRange1 fa) := by
  intro σ H B S Rr R h
  replace h := post_bind.mp h
  refine ha σ H B S _ R (h.mono fun p h1 v H1 B1 R1 e1 d1 => ?_)
  obtain ⟨d, S1⟩ := p
  dsimp only at d1 h1 R1
  split at h1
  · rename_i j
    obtain ⟨⟨k1, k2⟩, h1⟩ := post_when.mp h1
    cases d1 with
    | cons q1 t =>
      cases t
      cases q1
      exact ⟨j, rfl, by omega, by omega, h1 _ H1 B1 R1 e1 walks_range⟩
  · exact h1.elim
/-! zip of two lists -/
def zipD (ds es : List PyData) : List PyData := (ds.zip es).map fun p => .tuple [p.1, p.2]
/-! enumerate of a list -/
def enumD (ds : List PyData) : List PyData := (ds.zipIdx).map fun p => .tuple [.int (p.2 : Nat), p.1]
theorem enumD_get {ds : List PyData} {i : Nat} {d : PyData} (h : ds[i]? = some d) : (enumD ds)[i]? = some (.tuple [.int (i : Nat), d]) := by
  unfold enumD
  rw [List.getElem?_map, List.getElem?_zipIdx, h]
  simp
theorem enumD_len {ds : List PyData} : (enumD ds).length = ds.length := by simp [enumD]
/-! ### statements -/
def vNext : VS := fun S => .ok (.nx S)
def vBrk : VS := fun S => .ok (.bk S)
def vCnt : VS := fun S => .ok (.ct S)
def vRet (fa : VE) : VS := fun S => (fa S).bind fun p => .ok (.rt p.1 p.2)
def vRetN : VS := fun S => .ok (.rt .none S)
def vDrop (fa : VE) : VS := fun S => (fa S).bind fun p => .ok (.nx p.2)
def seqF (fb : VS) : FL → R FL
  | .nx S => fb S
  | f => .ok f
def vSeq (fa fb : VS) : VS := fun S => (fa S).bind (seqF fb)
def vIfS (fc : VT) (fa fb : VS) : VS := fun S => (fc S).bind fun p => if p.1 = true then fa p.2 else fb p.2
def vAsg (fa : VE) (fg : PyData → SS → R SS) : VS := fun S => (fa S).bind fun p => (fg p.1 p.2).bind fun S => .ok (.nx S)
theorem st_next : SSt C tNext vNext := fun σ H B _ _ R h => h σ H B R (Same.refl _)
theorem st_ret {ta : TE} {fa : VE} (ha : SE C ta fa) : SSt C (tRet ta) (vRet fa) := by
  intro σ H B S D R h
  replace h := post_bind.mp h
  exact ha σ H B S _ R (h.mono fun p h1 v H1 B1 R1 e1 d1 => h1 v σ H1 B1 R1 e1 d1)
theorem st_drop {ta : TE} {fa : VE} (ha : SE C ta fa) : SSt C (tDrop ta) (vDrop fa) := by
  intro σ H B S D R h
  replace h := post_bind.mp h
  exact ha σ H B S _ R (h.mono fun p h1 v H1 B1 R1 e1 d1 => h1 σ H1 B1 R1 e1)
theorem FlPost.from {B0 : Hp} {D : Ends} {fl : FL} (h : FlPost C B0 D fl) (e : Same B0 B) : FlPost C B D fl := by
  cases fl with
  | nx S => exact fun σ' H' B' R e' => h σ' H' B' R (e.trans e')
  | rt d S => exact fun v σ' H' B' R e' => h v σ' H' B' R (e.trans e')
  | bk S => exact fun σ' H' B' R e' => h σ' H' B' R (e.trans e')
  | ct S => exact fun σ' H' B' R e' => h σ' H' B' R (e.trans e')
theorem st_seq {ta tb : TS} {fa fb : VS} (ha : SSt C ta fa) (hb : SSt C tb fb) : SSt C (tSeq ta tb) (vSeq fa fb) := by
  intro σ H B S D R h
  replace h := post_bind.mp h
  refine ha σ H B S _ R (h.mono fun fl h1 => ?_)
  cases fl with
  | nx S1 => exact fun σ' H' B' R1 e1 => hb σ' H' B' S1 D R1 (Post.mono h1 fun fl q => q.from e1)
  | rt d S1 => exact h1
  | bk S1 => exact h1
  | ct S1 => exact h1
theorem st_if {tc : TT} {ta tb : TS} {fc : VT} {fa fb : VS} (hc : ST C tc fc) (ha : SSt C ta fa) (hb : SSt C tb fb) : SSt C (tIfS tc ta tb) (vIfS fc fa fb) := by
  intro σ H B S D R h
  replace h := post_bind.mp h
  refine hc σ H B S _ R (h.mono fun p h1 H1 B1 R1 e1 => ?_)
  obtain ⟨c, S1⟩ := p
  cases c with
  | true => exact ha σ H1 B1 S1 D R1 (Post.mono h1 fun fl q => q.from e1)
  | false => exact hb σ H1 B1 S1 D R1 (Post.mono h1 fun fl q => q.from e1)
theorem st_asg {ta : TE} {fa : VE} {g : TG} {fg : PyData → SS → R SS} {ts : List Nat} (ha : SE C ta fa) (hg : SG C g fg ts) : SSt C (tAsg ta g) (vAsg fa fg) := by
  intro σ H B S D R h
  replace h := post_bind.mp h
  refine ha σ H B S _ R (h.mono fun p h1 v H1 B1 R1 e1 d1 => ?_)
  exact hg σ H1 B1 p.2 v p.1 _ R1 d1 ((post_bind.mp h1).mono fun S2 h2 σ' R2 _ _ => h2 σ' H1 B1 R2 e1)
/-- a new list for a slot of its own -/
def vOwn (i : Nat) (f : VF) : VS := fun S => (f S).bind fun p => .ok (.nx (p.2.set i (some (.own p.1))))
theorem st_own {ta : TE} {f : VF} {i : Nat} (hi : n ≤ i) (ha : SEF C ta f) : SSt C (tAsg ta (gName i)) (vOwn i f) := by
  intro σ H B S D R h
  replace h := post_bind.mp h
  refine ha σ H B S _ R (h.mono fun p h1 a vs H1 B1 R1 e1 ha L d1 => ?_)
  exact h1 _ H1 B1 (L.take hi rfl ⟨a, vs, rfl, ha, L.b, d1⟩) e1
/-- from here on the lists of these slots stay -/
def frzS (i : Nat) (S : SS) : SS := match S[i]? with
  | some (some (.own ds)) => S.set i (some (.dat (.list ds)))
  | _ => S
def vFrz (i : Nat) (f : VS) : VS := fun S => f (frzS i S)
theorem st_frz {t : TS} {f : VS} {i : Nat} (hi : n ≤ i) (h : SSt C t f) : SSt C t (vFrz i f) := by
  intro σ H B S D R q
  unfold vFrz frzS at q
  split at q
  · rename_i ds e
    obtain ⟨B1, R1, e1⟩ := R.rest hi e
    exact h σ H B1 _ D R1 (q.mono fun fl q => q.from e1)
  · exact h σ H B S D R q
/-! ### loops -/
def loopF (fg : PyData → SS → R SS) (fb : VS) : List PyData → SS → R FL
  | [], S => .ok (.nx S)
  | d :: ds, S => (fg d S).bind fun S1 => (fb S1).bind fun fl => match fl with
    | .nx S2 => loopF fg fb ds S2
    | .ct S2 => loopF fg fb ds S2
    | .bk S2 => .ok (.nx S2)
    | .rt d S2 => .ok (.rt d S2)
def vFor (fi : VF) (fg : PyData → SS → R SS) (fb : VS) : VS := fun S => (fi S).bind fun p => loopF fg fb p.1 p.2
theorem st_for {wi : TI} {g : TG} {tb : TS} {fi : VF} {fg : PyData → SS → R SS} {fb : VS} {ts : List Nat} (hi : SI C wi fi) (hg : SG C g fg ts) (hb : SSt C tb fb) : SSt C (tFor wi g tb) (vFor fi fg fb) := by
  intro σ H B S D R h
  replace h := post_bind.mp h
  refine hi σ H B S _ R (h.mono fun p h1 J H1 B1 R1 e1 W => ?_)
  obtain ⟨ds, S1⟩ := p
  dsimp only at h1 R1 W
  refine ⟨fun i m σ' H' => m = ds.length - i ∧ i ≤ ds.length ∧ ∃ B' S', Rep C σ' H' B' S' ∧ Same B1 B' ∧ Post C (loopF fg fb (ds.drop i) S') (FlPost C B D), ⟨ds.length, by simp, Nat.zero_le _, B1, S1, R1, Same.refl _, h1⟩, ?_⟩
  rintro i m σ' H' ⟨rfl, hi, B', S', R', e', q⟩
  have eH : Same B1 H' := e'.trans R'.base.bh
  rcases Nat.lt_or_ge i ds.length with hlt | hge
  · refine .inr ⟨W.go i H' hlt eH, fun σ2 H2 => ∃ B2 S2, Rep C σ2 H2 B2 S2 ∧ Same B1 B2 ∧ Post C (loopF fg fb (ds.drop (i + 1)) S2) (FlPost C B D), ?_, ?_⟩
    · rintro σ2 H2 ⟨B2, S2, R2, e2, q2⟩
      exact ⟨ds.length - (i + 1), by omega, rfl, hlt, B2, S2, R2, e2, q2⟩
    · intro x H2 y
      obtain ⟨B2, R2, e2, dx, _⟩ := W.yld i H' H2 x ds[i] (List.getElem?_eq_getElem hlt) y C σ' B' S' R' e'
      rw [List.drop_eq_getElem_cons hlt] at q
      replace q := post_bind.mp q
      refine hg σ' H2 B2 S' x ds[i] _ R2 dx (q.mono fun S3 q σ3 R3 _ _ => ?_)
      replace q := post_bind.mp q
      refine hb σ3 H2 B2 S3 _ R3 (q.mono fun fl q => ?_)
      have e3 : Same B1 B2 := e'.trans e2
      cases fl with
      | nx S4 => exact fun σ4 H4 B4 R4 e4 => ⟨B4, S4, R4, e3.trans e4, q⟩
      | ct S4 => exact fun σ4 H4 B4 R4 e4 => ⟨B4, S4, R4, e3.trans e4, q⟩
      | bk S4 => exact fun σ4 H4 B4 R4 e4 => q σ4 H4 B4 R4 (e1.trans (e3.trans e4))
      | rt d S4 => exact fun v σ4 H4 B4 R4 e4 => q v σ4 H4 B4 R4 (e1.trans (e3.trans e4))
  · have ei : i = ds.length := by omega
    subst ei
    rw [List.drop_length] at q
    exact .inl ⟨W.stop H' eH, q σ' H' B' R' (e1.trans e')⟩
end
end Bo

namespace Bo
open PySem L2
section
variable {K : PySem.W.Frag} {n : Nat} {C : Ct K n} {σ : L2.St} {H B : Hp} {S : SS}
/-! ### a list that is held aside -/
def Ct.hold (C : Ct K n) (D : Addr) (xs : List V) : Ct K n := { C with H0 := upd C.H0 D (.lst xs) }
section
variable {D : Addr} {xs : List V}
theorem hold_base (h0 : C.H0 D = none) (b : Base (C.hold D xs) H B) : Base C H B := by
  refine ⟨fun a o n q => b.keep a o n (by show upd C.H0 D _ a = _; rw [upd_ne (ne_of_none q h0)]; exact q), b.b0, b.bh, fun a o q => ?_⟩
  rcases b.fr a o q with z | z
  · exact .inl z
  · refine .inr ?_
    have z' : upd C.H0 D (.lst xs) a = none := z
    by_cases e : a = D
    · subst e
      exact h0
    · rw [upd_ne e] at z'
      exact z'
theorem hold_out {e : Exc} (h0 : C.H0 D = none) (h : C.Out e) : (C.hold D xs).Out e := fun H B v b ot d => h H B v (hold_base h0 b) (fun a nm fs z1 z2 => by
  obtain ⟨F, s, k⟩ := ot a nm fs z1 z2
  refine ⟨F, fun p o q => ?_, k⟩
  obtain ⟨s1, s2, s3⟩ := s p o q
  refine ⟨?_, s2, s3⟩
  have s1' : upd C.H0 D (.lst xs) p = none := s1
  by_cases e : p = D
  · subst e
    exact h0
  · rwa [upd_ne e] at s1') d
theorem hold_post {α : Type} {x : R α} {k : α → Prop} (h0 : C.H0 D = none) (h : Post C x k) : Post (C.hold D xs) x k := by
  cases x with
  | ok a => exact h
  | err e => exact hold_out h0 h
  | bad => exact h
theorem Rep0.hold (R : Rep0 C σ H B S) (hD : H D = some (.lst xs)) (L : Loose0 C σ S B D) : Rep0 (C.hold D xs) σ H B S := by
  refine ⟨⟨fun a o n q => ?_, R.base.b0, R.base.bh, fun a o q => ?_⟩, R.len, fun i s h => ?_, R.dis, fun i s a h m e => ?_, R.box⟩
  · have q' : upd C.H0 D (.lst xs) a = some o := q
    by_cases z : a = D
    · subst z
      rw [upd_same] at q'
      cases q'
      exact hD
    · rw [upd_ne z] at q'
      exact R.base.keep a o n q'
  · rcases R.base.fr a o q with z | z
    · exact .inl z
    · refine .inr ?_
      show upd C.H0 D (.lst xs) a = none
      rw [upd_ne (ne_of_none q L.b)]
      exact z
  · obtain ⟨v, hv, r⟩ := R.slot i s h
    exact ⟨v, hv, by cases s <;> exact r⟩
  · rcases R.ownf i s a h m e with z | z
    · refine .inl ?_
      show upd C.H0 D (.lst xs) a = none
      rw [upd_ne (fun q => L.no i s h m (by rw [← q]; exact e))]
      exact z
    · exact .inr z
theorem Rep0.unhold (h0 : C.H0 D = none) (hB : C.B0 D = none) (nb : some D ∉ C.bx) (R : Rep0 (C.hold D xs) σ H B S) : Rep0 C σ H B S ∧ H D = some (.lst xs) ∧ Loose0 C σ S B D := by
  have hH : (C.hold D xs).H0 D = some (.lst xs) := upd_same
  have bD : B D = none := by
    cases q : B D with
    | none => rfl
    | some o =>
      rcases R.base.fr D o q with z | z
      · exact nomatch (z.symm.trans hB)
      · exact nomatch (z.symm.trans hH)
  refine ⟨⟨hold_base h0 R.base, R.len, fun i s h => ?_, R.dis, fun i s a h m e => ?_, R.box⟩, R.base.keep D _ nb hH, bD, h0, fun j u q m e => ?_⟩
  · obtain ⟨v, hv, r⟩ := R.slot i s h
    exact ⟨v, hv, by cases s <;> exact r⟩
  · rcases R.ownf i s a h m e with z | z
    · refine .inl ?_
      have z' : upd C.H0 D (.lst xs) a = none := z
      by_cases q : a = D
      · subst q
        exact h0
      · rw [upd_ne q] at z'
        exact z'
    · exact .inr z
  · rcases R.ownf j u D q m e with z | z
    · exact nomatch (z.symm.trans hH)
    · exact nb (List.mem_of_getElem? z)
theorem hold_ext {F : Hp} (hF : F D = none) : (C.hold D xs).ext F = (C.ext F).hold D xs := by
  unfold Ct.ext Ct.hold
  congr 1
  funext a
  by_cases e : a = D
  · subst e
    rw [hF]
    show upd C.H0 a (.lst xs) a = upd _ a _ a
    rw [upd_same, upd_same]
  · show (match F a with | some o => some o | none => upd C.H0 D (.lst xs) a) = upd (fun a => match F a with | some o => some o | none => C.H0 a) D (.lst xs) a
    rw [upd_ne e, upd_ne e]
theorem Rep.hold (_ : Rep C σ H B S) (hD : H D = some (.lst xs)) (L : Loose C σ S H B D) : Rep (C.hold D xs) σ H B S := by
  obtain ⟨F, R, L⟩ := L
  have hF := (ext_none L.h0).2
  refine ⟨F, fun a o h => ?_, by rw [hold_ext hF]; exact R.rep.hold hD L, R.one, R.ob⟩
  obtain ⟨q1, q2, q3⟩ := R.sd a o h
  exact ⟨by show upd C.H0 D _ a = none; rw [upd_ne (ne_of_none h hF)]; exact q1, q2, q3⟩
theorem Rep.unhold (h0 : C.H0 D = none) (hB : C.B0 D = none) (nb : some D ∉ C.bx) (R : Rep (C.hold D xs) σ H B S) : Rep C σ H B S ∧ H D = some (.lst xs) ∧ Loose C σ S H B D := by
  obtain ⟨F, R⟩ := R
  have hF : F D = none := by
    cases e : F D with
    | none => rfl
    | some o =>
      have h2 : upd C.H0 D (.lst xs) D = none := (R.sd D o e).1
      rw [upd_same] at h2
      cases h2
  have R0 := R.rep
  rw [hold_ext hF] at R0
  obtain ⟨q1, q2, q3⟩ := Rep0.unhold (C := C.ext F) (by rw [ext_N hF]; exact h0) hB nb R0
  have R1 : RepF C F σ H B S := ⟨fun a o h => by
    obtain ⟨p1, p2, p3⟩ := R.sd a o h
    have p1' : upd C.H0 D (.lst xs) a = none := p1
    rw [upd_ne (ne_of_none h hF)] at p1'
    exact ⟨p1', p2, p3⟩, q1, R.one, R.ob⟩
  exact ⟨⟨F, R1⟩, q2, F, R1, q3⟩
end
/-! ### slots set aside -/
def wipeS (S : SS) : List Nat → SS
  | [] => S
  | v :: vs => (wipeS S vs).set v none
def backS (S0 S : SS) : List Nat → SS
  | [] => S
  | v :: vs => (backS S0 S vs).set v (S0[v]?.join)
theorem wipeS_len : ∀ vs : List Nat, (wipeS S vs).length = S.length
  | [] => rfl
  | v :: vs => by
    unfold wipeS
    rw [List.length_set, wipeS_len vs]
theorem backS_len {S0 : SS} : ∀ vs : List Nat, (backS S0 S vs).length = S.length
  | [] => rfl
  | v :: vs => by
    unfold backS
    rw [List.length_set, backS_len vs]
theorem wipeS_some {i : Nat} {s : SV} : ∀ {vs : List Nat}, (wipeS S vs)[i]? = some (some s) → i ∉ vs ∧ S[i]? = some (some s)
  | [], h => ⟨by simp, h⟩
  | v :: vs, h => by
    unfold wipeS at h
    by_cases e : i = v
    · subst e
      have hl := (List.getElem?_eq_some_iff.mp h).1
      rw [List.length_set] at hl
      rw [List.getElem?_set_self hl] at h
      cases h
    · rw [List.getElem?_set_ne (Ne.symm e)] at h
      obtain ⟨h1, h2⟩ := wipeS_some h
      exact ⟨fun z => (List.mem_cons.mp z).elim e h1, h2⟩
theorem backS_some {S0 : SS} {i : Nat} {s : SV} : ∀ {vs : List Nat}, (backS S0 S vs)[i]? = some (some s) → (i ∈ vs ∧ S0[i]? = some (some s)) ∨ (i ∉ vs ∧ S[i]? = some (some s))
  | [], h => .inr ⟨by simp, h⟩
  | v :: vs, h => by
    unfold backS at h
    by_cases e : i = v
    · subst e
      have hl := (List.getElem?_eq_some_iff.mp h).1
      rw [List.length_set] at hl
      rw [List.getElem?_set_self hl] at h
      refine .inl ⟨List.mem_cons_self, ?_⟩
      cases q : S0[i]? with
      | none => rw [q] at h; cases h
      | some o => rw [q] at h; exact h
    · rw [List.getElem?_set_ne (Ne.symm e)] at h
      rcases backS_some h with ⟨h1, h2⟩ | ⟨h1, h2⟩
      · exact .inl ⟨List.mem_cons_of_mem _ h1, h2⟩
      · exact .inr ⟨fun z => (List.mem_cons.mp z).elim e h1, h2⟩
theorem wipe_ext {σ σ' : L2.St} {vs : List Nat} (hl : σ'.length = σ.length) (h : ∀ i, i ∉ vs → σ'[i]? = σ[i]?) : wipe σ' vs = wipe σ vs := by
  have key : ∀ us : List Nat, ∀ i, i ∈ us → ∀ τ : L2.St, i < τ.length → (wipe τ us)[i]? = some none := by
    intro us
    induction us with
    | nil => intro i hi; exact absurd hi (by simp)
    | cons u us ih =>
      intro i hi τ hτ
      unfold wipe
      by_cases e : i = u
      · subst e
        rw [List.getElem?_set_self (by rw [wipe_length]; exact hτ)]
      · rw [List.getElem?_set_ne (Ne.symm e)]
        rcases List.mem_cons.mp hi with z | z
        · exact absurd z e
        · exact ih i z τ hτ
  refine List.ext_getElem? fun i => ?_
  by_cases hi : i ∈ vs
  · by_cases hb : i < σ.length
    · rw [key vs i hi σ hb, key vs i hi σ' (by omega)]
    · rw [List.getElem?_eq_none (by rw [wipe_length]; omega), List.getElem?_eq_none (by rw [wipe_length]; omega)]
  · rw [wipe_out hi, wipe_out hi, h i hi]
theorem Rep0.wiped (R : Rep0 C σ H B S) {vs : List Nat} (hv : ∀ v ∈ vs, n ≤ v) : Rep0 C (wipe σ vs) H B (wipeS S vs) := by
  refine ⟨R.base, by rw [wipeS_len, wipe_length]; exact R.len, fun i s h => ?_, fun i j s u a h1 h2 m1 m2 e1 e2 => ?_, fun i s a h m e => ?_, fun i a h => ?_⟩
  · obtain ⟨h1, h2⟩ := wipeS_some h
    rw [wipe_out h1]
    exact R.slot i s h2
  · obtain ⟨p1, p2⟩ := wipeS_some h1
    obtain ⟨q1, q2⟩ := wipeS_some h2
    rw [wipe_out p1] at e1
    rw [wipe_out q1] at e2
    exact R.dis i j s u a p2 q2 m1 m2 e1 e2
  · obtain ⟨p1, p2⟩ := wipeS_some h
    rw [wipe_out p1] at e
    exact R.ownf i s a p2 m e
  · have hn : i ∉ vs := fun z => by
      have := hv i z
      have := (List.getElem?_eq_some_iff.mp h).1
      have := C.hbx
      omega
    obtain ⟨q1, s, q2, q3⟩ := R.box i a h
    refine ⟨by rw [wipe_out hn]; exact q1, s, ?_, q3⟩
    have out : ∀ us : List Nat, i ∉ us → (wipeS S us)[i]? = S[i]? := by
      intro us
      induction us with
      | nil => intro _; rfl
      | cons u us ih =>
        intro hu
        unfold wipeS
        rw [List.getElem?_set_ne (fun e => hu (by simp [e]))]
        exact ih fun z => hu (List.mem_cons_of_mem _ z)
    rw [out vs hn]
    exact q2
theorem RepF.wiped {F : Hp} (R : RepF C F σ H B S) {vs : List Nat} (hv : ∀ v ∈ vs, n ≤ v) : RepF C F (wipe σ vs) H B (wipeS S vs) := by
  refine ⟨R.sd, R.rep.wiped hv, fun i j s u h1 h2 m1 m2 => R.one i j s u (wipeS_some h1).2 (wipeS_some h2).2 m1 m2, fun i nm fs h => ?_⟩
  obtain ⟨h1, h2⟩ := wipeS_some h
  obtain ⟨a, q1, q2, q3⟩ := R.ob i nm fs h2
  exact ⟨a, by rw [wipe_out h1]; exact q1, q2, q3⟩
theorem Rep.wiped (R : Rep C σ H B S) {vs : List Nat} (hv : ∀ v ∈ vs, n ≤ v) : Rep C (wipe σ vs) H B (wipeS S vs) := by
  obtain ⟨F, R⟩ := R
  exact ⟨F, R.wiped hv⟩
theorem Loose.wiped {D : Addr} (L : Loose C σ S H B D) {vs : List Nat} (hv : ∀ v ∈ vs, n ≤ v) : Loose C (wipe σ vs) (wipeS S vs) H B D := by
  obtain ⟨F, R, L⟩ := L
  refine ⟨F, R.wiped hv, L.b, L.h0, fun j u z m e => ?_⟩
  obtain ⟨z1, z2⟩ := wipeS_some z
  refine L.no j u z2 m ?_
  rw [wipe_out z1] at e
  exact e
/-- what stands at a loose place is changed -/
theorem Loose.set {D : Addr} (L : Loose C σ S H B D) (o : HO) : Loose C σ S (upd H D o) B D := by
  obtain ⟨F, R, L⟩ := L
  refine ⟨F, ⟨R.sd, R.rep.grow ⟨fun a o na z => ?_, R.rep.base.b0, fun a o z => ?_, R.rep.base.fr⟩ (Same.refl _) fun a o z1 z2 ⟨j, u, z3, z4, z5⟩ => ⟨?_, z2⟩, R.one, R.ob⟩, L⟩
  · rw [upd_ne (ne_of_none z L.h0)]
    exact R.rep.base.keep a o na z
  · rw [upd_ne (ne_of_none z L.b)]
    exact R.rep.base.bh a o z
  · rw [upd_ne]
    · exact z1
    · rintro rfl
      exact L.no j u z3 z4 z5
/-- no slot to be set aside has a list of its own -/
def okS (vs : List Nat) (S : SS) : Bool := vs.all fun v => match S[v]? with
  | some (some s) => !s.mine && !s.isObj
  | _ => true
theorem okS_at2 {vs : List Nat} {i : Nat} {s : SV} (h : okS vs S = true) (hi : i ∈ vs) (e : S[i]? = some (some s)) : s.mine = false ∧ s.isObj = false := by
  have := List.all_eq_true.mp h i hi
  rw [e] at this
  simpa using this
theorem okS_at {vs : List Nat} {i : Nat} {s : SV} (h : okS vs S = true) (hi : i ∈ vs) (e : S[i]? = some (some s)) : s.mine = false := (okS_at2 h hi e).1
theorem Rep0.back {C0 : Ct K n} {H1 B1 : Hp} {S1 : SS} {vs : List Nat} (R : Rep C0 σ H B S) (R1 : Rep0 C (wipe σ vs) H1 B1 S1) (e : Same B B1) (ok : okS vs S = true) (hv : ∀ v ∈ vs, n ≤ v) : Rep0 C σ H1 B1 (backS S S1 vs) := by
  have mine : ∀ (i : Nat) s, (backS S S1 vs)[i]? = some (some s) → s.mine = true → i ∉ vs ∧ S1[i]? = some (some s) := fun i s h m => by
    rcases backS_some h with ⟨h1, h2⟩ | h
    · rw [okS_at ok h1 h2] at m
      cases m
    · exact h
  refine ⟨R1.base, by rw [backS_len, R1.len, wipe_length], fun i s h => ?_, fun i j s u a h1 h2 m1 m2 e1 e2 => ?_, fun i s a h m q => ?_, fun i a h => ?_⟩
  · rcases backS_some h with ⟨h1, h2⟩ | ⟨h1, h2⟩
    · obtain ⟨v, hv, r⟩ := R.slot i s h2
      have hm := okS_at ok h1 h2
      exact ⟨v, hv, SR.mono e (fun m => by rw [hm] at m; cases m) r⟩
    · obtain ⟨v, q, r⟩ := R1.slot i s h2
      rw [wipe_out h1] at q
      exact ⟨v, q, r⟩
  · obtain ⟨p1, p2⟩ := mine i s h1 m1
    obtain ⟨q1, q2⟩ := mine j u h2 m2
    exact R1.dis i j s u a p2 q2 m1 m2 (by rw [wipe_out p1]; exact e1) (by rw [wipe_out q1]; exact e2)
  · obtain ⟨p1, p2⟩ := mine i s h m
    exact R1.ownf i s a p2 m (by rw [wipe_out p1]; exact q)
  · have hn : i ∉ vs := fun z => by
      have := hv i z
      have := (List.getElem?_eq_some_iff.mp h).1
      have := C.hbx
      omega
    obtain ⟨q1, s, q2, q3⟩ := R1.box i a h
    refine ⟨by rw [← wipe_out hn]; exact q1, s, ?_, q3⟩
    have out : ∀ us : List Nat, i ∉ us → (backS S S1 us)[i]? = S1[i]? := by
      intro us
      induction us with
      | nil => intro _; rfl
      | cons u us ih =>
        intro hu
        unfold backS
        rw [List.getElem?_set_ne (fun e => hu (by simp [e]))]
        exact ih fun z => hu (List.mem_cons_of_mem _ z)
    rw [out vs hn]
    exact q2
theorem RepF.back {F : Hp} {H1 B1 : Hp} {S1 : SS} {vs : List Nat} (R : Rep C σ H B S) (R1 : RepF C F (wipe σ vs) H1 B1 S1) (e : Same B B1) (ok : okS vs S = true) (hv : ∀ v ∈ vs, n ≤ v) : RepF C F σ H1 B1 (backS S S1 vs) := by
  have ob : ∀ (i : Nat) s, (backS S S1 vs)[i]? = some (some s) → s.isObj = true → i ∉ vs ∧ S1[i]? = some (some s) := fun i s h m => by
    rcases backS_some h with ⟨h1, h2⟩ | h
    · rw [(okS_at2 ok h1 h2).2] at m
      cases m
    · exact h
  refine ⟨R1.sd, Rep0.back R R1.rep e ok hv, fun i j s u h1 h2 m1 m2 => R1.one i j s u (ob i s h1 m1).2 (ob j u h2 m2).2 m1 m2, fun i nm fs h => ?_⟩
  obtain ⟨h1, h2⟩ := ob i _ h rfl
  obtain ⟨a, q1, q2, q3⟩ := R1.ob i nm fs h2
  exact ⟨a, by rw [← wipe_out h1]; exact q1, q2, q3⟩
theorem Rep.back {H1 B1 : Hp} {S1 : SS} {vs : List Nat} (R : Rep C σ H B S) (R1 : Rep C (wipe σ vs) H1 B1 S1) (e : Same B B1) (ok : okS vs S = true) (hv : ∀ v ∈ vs, n ≤ v) : Rep C σ H1 B1 (backS S S1 vs) := by
  obtain ⟨F, R1⟩ := R1
  exact ⟨F, RepF.back R R1 e ok hv⟩
theorem Loose.back {D : Addr} {H1 B1 : Hp} {S1 : SS} {vs : List Nat} (L : Loose C (wipe σ vs) S1 H1 B1 D) (R : Rep C σ H B S) (e : Same B B1) (ok : okS vs S = true) (hv : ∀ v ∈ vs, n ≤ v) : Loose C σ (backS S S1 vs) H1 B1 D := by
  obtain ⟨F, R1, L⟩ := L
  refine ⟨F, RepF.back R R1 e ok hv, L.b, L.h0, fun j u z m e => ?_⟩
  rcases backS_some z with ⟨z1, z2⟩ | ⟨z1, z2⟩
  · rw [okS_at ok z1 z2] at m
    cases m
  · exact L.no j u z2 m (by rw [wipe_out z1]; exact e)
/-! ### comprehensions -/
def lcF (fg : PyData → SS → R SS) (ft : VT) (fe : VE) (vs : List Nat) : List PyData → SS → R (List PyData × SS)
  | [], S => .ok ([], S)
  | d :: ds, S => (fg d S).bind fun S1 => (ft S1).bind fun p => if p.1 = true then (fe p.2).bind fun q => (lcF fg ft fe vs ds (wipeS q.2 vs)).bind fun r => .ok (q.1 :: r.1, r.2) else lcF fg ft fe vs ds (wipeS p.2 vs)
def vLc (vs : List Nat) (fi : VF) (fg : PyData → SS → R SS) (ft : VT) (fe : VE) : VF := fun S => (fi S).bind fun p => R.when (okS vs p.2 = true ∧ p.1.length ≤ 100000) ((lcF fg ft fe vs p.1 (wipeS p.2 vs)).bind fun r => .ok (r.1, backS p.2 r.2 vs))
def vYes : VT := fun S => .ok (true, S)
theorem s_yes : ST C tYes vYes := fun σ H B S Q R h => h H B R (Same.refl _)
theorem f_lc {wi : TI} {g : TG} {tt : TT} {te : TE} {vs ts : List Nat} {fi : VF} {fg : PyData → SS → R SS} {ft : VT} {fe : VE} (hv : vs.all (fun v => decide (n ≤ v)) = true) (hts : ts.all (fun t => decide (t ∈ vs)) = true) (hi : SI C wi fi)
    (hg : ∀ C' : Ct K n, SG C' g fg ts) (ht : ∀ C' : Ct K n, ST C' tt ft) (he : ∀ C' : Ct K n, SE C' te fe) : SEF C (tLc wi g tt te vs) (vLc vs fi fg ft fe) := by
  intro σ H B S Q R h
  have hv' : ∀ v ∈ vs, n ≤ v := fun v m => of_decide_eq_true (List.all_eq_true.mp hv v m)
  have hts' : ∀ t ∈ ts, t ∈ vs := fun t m => of_decide_eq_true (List.all_eq_true.mp hts t m)
  replace h := post_bind.mp h
  refine hi σ H B S _ R (h.mono fun p h J H1 B1 R1 e1 W => ?_)
  obtain ⟨ds, S1⟩ := p
  dsimp only at h R1 W
  obtain ⟨⟨ok, hlen⟩, h⟩ := post_when.mp h
  replace h := post_bind.mp h
  intro D hD
  obtain ⟨h0, hB1, nb⟩ := R1.new hD
  have hB0 : C.B0 D = none := by
    cases q : C.B0 D with
    | none => rfl
    | some o =>
      rw [R1.base.b0 D o q] at hB1
      cases hB1
  refine ⟨fun i m H' => m = ds.length - i ∧ i ≤ ds.length ∧ ∃ B' S' acc accd, Rep C (wipe σ vs) H' B' S' ∧ Same B1 B' ∧ H' D = some (.lst acc) ∧ Loose C (wipe σ vs) S' H' B' D ∧ DaAll K B' acc accd ∧ accd.length ≤ i ∧
    Post C (lcF fg ft fe vs (ds.drop i) S') (fun r => ∀ a us H'' B'', Rep C σ H'' B'' (backS S1 r.2 vs) → Same B B'' → H'' a = some (.lst us) → Loose C σ (backS S1 r.2 vs) H'' B'' a → DaAll K B'' us (accd ++ r.1) → Q (.ref a) H''), ⟨ds.length, ?_⟩, ?_⟩
  · obtain ⟨R2, L2⟩ := (R1.wiped hv').newLoose (o := .lst []) hD
    exact ⟨by simp, Nat.zero_le _, B1, wipeS S1 vs, [], [], R2, Same.refl _, upd_same, L2, .nil, Nat.le_refl _, h.mono fun r q => q⟩
  rintro i m H' ⟨rfl, hi, B', S', acc, accd, R', e', hA, L, dA, lA, q⟩
  have eH : Same B1 H' := e'.trans R'.base.bh
  rcases Nat.lt_or_ge i ds.length with hlt | hge
  · refine .inr ⟨W.go i H' hlt eH, _, fun H2 z => ⟨ds.length - (i + 1), by omega, rfl, hlt, z⟩, ?_⟩
    intro x H2 y
    have Rh := R'.hold hA L
    obtain ⟨B2, R2, e2, dx, _⟩ := W.yld i H' H2 x ds[i] (List.getElem?_eq_getElem hlt) y (C.hold D acc) (wipe σ vs) B' S' Rh e'
    rw [List.drop_eq_getElem_cons hlt] at q
    replace q := post_bind.mp q
    refine hg (C.hold D acc) (wipe σ vs) H2 B2 S' x ds[i] _ R2 dx (hold_post h0 (q.mono fun S3 q σ3 R3 l3 k3 => ?_))
    have hw : wipe σ3 vs = wipe σ vs := by
      have hw1 : wipe σ3 vs = wipe (wipe σ vs) vs := wipe_ext l3 fun j hj => k3 j fun z => hj (hts' j z)
      have hw2 : wipe (wipe σ vs) vs = wipe σ vs := wipe_ext (wipe_length _ _) fun j hj => wipe_out hj
      rw [hw1, hw2]
    refine ⟨hw, ?_⟩
    replace q := post_bind.mp q
    -- what a turn leaves is the next turn's start
    have next : ∀ {H4 B4 : Hp} {S4 : SS}, Rep (C.hold D acc) σ3 H4 B4 S4 → Rep C (wipe σ vs) H4 B4 (wipeS S4 vs) ∧ H4 D = some (.lst acc) ∧ Loose C (wipe σ vs) (wipeS S4 vs) H4 B4 D ∧ Rep C σ3 H4 B4 S4 ∧ Loose C σ3 S4 H4 B4 D := fun R4 => by
      obtain ⟨R5, hD5, L5⟩ := R4.unhold h0 hB0 nb
      have R6 := R5.wiped hv'
      have L6 := L5.wiped hv'
      rw [hw] at R6 L6
      exact ⟨R6, hD5, L6, R5, L5⟩
    refine ht (C.hold D acc) σ3 H2 B2 S3 _ R3 (hold_post h0 (q.mono fun p q H3 B3 R4 e3 => ?_))
    obtain ⟨c, S4⟩ := p
    cases c with
    | false =>
      obtain ⟨R6, hD6, L6, _, _⟩ := next R4
      have e13 := e2.trans e3
      exact ⟨B3, wipeS S4 vs, acc, accd, R6, e'.trans e13, hD6, L6, daa_mono e13 dA, by omega, q⟩
    | true =>
      replace q : Post C ((fe S4).bind _) _ := q
      replace q := post_bind.mp q
      refine he (C.hold D acc) σ3 H3 B3 S4 _ R4 (hold_post h0 (q.mono fun r q v H5 B5 R5 e5 d5 => ?_))
      replace q := post_bind.mp q
      obtain ⟨R6, hD6, L6, R7, L7⟩ := next R5
      have e15 := e2.trans (e3.trans e5)
      refine ⟨acc, hD6, Nat.lt_of_lt_of_le (Nat.lt_of_le_of_lt (Nat.le_of_eq (daa_len dA)) (Nat.lt_of_le_of_lt lA hlt)) (line_le hlen), ?_⟩
      have L8 := L6.set (.lst (acc ++ [v]))
      refine ⟨B5, wipeS r.2 vs, acc ++ [v], accd ++ [r.1], L8.rep, e'.trans e15, upd_same, L8, daa_app (daa_mono e15 dA) (.cons d5 .nil), ?_, ?_⟩
      · rw [List.length_append, List.length_singleton]
        omega
      · refine q.mono fun w q a us H'' B'' Ra eb hA' L' d' => q a us H'' B'' Ra eb hA' L' ?_
        rw [List.append_assoc] at d'
        exact d'
  · have ei : i = ds.length := by omega
    subst ei
    rw [List.drop_length] at q
    refine .inl ⟨W.stop H' eH, ?_⟩
    have Rb := R1.back R' e' ok hv'
    exact q D acc H' B' Rb (e1.trans e') hA (L.back R1 e' ok hv') (by rw [List.append_nil]; exact dA)
end
end Bo

namespace Bo
open PySem L2
section
variable {K : PySem.W.Frag} {n : Nat} {C : Ct K n} {σ : L2.St} {H B : Hp} {S : SS}
/-! ### a slot's own list, read -/
def ownD (S : SS) (i : Nat) : R (List PyData) := match S[i]? with
  | some (some (.own ds)) => .ok ds
  | _ => .bad
theorem own_of {i : Nat} {k : List PyData → Prop} (R : Rep C σ H B S) (h : Post C (ownD S i) k) : ∃ ds a vs, S[i]? = some (some (.own ds)) ∧ σ[i]? = some (some (.ref a)) ∧ H a = some (.lst vs) ∧ DaAll K B vs ds ∧ k ds := by
  unfold ownD at h
  split at h
  · rename_i ds e
    obtain ⟨v, hv, a, vs, rfl, h1, _, h3⟩ := R.slot i _ e
    exact ⟨ds, a, vs, e, hv, h1, h3, h⟩
  · exact h.elim
def vLenO (i : Nat) : VE := fun S => (ownD S i).bind fun ds => .ok (.int ds.length, S)
theorem s_lenO {i : Nat} : SE C (tCB (fun xs H Q => ∃ p ys, xs = [.ref p] ∧ (SqL K H p ys ∨ SqT K H p ys) ∧ Q (.int ys.length) H) (tCons (tVar i) tNil)) (vLenO i) := by
  intro σ H B S Q R h
  obtain ⟨ds, a, vs, e1, e2, e3, e4, h⟩ := own_of R (post_bind.mp h)
  exact ⟨_, e2, a, vs, rfl, .inl (SqL.of e3), by rw [daa_len e4]; exact h _ H B R (Same.refl _) (.int _)⟩
def vIxO (i : Nat) (fk : VE) : VE := fun S => (ownD S i).bind fun _ => (fk S).bind fun p => (ownD p.2 i).bind fun ds => (toI p.1).bind fun k => (ixD ds k).bind fun d => .ok (d, p.2)
theorem s_ixO {i : Nat} {tk : TE} {fk : VE} (hk : SE C tk fk) : SE C (tOp (rIxL K) (tVar i) tk) (vIxO i fk) := by
  intro σ H B S Q R h
  obtain ⟨ds0, a0, vs0, q1, q2, q3, q4, h⟩ := own_of R (post_bind.mp h)
  refine ⟨_, q2, ?_⟩
  replace h := post_bind.mp h
  refine hk σ H B S _ R (h.mono fun p h1 v H1 B1 R1 e1 d1 => ?_)
  obtain ⟨ds, a, vs, e1', e2, e3, e4, h1⟩ := own_of R1 (post_bind.mp h1)
  rw [q2] at e2
  cases e2
  obtain ⟨k, rfl, _, h1⟩ := int_of d1 (post_bind.mp h1)
  unfold ixD at h1
  split at h1
  · rename_i z qz
    obtain ⟨w, hw, dw⟩ := at_da e4 qz
    exact ⟨_, _, _, w, rfl, rfl, SqL.of e3, hw, h1 w H1 B1 R1 e1 dw⟩
  · exact h1.elim
def vInO (neg : Bool) (fa : VE) (i : Nat) : VE := fun S => (fa S).bind fun p => (ownD p.2 i).bind fun ds => R.when (flatD p.1 = true ∧ ds.all flatD = true) (.ok (.bool (if neg then !inD p.1 ds else inD p.1 ds), p.2))
def vTupleO (i : Nat) : VE := fun S => (ownD S i).bind fun ds => .ok (.tuple ds, S)
theorem s_tupleO {i : Nat} : SE C (tCB (fun xs H Q => ∃ p ys, xs = [.ref p] ∧ ((SqL K H p ys ∧ ∀ l, H l = none → Q (.ref l) (upd H l (.tup ys))) ∨ (SqT K H p ys ∧ Q (.ref p) H))) (tCons (tVar i) tNil)) (vTupleO i) := by
  intro σ H B S Q R h
  obtain ⟨ds, a, vs, e1, e2, e3, e4, h⟩ := own_of R (post_bind.mp h)
  refine ⟨_, e2, a, vs, rfl, .inl ⟨SqL.of e3, fun l hl => ?_⟩⟩
  obtain ⟨B', R1, e1, d1⟩ := R.tup hl e4
  exact h _ _ B' R1 e1 d1
def vListO (i : Nat) : VF := fun S => (ownD S i).bind fun ds => .ok (ds, S)
def vTruO (i : Nat) : VT := fun S => (ownD S i).bind fun ds => .ok (!ds.isEmpty, S)
/-! ### a slot's own list, changed -/
/-- xs.append(e) -/
def vApp (i : Nat) (fe : VE) : VE := fun S => (ownD S i).bind fun _ => (fe S).bind fun p => (ownD p.2 i).bind fun ds => R.when (ds.length < 100000) (.ok (.none, p.2.set i (some (.own (ds ++ [p.1])))))
theorem s_app {i : Nat} {te : TE} {fe : VE} (he : SE C te fe) : SE C (tBM K "list" rAppend (tVar i) (tCons te tNil)) (vApp i fe) := by
  intro σ H B S Q R h
  obtain ⟨ds0, a0, vs0, q1, q2, q3, q4, h⟩ := own_of R (post_bind.mp h)
  refine ⟨_, q2, .inl ⟨rfl, _, SqL.of q3⟩, ?_⟩
  replace h := post_bind.mp h
  refine he σ H B S _ R (h.mono fun p h1 v H1 B1 R1 e1 d1 => ?_)
  obtain ⟨ds, a, vs, p1, p2, p3, p4, h1⟩ := own_of R1 (post_bind.mp h1)
  rw [q2] at p2
  cases p2
  obtain ⟨k, h1⟩ := post_when.mp h1
  refine ⟨_, vs, v, rfl, rfl, p3, Nat.lt_of_lt_of_le (by rw [daa_len p4]; exact k) (by decide), ?_⟩
  obtain ⟨_, _, w1, w2, w3⟩ := R1.own_at p1 rfl
  rw [q2] at w1
  cases w1
  exact h1 _ _ B1 (R1.write p1 rfl rfl q2 ⟨_, vs ++ [v], rfl, upd_same, w3, daa_app p4 (.cons d1 .nil)⟩) e1 .non
/-- xs.pop() -/
def vPop (i : Nat) : VE := fun S => (ownD S i).bind fun ds => match ds[ds.length - 1]? with
  | some d => .ok (d, S.set i (some (.own ds.dropLast)))
  | none => .bad
theorem daa_dropLast : ∀ {vs : List V} {ds : List PyData}, DaAll K B vs ds → DaAll K B vs.dropLast ds.dropLast := fun {vs ds} h => by
  rw [List.dropLast_eq_take, List.dropLast_eq_take, daa_len h]
  exact daa_take _ h
theorem s_pop {i : Nat} : SE C (tBM0 K "list" rPop (tVar i)) (vPop i) := by
  intro σ H B S Q R h
  obtain ⟨ds, a, vs, q1, q2, q3, q4, h⟩ := own_of R (post_bind.mp h)
  split at h
  · rename_i d e
    obtain ⟨v, hv, dv⟩ := daa_get q4 e
    obtain ⟨_, _, w1, w2, w3⟩ := R.own_at q1 rfl
    rw [q2] at w1
    cases w1
    refine ⟨_, q2, .inl ⟨rfl, _, SqL.of q3⟩, _, vs, v, rfl, rfl, q3, by rw [daa_len q4]; exact hv, ?_⟩
    exact h v _ B (R.write q1 rfl rfl q2 ⟨_, vs.dropLast, rfl, upd_same, w3, daa_dropLast q4⟩) (Same.refl _) dv
  · exact h.elim
/-- xs[k] = e -/
def vSetI (i : Nat) (fk fe : VE) : VS := fun S => (fe S).bind fun p => (ownD p.2 i).bind fun _ => (fk p.2).bind fun q => (ownD q.2 i).bind fun ds => (toI q.1).bind fun k => match ixN ds.length k with
  | some j => .ok (.nx (q.2.set i (some (.own (ds.set j p.1)))))
  | none => .bad
theorem st_setI {i : Nat} {tk te : TE} {fk fe : VE} (hk : SE C tk fk) (he : SE C te fe) : SSt C (tAsg te (gSub (tVar i) tk rSetL)) (vSetI i fk fe) := by
  intro σ H B S D R h
  replace h := post_bind.mp h
  refine he σ H B S _ R (h.mono fun p h1 v H1 B1 R1 e1 d1 => ?_)
  obtain ⟨ds0, a0, vs0, q1, q2, q3, q4, h1⟩ := own_of R1 (post_bind.mp h1)
  refine ⟨_, q2, ?_⟩
  replace h1 := post_bind.mp h1
  refine hk σ H1 B1 p.2 _ R1 (h1.mono fun q h2 w H2 B2 R2 e2 d2 => ?_)
  obtain ⟨ds, a, vs, p1, p2, p3, p4, h2⟩ := own_of R2 (post_bind.mp h2)
  rw [q2] at p2
  cases p2
  obtain ⟨k, rfl, _, h2⟩ := int_of d2 (post_bind.mp h2)
  split at h2
  · rename_i j ej
    obtain ⟨_, _, w1, w2, w3⟩ := R2.own_at p1 rfl
    rw [q2] at w1
    cases w1
    refine ⟨_, vs, k, j, rfl, rfl, p3, by rw [daa_len p4]; exact ej, ?_⟩
    exact h2 _ _ B2 (R2.write p1 rfl rfl q2 ⟨_, vs.set j v, rfl, upd_same, w3, daa_set j p4 (da_mono e2 d1)⟩) (e1.trans e2)
  · exact h2.elim
/-! ### dicts of a slot -/
def keyD : PyData → R Key
  | .int i => .ok (.inl i)
  | .str x => .ok (.inr x)
  | _ => .bad
def putD (kvs : List (Key × PyData)) (k : Key) (d : PyData) : List (Key × PyData) :=
  if (kvs.any fun kv => decide (kv.1 = k)) = true then kvs.map (fun kv => if kv.1 = k then (kv.1, d) else kv) else kvs ++ [(k, d)]
def dicD (S : SS) (i : Nat) : R (List (Key × PyData)) := match S[i]? with
  | some (some (.dic ds)) => .ok ds
  | _ => .bad
/-- d[k] = e: the value first -/
def vPutD (i : Nat) (fk fe : VE) : VS := fun S => (fe S).bind fun p => (dicD p.2 i).bind fun _ => (fk p.2).bind fun q => (keyD q.1).bind fun y => (dicD q.2 i).bind fun kvs => R.when (kvs.length < 100000) (.ok (.nx (q.2.set i (some (.dic (putD kvs y p.1))))))
/-! ### calls -/
def Frz (H B B' : Hp) : Prop := ∀ a o, B' a = some o → B a = some o ∨ H a = none
def R.okTo {α : Type} (x : R α) (k : α → Prop) : Prop := match x with
  | .ok a => k a
  | _ => False
def R.noErr {α : Type} (x : R α) : R α := match x with
  | .ok a => .ok a
  | _ => .bad
/-- a def that changes nothing and raises nothing -/
def spP (K : PySem.W.Frag) (m : Nat) (den : List PyData → R PyData) : Sp := fun vs H Q _ => ∃ (ds : List PyData) (B : Hp), DaAll K B vs ds ∧ Same B H ∧ ds.length = m ∧
  (den ds).okTo fun z => ∀ v H' B', Same H H' → Same B B' → Same B' H' → Frz H B B' → Da K B' v z → Q v H'
/-- a def whose first argument is a list that it may change -/
def spB (K : PySem.W.Frag) (m : Nat) (den : List PyData → List PyData → R (PyData × List PyData)) : Sp := fun vs H Q _ => ∃ (a : Addr) (us ws : List V) (bs ds : List PyData) (B : Hp), vs = .ref a :: us ∧ H a = some (.lst ws) ∧ B a = none ∧ DaAll K B ws bs ∧ DaAll K B us ds ∧ Same B H ∧ ds.length = m ∧
  (den bs ds).okTo fun z => ∀ v H' B' ws', (∀ b o, b ≠ a → H b = some o → H' b = some o) → Same B B' → Same B' H' → Frz H B B' → B' a = none → H' a = some (.lst ws') → DaAll K B' ws' z.2 → Da K B' v z.1 → Q v H'
/-- a def of the script -/
def spS (K : PySem.W.Frag) (den : List Int → R PyData) : Sp := fun vs H Q _ => ∃ (a : Addr) (ns : List Int) (B : Hp), vs = [.ref a] ∧ SqL K B a (ns.map V.int) ∧ Same B H ∧
  (den ns).okTo fun z => ∀ v H' B', Same H H' → Same B B' → Same B' H' → Frz H B B' → Da K B' v z → Q v H'
theorem okTo_of {α : Type} {x : R α} {k : α → Prop} (h : Post C x.noErr k) : x.okTo k := by
  cases x with
  | ok a => exact h
  | err e => exact h.elim
  | bad => exact h.elim
theorem R.okTo.mono {α : Type} {x : R α} {k k' : α → Prop} (h : x.okTo k) (m : ∀ a, k a → k' a) : x.okTo k' := by
  cases x with
  | ok a => exact m a h
  | err e => exact h
  | bad => exact h
/-- behind a call that changed nothing of ours -/
theorem Rep0.after {H' B' : Hp} (R : Rep0 C σ H B S) (sH : Same H H') (sB : Same B B') (bh : Same B' H') (fz : Frz H B B') : Rep0 C σ H' B' S := by
  refine R.grow ⟨fun a o na q => sH a o (R.base.keep a o na q), R.base.b0.trans sB, bh, fun a o q => ?_⟩ sB fun a o h1 h2 _ => ⟨sH a o h1, ?_⟩
  · rcases fz a o q with z | z
    · exact R.base.fr a o z
    · exact .inr (R.new z).1
  · cases q : B' a with
    | none => rfl
    | some u =>
      rcases fz a u q with z | z
      · exact nomatch (h2.symm.trans z)
      · exact nomatch (h1.symm.trans z)
/-- the heap grows, what stays is as before -/
theorem Rep.kept {H' : Hp} (R : Rep C σ H B S) (sH : Same H H') : Rep C σ H' B S := by
  obtain ⟨F, R⟩ := R
  exact ⟨F, R.sd, R.rep.grow ⟨fun a o na q => sH a o (R.rep.base.keep a o na q), R.rep.base.b0, R.rep.base.bh.trans sH, R.rep.base.fr⟩ (Same.refl _) fun a o z1 z2 _ => ⟨sH a o z1, z2⟩, R.one, R.ob⟩
theorem RepF.after {F H' B' : Hp} (R : RepF C F σ H B S) (sH : Same H H') (sB : Same B B') (bh : Same B' H') (fz : Frz H B B') : RepF C F σ H' B' S :=
  ⟨R.sd, R.rep.after sH sB bh fz, R.one, R.obB sB⟩
theorem Rep.after {H' B' : Hp} (R : Rep C σ H B S) (sH : Same H H') (sB : Same B B') (bh : Same B' H') (fz : Frz H B B') : Rep C σ H' B' S := by
  obtain ⟨F, R⟩ := R
  exact ⟨F, R.sd, R.rep.after sH sB bh fz, R.one, R.obB sB⟩
def vCallP (m : Nat) (den : List PyData → R PyData) (fa : VA) : VE := fun S => (fa S).bind fun p => R.when (p.1.length = m) (((den p.1).noErr).bind fun z => .ok (z, p.2))
theorem s_callP {m : Nat} {den : List PyData → R PyData} {E : XK} {ta : TA} {fa : VA} (ha : SA C ta fa) : SE C (tCall (spP K m den) [] E ta) (vCallP m den fa) := by
  intro σ H B S Q R h
  replace h := post_bind.mp h
  refine ha σ H B S _ R (h.mono fun p h1 vs H1 B1 R1 e1 d1 => ?_)
  obtain ⟨k, h1⟩ := post_when.mp h1
  replace h1 := post_bind.mp h1
  rw [List.append_nil]
  exact ⟨p.1, B1, d1, R1.base.bh, k, (okTo_of h1).mono fun z h2 v H' B' sH sB bh fz dv => h2 v H' B' (R1.after sH sB bh fz) (e1.trans sB) dv⟩
/-- behind a call that changed our slot's list -/
theorem Rep0.afterB {H' B' : Hp} {i : Nat} {a : Addr} {s s' : SV} {o' : HO} (R : Rep0 C σ H B S) (h : S[i]? = some (some s)) (m : s.mine = true) (m' : s'.mine = true) (hv : σ[i]? = some (some (.ref a))) (sH : ∀ b o, b ≠ a → H b = some o → H' b = some o) (sB : Same B B') (bh : Same B' H') (fz : Frz H B B')
    (hb : B' a = none) (hH : H' a = some o') (r : SR C H' B' (.ref a) s') : Rep0 C σ H' B' (S.set i (some s')) := by
  obtain ⟨a', o, e1, e2, e3⟩ := R.own_at h m
  rw [hv] at e1
  cases e1
  -- first the change at a alone, then the growth of the rest
  have hl : i < S.length := (List.getElem?_eq_some_iff.mp h).1
  have at_ : ∀ j u, (S.set i (some s'))[j]? = some (some u) → (j = i ∧ u = s') ∨ (j ≠ i ∧ S[j]? = some (some u)) := fun j u h => by
    by_cases e : j = i
    · subst e
      rw [List.getElem?_set_self hl] at h
      cases h
      exact .inl ⟨rfl, rfl⟩
    · rw [List.getElem?_set_ne (Ne.symm e)] at h
      exact .inr ⟨e, h⟩
  have old : ∀ (j : Nat) (u : SV), (S.set i (some s'))[j]? = some (some u) → u.mine = true → ∃ u' : SV, S[j]? = some (some u') ∧ u'.mine = true := fun j u h2 m2 => by
    rcases at_ j u h2 with ⟨x1, x2⟩ | ⟨x1, x2⟩
    · subst x1
      exact ⟨s, h, m⟩
    · exact ⟨u, x2, m2⟩
  refine ⟨⟨fun b u nb q => ?_, R.base.b0.trans sB, bh, fun b u q => ?_⟩, by simp [R.len], fun j u h2 => ?_, fun j k u w b h1 h2 m1 m2 q1 q2 => ?_, fun j u b h1 m e => ?_, fun j b h1 => ?_⟩
  · refine sH b u ?_ (R.base.keep b u nb q)
    rintro rfl
    rcases R.ownf i s b h m hv with z | z
    · rw [z] at q
      cases q
    · exact nb (List.mem_of_getElem? z)
  · rcases fz b u q with z | z
    · exact R.base.fr b u z
    · exact .inr (R.new z).1
  · rcases at_ j u h2 with ⟨x1, x2⟩ | ⟨x1, x2⟩
    · subst x1 x2
      exact ⟨_, hv, r⟩
    · obtain ⟨v, q1, q2⟩ := R.slot j u x2
      refine ⟨v, q1, SR.mono sB (fun mu b e ob h1 h2 => ⟨sH b ob ?_ h1, ?_⟩) q2⟩
      · rintro rfl
        exact x1 (R.dis j i u s b x2 h mu m (by rw [q1, e]) hv)
      · cases q : B' b with
        | none => rfl
        | some w =>
          rcases fz b w q with z | z
          · exact nomatch (h2.symm.trans z)
          · exact nomatch (h1.symm.trans z)
  · obtain ⟨u', z1, z2⟩ := old j u h1 m1
    obtain ⟨w', z3, z4⟩ := old k w h2 m2
    exact R.dis j k u' w' b z1 z3 z2 z4 q1 q2
  · obtain ⟨u', z1, z2⟩ := old j u h1 m
    exact R.ownf j u' b z1 z2 e
  · obtain ⟨q1, u, q2, q3⟩ := R.box j b h1
    refine ⟨q1, ?_⟩
    by_cases e : j = i
    · subst e
      exact ⟨s', List.getElem?_set_self hl, m'⟩
    · rw [List.getElem?_set_ne (Ne.symm e)]
      exact ⟨u, q2, q3⟩
theorem Rep.afterB {H' B' : Hp} {i : Nat} {a : Addr} {s s' : SV} {o' : HO} (R : Rep C σ H B S) (h : S[i]? = some (some s)) (m : s.mine = true) (m' : s'.mine = true) (hv : σ[i]? = some (some (.ref a))) (sH : ∀ b o, b ≠ a → H b = some o → H' b = some o) (sB : Same B B') (bh : Same B' H') (fz : Frz H B B')
    (hb : B' a = none) (hH : H' a = some o') (r : SR C H' B' (.ref a) s') : Rep C σ H' B' (S.set i (some s')) := by
  obtain ⟨F, R⟩ := R
  exact ⟨F, R.sd, R.rep.afterB h m m' hv sH sB bh fz hb hH (by cases s' <;> exact r), one_set R.one (SV.no m'), ob_set (R.obB sB) (SV.no m') fun _ _ => rfl⟩
/-- no object: no cells -/
theorem Rep0.up (R : Rep0 C σ H B S) (no : ∀ (i : Nat) s, S[i]? = some (some s) → s.isObj = false) : Rep C σ H B S :=
  ⟨fun _ => none, fun a o h => (by cases h), R, fun i j s u h1 h2 m1 m2 => (by rw [no i s h1] at m1; cases m1), fun i nm fs h => (by have := no i _ h; cases this)⟩
def vCallB (m : Nat) (den : List PyData → List PyData → R (PyData × List PyData)) (i : Nat) (fa : VA) : VE := fun S => (ownD S i).bind fun _ => (fa S).bind fun p => (ownD p.2 i).bind fun bs => R.when (p.1.length = m) (((den bs p.1).noErr).bind fun z => .ok (z.1, p.2.set i (some (.own z.2))))
theorem s_callB {m i : Nat} {den : List PyData → List PyData → R (PyData × List PyData)} {E : XK} {ta : TA} {fa : VA} (ha : SA C ta fa) : SE C (tCall (spB K m den) [] E (tCons (tVar i) ta)) (vCallB m den i fa) := by
  intro σ H B S Q R h
  obtain ⟨ds0, a0, vs0, q1, q2, q3, q4, h⟩ := own_of R (post_bind.mp h)
  refine ⟨_, q2, ?_⟩
  replace h := post_bind.mp h
  refine ha σ H B S _ R (h.mono fun p h1 vs H1 B1 R1 e1 d1 => ?_)
  obtain ⟨bs, a, ws, p1, p2, p3, p4, h1⟩ := own_of R1 (post_bind.mp h1)
  rw [q2] at p2
  cases p2
  obtain ⟨k, h1⟩ := post_when.mp h1
  replace h1 := post_bind.mp h1
  obtain ⟨_, _, w1, w2, w3⟩ := R1.own_at p1 rfl
  rw [q2] at w1
  cases w1
  rw [List.append_nil]
  exact ⟨_, vs, ws, bs, p.1, B1, rfl, p3, w3, p4, d1, R1.base.bh, k, (okTo_of h1).mono fun z h2 v H' B' ws' sH sB bh fz hb hH dw dv =>
    h2 v H' B' (R1.afterB p1 rfl rfl q2 sH sB bh fz hb hH ⟨_, ws', rfl, hH, hb, dw⟩) (e1.trans sB) dv⟩
def vCallD (m : Nat) (den : List (Key × PyData) → List PyData → R (PyData × List (Key × PyData))) (i : Nat) (fa : VA) : VE := fun S => (dicD S i).bind fun _ => (fa S).bind fun p => (dicD p.2 i).bind fun bs => R.when (p.1.length = m) (((den bs p.1).noErr).bind fun z => .ok (z.1, p.2.set i (some (.dic z.2))))
/-- the script -/
def vCallS (den : List Int → R PyData) (i : Nat) : VE := fun S => match S[i]? with
  | some (some (.scr ns)) => ((den ns).noErr).bind fun z => .ok (z, S)
  | _ => .bad
theorem s_callS {i : Nat} {den : List Int → R PyData} {E : XK} : SE C (tCall (spS K den) [] E (tCons (tVar i) tNil)) (vCallS den i) := by
  intro σ H B S Q R h
  unfold vCallS at h
  split at h
  · rename_i ns e
    obtain ⟨v, hv, a, rfl, sq⟩ := R.slot i _ e
    refine ⟨_, hv, ?_⟩
    replace h := post_bind.mp h
    exact ⟨a, ns, B, rfl, sq, R.base.bh, (okTo_of h).mono fun z h2 v H' B' sH sB bh fz dv => h2 v H' B' (R.after sH sB bh fz) sB dv⟩
  · exact h.elim
/-- for x in script -/
theorem walks_scr {a : Addr} {ns : List Int} (s : SqL K B a (ns.map V.int)) : Walks C B (Itl K a) (ns.map PyData.int) where
  go := fun i H hi e => by
    rw [List.length_map] at hi
    exact ⟨_, .int ns[i], sm_l e s, by rw [List.getElem?_map, List.getElem?_eq_getElem hi]; rfl⟩
  stop := fun H e => ⟨_, sm_l e s, by rw [List.length_map, List.length_map]; exact Nat.le_refl _⟩
  yld := fun i H H' x d hd y C σ B1 S R e => by
    obtain ⟨rfl, y⟩ := y
    have hx := y _ (sm_l (e.trans R.base.bh) s)
    rw [List.getElem?_map] at hx hd
    cases q : ns[i]? with
    | none => rw [q] at hd; cases hd
    | some z =>
      rw [q] at hx hd
      cases hx
      cases hd
      exact ⟨B1, R, Same.refl _, .int _, fun _ _ z => z⟩
def vScr (i : Nat) : VF := fun S => match S[i]? with
  | some (some (.scr ns)) => .ok (ns.map PyData.int, S)
  | _ => .bad
theorem i_scr {i : Nat} : SI C (iList K (tVar i)) (vScr i) := by
  intro σ H B S Rr R h
  unfold vScr at h
  split at h
  · rename_i ns e
    obtain ⟨v, hv, a, rfl, sq⟩ := R.slot i _ e
    exact ⟨_, hv, a, rfl, ⟨_, sm_l R.base.bh sq⟩, h _ H B R (Same.refl _) (walks_scr sq)⟩
  · exact h.elim
/-! ### a def by its body -/
def endP (x : R FL) : R PyData := x.bind fun fl => match fl with
  | .nx _ => .ok .none
  | .rt d _ => .ok d
  | _ => .bad
def startS (N : Nat) (ds : List PyData) : SS := ds.map (fun d => some (.dat d)) ++ List.replicate (N - ds.length) none
/-- what a def is worth: N names, its body -/
def denP (N : Nat) (f : VS) : List PyData → R PyData := fun ds => endP (f (startS N ds))
theorem startS_some {N : Nat} {ds : List PyData} {i : Nat} {s : SV} (h : (startS N ds)[i]? = some (some s)) : ∃ d, ds[i]? = some d ∧ s = .dat d := by
  unfold startS at h
  by_cases hi : i < ds.length
  · rw [List.getElem?_append_left (by rw [List.length_map]; exact hi), List.getElem?_map, List.getElem?_eq_getElem hi] at h
    cases h
    exact ⟨_, List.getElem?_eq_getElem hi, rfl⟩
  · rw [List.getElem?_append_right (by rw [List.length_map]; omega), List.getElem?_replicate] at h
    split at h <;> cases h
theorem start_get {N : List Str} {vs : List V} {i : Nat} {v : V} (h : vs[i]? = some v) : (L2.start N vs)[i]? = some (some v) := by
  have hi := (List.getElem?_eq_some_iff.mp h).1
  unfold L2.start
  rw [List.getElem?_append_left (by rw [List.length_map]; exact hi), List.getElem?_map, h]
  rfl
def ct0 (H B : Hp) (er : Exc → V → Hp → Prop) : Ct K 0 := ⟨H, B, [], rfl, er, none⟩
theorem rep_start {N : List Str} {vs : List V} {ds : List PyData} {er : Exc → V → Hp → Prop} (d : DaAll K B vs ds) (bh : Same B H) : Rep (ct0 (K := K) H B er) (L2.start N vs) H B (startS N.length ds) := by
  refine Rep0.up ?_ fun i s h => by obtain ⟨d, _, rfl⟩ := startS_some h; rfl
  have nomine : ∀ (i : Nat) s, (startS N.length ds)[i]? = some (some s) → s.mine = true → False := fun i s h m => by
    obtain ⟨d, _, rfl⟩ := startS_some h
    cases m
  refine ⟨⟨fun a o _ q => q, Same.refl _, bh, fun a o q => .inl q⟩, ?_, fun i s h => ?_, fun i j s u a h1 h2 m1 m2 e1 e2 => (nomine i s h1 m1).elim, fun i s a h m e => (nomine i s h m).elim, fun i a h => nomatch (show (none : Option (Option Addr)) = some (some a) from h)⟩
  · unfold startS L2.start
    rw [List.length_append, List.length_append, List.length_map, List.length_map, List.length_replicate, List.length_replicate, daa_len d]
  · obtain ⟨d', h1, rfl⟩ := startS_some h
    obtain ⟨v, h2, h3⟩ := daa_get d h1
    exact ⟨v, start_get h2, h3⟩
theorem len_P {m : Nat} {den : List PyData → R PyData} {vs : List V} {Q : VK} {E : XK} (h : spP K m den vs H Q E) : vs.length = m := by
  obtain ⟨ds, B, d, _, e, _⟩ := h
  rw [daa_len d, e]
theorem post_okTo {α : Type} {x : R α} {k : α → Prop} {n : Nat} {C : Ct K n} (h : x.okTo k) : Post C x k := by
  cases x with
  | ok a => exact h
  | err e => exact h.elim
  | bad => exact h.elim
theorem run_P {m : Nat} {N : List Str} {f : VS} {t : TS} {vs : List V} {Q : VK} {E : XK} (s : ∀ C : Ct K 0, SSt C t f) (h : spP K m (denP N.length f) vs H Q E) : t { nx := fun _ H' => Q .non H', rt := Q } (L2.start N vs) H := by
  obtain ⟨ds, B, d, bh, _, h⟩ := h
  have R := rep_start (N := N) (er := fun _ _ _ => True) d bh
  refine s _ _ H B _ _ R ?_
  unfold denP endP at h
  have h2 := post_okTo (C := ct0 (K := K) H B fun _ _ _ => True) h
  refine (post_bind.mp h2).mono fun fl q => ?_
  cases fl with
  | nx S => exact fun σ' H' B' R' e => q .non H' B' (fun a o z => R'.base.keep a o (by simp [ct0]) z) e R'.base.bh (fun a o z => R'.base.fr a o z) .non
  | rt d S => exact fun v σ' H' B' R' e dv => q v H' B' (fun a o z => R'.base.keep a o (by simp [ct0]) z) e R'.base.bh (fun a o z => R'.base.fr a o z) dv
  | bk S => exact q.elim
  | ct S => exact q.elim
/-- .. with a list that it may change -/
def endB (x : R FL) : R (PyData × List PyData) := x.bind fun fl => match fl with
  | .nx S => (ownD S 0).bind fun bs => .ok (.none, bs)
  | .rt d S => (ownD S 0).bind fun bs => .ok (d, bs)
  | _ => .bad
def denB (N : Nat) (f : VS) : List PyData → List PyData → R (PyData × List PyData) := fun bs ds => endB (f (some (.own bs) :: startS (N - 1) ds))
def ct1 (H B : Hp) (a : Addr) (er : Exc → V → Hp → Prop) : Ct K 1 := ⟨H, B, [some a], rfl, er, none⟩
theorem rep_startB {x : Str} {N : List Str} {a : Addr} {us : List V} {ds : List PyData} {s : SV} {er : Exc → V → Hp → Prop} (m : s.mine = true) (r : SR (ct1 (K := K) H B a er) H B (.ref a) s) (d : DaAll K B us ds) (bh : Same B H) :
    Rep (ct1 (K := K) H B a er) (L2.start (x :: N) (.ref a :: us)) H B (some s :: startS N.length ds) := by
  refine Rep0.up ?_ fun i u h => by
    cases i with
    | zero =>
      cases (Option.some.inj (Option.some.inj (show some (some s) = some (some u) from h)))
      exact SV.no m
    | succ i =>
      obtain ⟨d, _, rfl⟩ := startS_some (show (startS N.length ds)[i]? = some (some u) from h)
      rfl
  have e0 : L2.start (x :: N) (.ref a :: us) = some (.ref a) :: L2.start N us := by
    unfold L2.start
    rw [List.map_cons, List.length_cons, List.length_cons, Nat.add_sub_add_right]
    rfl
  rw [e0]
  have mine : ∀ (i : Nat) u, (some s :: startS N.length ds)[i]? = some (some u) → u.mine = true → i = 0 := fun i u h mu => by
    cases i with
    | zero => rfl
    | succ i =>
      obtain ⟨d, _, rfl⟩ := startS_some (show (startS N.length ds)[i]? = some (some u) from h)
      cases mu
  refine ⟨⟨fun a o _ q => q, Same.refl _, bh, fun a o q => .inl q⟩, ?_, fun i u h => ?_, fun i j s u a h1 h2 m1 m2 e1 e2 => by rw [mine i s h1 m1, mine j u h2 m2], fun i u b h mu e => ?_, fun i b h => ?_⟩
  · unfold startS L2.start
    rw [List.length_cons, List.length_cons, List.length_append, List.length_append, List.length_map, List.length_map, List.length_replicate, List.length_replicate, daa_len d]
  · cases i with
    | zero =>
      cases (Option.some.inj (Option.some.inj (show some (some s) = some (some u) from h)))
      exact ⟨_, rfl, r⟩
    | succ i =>
      obtain ⟨d', h1, rfl⟩ := startS_some (show (startS N.length ds)[i]? = some (some u) from h)
      obtain ⟨v, h2, h3⟩ := daa_get d h1
      exact ⟨v, start_get h2, h3⟩
  · have z := mine i u h mu
    subst z
    have e' : some (some (V.ref a)) = some (some (V.ref b)) := e
    cases e'
    exact .inr rfl
  · cases i with
    | zero =>
      have h' : some (some a) = some (some b) := h
      cases h'
      exact ⟨rfl, s, rfl, m⟩
    | succ i => exact nomatch (show (none : Option (Option Addr)) = some (some b) from h)
theorem len_B {m : Nat} {den : List PyData → List PyData → R (PyData × List PyData)} {vs : List V} {Q : VK} {E : XK} (h : spB K m den vs H Q E) : vs.length = m + 1 := by
  obtain ⟨a, us, ws, bs, ds, B, rfl, _, _, _, d, _, e, _⟩ := h
  rw [List.length_cons, daa_len d, e]
theorem run_B {m : Nat} {x : Str} {N : List Str} {f : VS} {t : TS} {vs : List V} {Q : VK} {E : XK} (s : ∀ C : Ct K 1, SSt C t f) (h : spB K m (denB (x :: N).length f) vs H Q E) : t { nx := fun _ H' => Q .non H', rt := Q } (L2.start (x :: N) vs) H := by
  obtain ⟨a, us, ws, bs, ds, B, rfl, hH, hB, dw, d, bh, _, h⟩ := h
  have R := rep_startB (x := x) (N := N) (er := fun _ _ _ => True) (s := .own bs) rfl ⟨a, ws, rfl, hH, hB, dw⟩ d bh
  refine s _ _ H B _ _ R ?_
  unfold denB endB at h
  have h2 := post_okTo (C := ct1 (K := K) H B a fun _ _ _ => True) h
  refine (post_bind.mp h2).mono fun fl q => ?_
  have fin : ∀ {S : SS} {z : PyData} {σ' : L2.St} {H' B' : Hp} {v : V}, Post (ct1 (K := K) H B a fun _ _ _ => True) (ownD S 0) (fun bs => ∀ v H' B' ws', (∀ b o, b ≠ a → H b = some o → H' b = some o) → Same B B' → Same B' H' → Frz H B B' → B' a = none → H' a = some (.lst ws') → DaAll K B' ws' bs → Da K B' v z → Q v H') →
      Rep (ct1 (K := K) H B a fun _ _ _ => True) σ' H' B' S → Same B B' → Da K B' v z → Q v H' := fun {S z σ' H' B' v} q R' e dv => by
    obtain ⟨bs', a', ws', q1, q2, q3, q4, q⟩ := own_of R' q
    obtain ⟨e0, _⟩ := R'.box 0 a rfl
    rw [q2] at e0
    cases e0
    obtain ⟨_, _, w1, w2, w3⟩ := R'.own_at q1 rfl
    rw [q2] at w1
    cases w1
    exact q v H' B' ws' (fun b o nb z => R'.base.keep b o (by simpa [ct1] using nb) z) e R'.base.bh (fun b o z => R'.base.fr b o z) w3 q3 q4 dv
  cases fl with
  | nx S => exact fun σ' H' B' R' e => fin (post_bind.mp q) R' e .non
  | rt d S => exact fun v σ' H' B' R' e dv => fin (post_bind.mp q) R' e dv
  | bk S => exact q.elim
  | ct S => exact q.elim
/-- .. of the script -/
def denS (N : Nat) (f : VS) : List Int → R PyData := fun ns => endP (f (some (.scr ns) :: List.replicate (N - 1) none))
theorem len_S {den : List Int → R PyData} {vs : List V} {Q : VK} {E : XK} (h : spS K den vs H Q E) : vs.length = 1 := by
  obtain ⟨a, ns, B, rfl, _⟩ := h
  rfl
theorem run_S {x : Str} {N : List Str} {f : VS} {t : TS} {vs : List V} {Q : VK} {E : XK} (s : ∀ C : Ct K 0, SSt C t f) (h : spS K (denS (x :: N).length f) vs H Q E) : t { nx := fun _ H' => Q .non H', rt := Q } (L2.start (x :: N) vs) H := by
  obtain ⟨a, ns, B, rfl, sq, bh, h⟩ := h
  have at_ : ∀ (i : Nat) u, (some (SV.scr ns) :: List.replicate ((x :: N).length - 1) none)[i]? = some (some u) → i = 0 ∧ u = .scr ns := fun i u q => by
    cases i with
    | zero => exact ⟨rfl, (Option.some.inj (Option.some.inj (show some (some (SV.scr ns)) = some (some u) from q))).symm⟩
    | succ i =>
      have q' : (List.replicate ((x :: N).length - 1) (none : Option SV))[i]? = some (some u) := q
      rw [List.getElem?_replicate] at q'
      split at q' <;> cases q'
  have R : Rep (ct0 (K := K) H B fun _ _ _ => True) (L2.start (x :: N) [V.ref a]) H B (some (.scr ns) :: List.replicate ((x :: N).length - 1) none) := by
    refine Rep0.up ?_ fun i s h => by obtain ⟨rfl, rfl⟩ := at_ i s h; rfl
    refine ⟨⟨fun a o _ q => q, Same.refl _, bh, fun a o q => .inl q⟩, ?_, fun i s h => ?_, fun i j s u a h1 h2 m1 m2 e1 e2 => ?_, fun i s a h m e => ?_, fun i a h => nomatch (show (none : Option (Option Addr)) = some (some a) from h)⟩
    · unfold L2.start
      simp
    · obtain ⟨rfl, rfl⟩ := at_ i s h
      exact ⟨_, start_get rfl, a, rfl, sq⟩
    · obtain ⟨rfl, rfl⟩ := at_ i s h1
      cases m1
    · obtain ⟨rfl, rfl⟩ := at_ i s h
      cases m
  refine s _ _ H B _ _ R ?_
  unfold denS endP at h
  have h2 := post_okTo (C := ct0 (K := K) H B fun _ _ _ => True) h
  refine (post_bind.mp h2).mono fun fl q => ?_
  cases fl with
  | nx S => exact fun σ' H' B' R' e => q .non H' B' (fun a o z => R'.base.keep a o (by simp [ct0]) z) e R'.base.bh (fun a o z => R'.base.fr a o z) .non
  | rt d S => exact fun v σ' H' B' R' e dv => q v H' B' (fun a o z => R'.base.keep a o (by simp [ct0]) z) e R'.base.bh (fun a o z => R'.base.fr a o z) dv
  | bk S => exact q.elim
  | ct S => exact q.elim
end
end Bo

namespace Bo
open PySem L2
section
variable {K : PySem.W.Frag} {n : Nat} {C : Ct K n} {σ : L2.St} {H B : Hp} {S : SS}
def cMulS (i j : Int) : Bool := decide ((-(2 ^ 64) < i ∧ i < 2 ^ 64) ∨ (-(2 ^ 64) < j ∧ j < 2 ^ 64))
theorem o_mulS : SR2 C (rI CMul fun i j => .int (i * j)) (gIC cMulS fun i j => i * j) := o_ic fun i j h => by
  unfold cMulS at h
  have h' := of_decide_eq_true h
  exact h'
def cPow (i j : Int) : Bool := decide (0 ≤ j ∧ j ≤ 1000000 ∧ i.natAbs < 2 ^ 64)
theorem o_pow : SR2 C (rI CPow fun i j => .int (i ^ j.toNat)) (gIC cPow fun i j => i ^ j.toNat) := o_ic fun i j h => by
  unfold cPow at h
  have h' := of_decide_eq_true h
  exact h'
/-! new lists by + and * -/
def vRepF (fa fb : VE) : VF := fun S => (fa S).bind fun p => (fb p.2).bind fun q => match p.1, q.1 with
  | .list ds, .int k => R.when (ds.length * k.toNat ≤ 100000 ∧ k ≤ 100000 ∧ -100000 ≤ k) (.ok ((List.replicate k.toNat ds).flatten, q.2))
  | _, _ => .bad
/-! texts -/
def gLenS : List PyData → R PyData
  | [.str x] => R.when (x.length ≤ 100000) (.ok (.int x.length))
  | _ => .bad
def gStrI : List PyData → R PyData
  | [.int i] => R.when (i.natAbs < 2 ^ 1900) (.ok (.str (toString i)))
  | _ => .bad
/-! equal data -/
open Classical in
noncomputable def denEq (m : Nat) : List PyData → R PyData
  | [a, b] => if a = b ∧ Dn m a then .ok (.bool true) else .bad
  | _ => .bad
theorem denEq_ok {m : Nat} {a b : PyData} (e : a = b) (h : Dn m a) : denEq m [a, b] = .ok (.bool true) := if_pos ⟨e, h⟩
end
end Bo

/-! ### enumerate and zip over lists and tuples in any mix: out of what next tells of any two sources -/
namespace Bo
open PySem L2
/-- a list, or a tuple -/
inductive Kd where
  | L | T
namespace Kd
def Sq (k : Kd) (K : PySem.W.Frag) (H : Hp) (a : Addr) (xs : List V) : Prop := match k with
  | .L => SqL K H a xs
  | .T => SqT K H a xs
def Is (k : Kd) (h : Heap) (a : Addr) (items : Array Value) : Prop := match k with
  | .L => h.IsList a items
  | .T => h.IsTuple a items
def At (k : Kd) (h : Heap) (it a : Addr) (i : Nat) : Prop := match k with
  | .L => h.IsListIter it a i
  | .T => h.IsTupleIter it a i
def ob (k : Kd) (a : Addr) : Obj := match k with
  | .L => { cls := .type "list_iterator", data := .fields #[.ref a, .int 0 0] }
  | .T => { cls := .type "tuple_iterator", data := .fields #[.ref a, .int 0 0] }
variable {k : Kd} {K : PySem.W.Frag} {a it : Addr} {h h' : Heap} {items : Array Value}
theorem begins : Begins (.ref a) (k.ob a) (fun h => k.Is h a items) := match k with
  | .L => begins_list a items
  | .T => begins_tuple a items
theorem start_ (e : h.get? it = some (k.ob a)) : k.At h it a 0 := match k with
  | .L => ⟨_, e, rfl, rfl⟩
  | .T => ⟨_, e, rfl, rfl⟩
theorem live {i : Nat} (st : k.At h it a i) : ∃ o, h.get? it = some o ∧ ∀ v, o.data ≠ .cell v := match k, st with
  | .L, ⟨o, e, _, d⟩ => ⟨o, e, fun v z => nomatch (d.symm.trans z)⟩
  | .T, ⟨o, e, _, d⟩ => ⟨o, e, fun v z => nomatch (d.symm.trans z)⟩
theorem stay {i : Nat} (st : k.At h it a i) (e : ∀ o, h.get? it = some o → h'.get? it = some o) : k.At h' it a i := match k, st with
  | .L, st => Heap.IsListIter.at st e
  | .T, st => Heap.IsTupleIter.at st e
theorem draws {P : Program} {w : World} {A : Around} (hh : A.handled = none) (ne : a ≠ it) : Draws P w A it [it, a] items.size (fun i v => items[i]? = some v) (fun i h => k.At h it a i ∧ k.Is h a items) := match k with
  | .L => Draws.list hh it a ne items
  | .T => Draws.tuple hh it a ne items
theorem told {X : Cx} {pins : List (Addr × Obj)} {σ : L2.St} {H : Hp} {s : Shared} {xs : List V} (I : Inv X pins σ H s) (q : k.Sq X.K H a xs) : ∃ its : List Value, Vals xs its ∧ k.Is s.heap a its.toArray := match k, q with
  | .L, q => let ⟨its, r, p, _⟩ := I.list q; ⟨its, r, p.isList⟩
  | .T, q => let ⟨its, r, p, _⟩ := I.tuple q; ⟨its, r, p⟩
theorem one {X : Cx} {pins : List (Addr × Obj)} {σ : L2.St} {H : Hp} {s : Shared} {xs ys : List V} (I : Inv X pins σ H s) (q : k.Sq X.K H a xs) (q2 : k.Sq X.K H a ys) : xs = ys := match k, q, q2 with
  | .L, q, q2 => I.list_inj q q2
  | .T, q, q2 => I.tuple_inj q q2
theorem below (p : k.Is h a items) : a < h.objs.size := match k, p with
  | .L, ⟨_, e, _⟩ => Heap.lt_size e
  | .T, ⟨_, e, _⟩ => Heap.lt_size e
end Kd
/-- a new pair at each turn: at turn i that of i and the i-th item of a, or of the i-th items of a and b -/
def ItP (go : Nat → Hp → Prop) (pr : Nat → Hp → V → V → Prop) (stop : Nat → Hp → Prop) : It :=
  ⟨go, fun i H v H' => ∃ q x y, v = .ref q ∧ H q = none ∧ H' = upd H q (.tup [x, y]) ∧ pr i H x y, stop⟩
/-- the step of such a walk, by what next tells -/
theorem pair_step {X : Cx} {pins : List (Addr × Obj)} {σ : L2.St} {H : Hp} {s : Shared} {wr : List Addr} {x y : V} {u v : Value} {q : Addr} {h' : Heap} {tk : Nat} (I : Inv X pins σ H s) (hw : ∀ b ∈ wr, FpOk X pins H b)
    (keep : ∀ b o, b ∉ wr → s.heap.get? b = some o → h'.get? b = some o) (hq : s.heap.objs.size ≤ q) (ht : h'.IsTuple q #[u, v]) (rx : RelV x u) (ry : RelV y v) : Inv X pins σ (upd H q (.tup [x, y])) { s with heap := h', toks := tk } :=
  I.turnedNew (ch := wr) keep hw hq ⟨(by show 2 ≤ sizeLine; decide), [u, v], .cons rx (.cons ry .nil), ht⟩
section
variable {P : Program} {w : World} {K : PySem.W.Frag} {elts : List Expr} {kk : Nat} {tpos : Pos}
structure ZFp (z p q i j a b : Addr) : Prop where
  s : ZipSep2 z p q i j [i, a] [j, b]
  na : a ≠ i
  nb : b ≠ j
def ItN (K : PySem.W.Frag) (k : Kd) (a : Addr) : It :=
  ItP (fun i H => ∃ xs x, k.Sq K H a xs ∧ xs[i]? = some x) (fun i H x y => x = .int (i : Nat) ∧ ∀ xs, k.Sq K H a xs → xs[i]? = some y) (fun i H => ∃ xs, k.Sq K H a xs ∧ i = xs.length)
theorem turn_enumK {k : Kd} {e it a : Addr} (ne : e ≠ it) (na : a ≠ it) (nea : a ≠ e) : Turn P w K (.Tuple elts kk tpos) (ItN K k a) [e, it] e (fun i h => (∃ old, IsEnum h e it (0 + (i : Int)) old) ∧ k.At h it a i) where
  mem := List.mem_cons_self
  obj := fun i h st c hc => by
    obtain ⟨⟨_, he⟩, h1⟩ := st
    simp only [List.mem_cons, List.not_mem_nil, or_false] at hc
    rcases hc with rfl | rfl
    · exact ⟨_, he, fun v z => nomatch z⟩
    · exact Kd.live h1
  keep := fun i h h' st k' => by
    obtain ⟨⟨old, he⟩, h1⟩ := st
    exact ⟨⟨old, k' e (by simp) _ he⟩, Kd.stay h1 fun o => k' it (by simp) o⟩
  item := by
    intro X hP hw hK hc i pins s σ H E I hf st hg
    subst hP hw hK
    obtain ⟨he, h1⟩ := st
    obtain ⟨xs, x, sx, ex⟩ := hg
    obtain ⟨us, ru, pu⟩ := Kd.told I sx
    have lu := ru.length
    have l1 := (List.getElem?_eq_some_iff.mp ex).1
    have W := GoesN.enumFrom (prog := X.prog) (w := X.w) (A := X.A) (elts := elts) (x1 := kk) (pos := tpos) 0 (k.draws (items := us.toArray) (show X.A.in1.handled = none from I.ok.hd hc) na) e ne (by simp [ne, Ne.symm nea]) (by simp)
    refine W.goes i s _ E (by rw [List.size_toArray]; omega) ⟨he, h1, pu⟩ fun v h' tk hY st' hk _ => ?_
    obtain ⟨t, tt, u1, rfl, ht, e1, hT⟩ := hY
    obtain ⟨u, hu, r1⟩ := ru.get ex
    have q1 : u1 = u := Option.some.inj (e1.symm.trans (by simpa using hu))
    subst q1
    have z0 : (0 : Int) + (i : Int) = (i : Nat) := Int.zero_add _
    rw [z0] at hT
    refine ⟨.ref t, _, pair_step I (wr := [e, it]) hf hk ht hT (x := .int (i : Nat)) ⟨tt, rfl⟩ r1, rfl, ⟨t, _, x, rfl, I.hok.fresh ht, rfl, rfl, fun xs' s' => by rw [Kd.one I s' sx]; exact ex⟩, ⟨st'.1, st'.2.1⟩, fun c hc' => ?_⟩
    have hlt : c < s.heap.objs.size := by
      obtain ⟨o, e⟩ : ∃ o, s.heap.get? c = some o := by
        simp only [List.mem_cons, List.not_mem_nil, or_false] at hc'
        obtain ⟨_, he'⟩ := he
        rcases hc' with rfl | rfl
        · exact ⟨_, he'⟩
        · exact ⟨_, (Kd.live h1).choose_spec.1⟩
      exact Heap.lt_size e
    rw [upd_ne (Nat.ne_of_lt (Nat.lt_of_lt_of_le hlt ht))]
    exact (hf c hc').1
  done := by
    intro X hP hw hK hc i pins s σ H E I hf st hg
    subst hP hw hK
    obtain ⟨he, h1⟩ := st
    obtain ⟨xs, sx, ei⟩ := hg
    obtain ⟨us, ru, pu⟩ := Kd.told I sx
    have W := GoesN.enumFrom (prog := X.prog) (w := X.w) (A := X.A) (elts := elts) (x1 := kk) (pos := tpos) 0 (k.draws (items := us.toArray) (show X.A.in1.handled = none from I.ok.hd hc) na) e ne (by simp [ne, Ne.symm nea]) (by simp)
    have ei' : us.toArray.size = i := by rw [List.size_toArray, ← ru.length, ei]
    exact W.stops s _ E (by rw [ei']; exact ⟨he, h1, pu⟩) fun h' tk hk _ => I.turnedL (t' := tk) (ch := [e, it]) hk hf
  self := fun A i s Q E st h => by
    obtain ⟨⟨_, he⟩, _⟩ := st
    exact wpAny_pyIter_enum he h
end
/-! the calls -/
section
variable {X : Cx} {e e2 : Expr} {ta : TA} {p pos tpos : Pos} {elts : List Expr} {kk : Nat}
open PySem.Spec PyProof.Rows in
/-- the enumeration is made -/
theorem enum_meets {v : Value} {o : Obj} {Z : Heap → Prop} (B : Begins v o Z) :
    Meets (Builtin.«enumerate.__new__» ⟨[.type "enumerate", v], []⟩) (fun _ R s => Z s.heap ∧ R (.ok (.ret (.ref (s.heap.push o).objs.size))) { s with heap := (s.heap.push o).push { cls := .type "enumerate", data := .fields #[.none, .bool false, .ref s.heap.objs.size, rawInt 0, .none, .none] } }) := by
  refine Meets.of_wp fun P w A R s hs => ?_
  obtain ⟨hz, hR⟩ := hs
  have known := sub_enumerate
  have first_ : ∀ {A' : Around} {E : Value → Shared → Prop} {Q : Value → Shared → Prop}, Q (.ref s.heap.objs.size) { s with heap := s.heap.push o } → wpAny (model P w) A' (pyIter v) Q E s := fun z => B.iter P w _ _ s _ hz z
  cases s with
  | mk hp g d tk os =>
    wp_walk using first_
    refine wpAny_stack_any fun st => wpAny_pure ?_
    split <;> first
      | (rename_i c _ _ _ _ _
         cases hc : (c == Value.type "enumerate") <;> (wp_walk using first_; exact ⟨_, rfl, hR⟩))
      | (wp_walk using first_; exact ⟨_, rfl, hR⟩)
def iEnumK (k : Kd) (K : PySem.W.Frag) (ta : TA) : TI := fun σ H R => ta σ H fun vs H1 => ∃ a xs, vs = [.ref a] ∧ k.Sq K H1 a xs ∧ R (ItN K k a) H1
open PySem.Spec PyProof.Rows in
theorem pi_enumK (k : Kd) (hg : Gl X "enumerate") (hm : X.mg "enumerate" = none) (ha : PA X [e] ta) (hs : starEach [e] X.env = [(false, eval e X.env)] := by rfl) : PI X (.Tuple elts kk tpos) (.Call (.Name "enumerate" p) [e] [] pos) (iEnumK k X.K ta) := by
  constructor
  intro pins s σ H R I h
  refine Call_ (ld_blt I hg hm boot_enumerate (callWith_type1 ?_ hs rfl))
  refine thn (ha.run pos pins s σ H _ I h) ?_
  rintro us s1 ⟨vs, H1, I1, rv, a, xs, rfl, qa, q⟩
  cases rv with
  | cons ra rest =>
    cases rest
    cases ra
    obtain ⟨ua, _, pa⟩ := Kd.told I1 qa
    have B := k.begins (a := a) (items := ua.toArray)
    have la := Kd.below pa
    refine callType_new F.called_enumerate (by decide) (F.typeCall_enumerate_1 _) (F.newCall_enumerate_1 _) (fun obj => F.args_object_init_2 obj _) F.entry_enumerate_new (enum_meets B) ⟨pa, ?_⟩
    have sz : (s1.heap.push (k.ob a)).objs.size = s1.heap.objs.size + 1 := Heap.size_push ..
    have e0 := Heap.get?_push_size (s1.heap.push (k.ob a)) (o := { cls := .type "enumerate", data := .fields #[.none, .bool false, .ref s1.heap.objs.size, rawInt 0, .none, .none] }) rfl
    rw [sz] at e0
    have old : ∀ c o, s1.heap.get? c = some o → ((s1.heap.push (k.ob a)).push { cls := .type "enumerate", data := .fields #[.none, .bool false, .ref s1.heap.objs.size, rawInt 0, .none, .none] }).get? c = some o := fun c o z => Heap.get?_push_of_some _ (Heap.get?_push_of_some _ z)
    have e1 := Heap.get?_push_of_some { cls := .type "enumerate", data := .fields #[.none, .bool false, .ref s1.heap.objs.size, rawInt 0, .none, .none] } (Heap.get?_push_size s1.heap (o := k.ob a) B.free)
    have en : IsEnum ((s1.heap.push (k.ob a)).push { cls := .type "enumerate", data := .fields #[.none, .bool false, .ref s1.heap.objs.size, rawInt 0, .none, .none] }) (s1.heap.objs.size + 1) s1.heap.objs.size (0 + ((0 : Nat) : Int)) .none := e0
    have ge : ∀ c ∈ [s1.heap.objs.size + 1, s1.heap.objs.size], s1.heap.objs.size ≤ c := fun c hc => by
      simp only [List.mem_cons, List.not_mem_nil, or_false] at hc
      omega
    rw [sz]
    exact ⟨⟨_, en, rfl⟩, wpAny_pyIter_enum en ⟨s1.heap.objs.size + 1, _, _, _, H1, rfl, I1.kept (t' := s1.toks) old, turn_enumK (Nat.succ_ne_self _) (Nat.ne_of_lt la) (Nat.ne_of_lt (Nat.lt_succ_of_lt la)), ⟨⟨_, en⟩, Kd.start_ e1⟩,
      fun c hc => I1.fpOk (ge c hc) (I1.hok.fresh (ge c hc)), q⟩⟩
end
end Bo

/-! ### sorted(d.items()): the pairs are made, then the list of them is sorted -/
namespace Bo
open PySem L2 L2.DX
section
variable {X : Cx}
end
section
variable {K : PySem.W.Frag} {n : Nat} {C : Ct K n} {σ : L2.St} {H B : Hp} {S : SS}
/-- all that is new but the list at l stays -/
theorem Rep.fresh {H' : Hp} {l : Addr} {zs : List V} (R : Rep C σ H B S) (sH : Same H H') (hl : H l = none) (hl' : H' l = some (.lst zs)) : ∃ B', Rep C σ H' B' S ∧ Same B B' ∧ Loose C σ S H' B' l ∧ ∀ a, H a = none → a ≠ l → B' a = H' a := by
  classical
  obtain ⟨F, RF⟩ := R
  have R : Rep C σ H B S := ⟨F, RF⟩
  obtain ⟨h0, hb, _⟩ := RF.rep.new hl
  let B' : Hp := fun a => if H a = none ∧ a ≠ l then H' a else B a
  have bB : ∀ a o, H a = some o → B' a = B a := fun a o z => if_neg fun q => by
    rw [q.1] at z
    cases z
  have bN : ∀ a, H a = none → a ≠ l → B' a = H' a := fun a z n => if_pos ⟨z, n⟩
  have bL : B' l = none := (if_neg fun q => q.2 rfl).trans hb
  have sB : Same B B' := fun a o z => (bB a o (R.base.bh a o z)).trans z
  have bh : Same B' H' := fun a o z => by
    cases q : H a with
    | some u =>
      rw [bB a u q] at z
      exact sH a o (R.base.bh a o z)
    | none =>
      by_cases e : a = l
      · subst e
        exact nomatch (z.symm.trans bL)
      · rw [← bN a q e]
        exact z
  have R' := RF.after sH sB bh (fun a o z => by
    cases q : H a with
    | some u =>
      rw [bB a u q] at z
      exact .inl z
    | none => exact .inr rfl)
  refine ⟨B', ⟨F, R'⟩, sB, ⟨F, R', bL, h0, fun j u q m e => ?_⟩, bN⟩
  · obtain ⟨a, o, e1, e2, _⟩ := R.own_at q m
    rw [e] at e1
    cases e1
    exact nomatch (e2.symm.trans hl)
abbrev prD (e : Int × Int) : PyData := .tuple [.int e.1, .int e.2]
/-! enumerate, zip -/
theorem Kd.up {k : Kd} {p : Addr} {xs : List V} (e : Same B H) (h : k.Sq K B p xs) : k.Sq K H p xs := match k, h with
  | .L, h => sm_l e h
  | .T, h => sm_t e h
def listD : PyData → Option (List PyData)
  | .list ds => some ds
  | _ => none
def tupleD : PyData → Option (List PyData)
  | .tuple ds => some ds
  | _ => none
def kdD (k : Kd) : PyData → Option (List PyData) := match k with
  | .L => listD
  | .T => tupleD
theorem kd_of {k : Kd} {y : V} {e : PyData} {ds : List PyData} (h : Da K B y e) (q : kdD k e = some ds) : ∃ (p : Addr) (xs : List V), y = .ref p ∧ k.Sq K B p xs ∧ DaAll K B xs ds := by
  cases k with
  | L =>
    cases h with
    | lst s a => cases (Option.some.inj q); exact ⟨_, _, rfl, SqL.of s, a⟩
    | _ => exact nomatch q
  | T =>
    cases h with
    | tup s a => cases (Option.some.inj q); exact ⟨_, _, rfl, s, a⟩
    | _ => exact nomatch q
theorem walks_enumK {k : Kd} {a : Addr} {xs : List V} {ds : List PyData} (s : k.Sq K B a xs) (h : DaAll K B xs ds) (uniq : ∀ (C : Ct K n) σ H1 B1 S, Rep C σ H1 B1 S → Same B B1 → ∀ v H' i y, (ItN K k a).yld i H1 v H' → (∀ zs, k.Sq K H1 a zs → zs[i]? = some y) → True := by intros; trivial) : Walks C B (ItN K k a) (enumD ds) where
  go := fun i H hi e => by
    rw [enumD_len, ← daa_len h] at hi
    exact ⟨xs, xs[i], Kd.up e s, List.getElem?_eq_getElem hi⟩
  stop := fun H e => ⟨xs, Kd.up e s, by rw [enumD_len, daa_len h]⟩
  yld := fun i H H' x d hd y C σ B1 S R e => by
    obtain ⟨T, x0, x1, rfl, hT, rfl, rfl, y1⟩ := y
    have hx := y1 xs (Kd.up (e.trans R.base.bh) s)
    obtain ⟨d1, q1, q2⟩ := daa_at h hx
    obtain ⟨B', R1, e1, da⟩ := R.tup (xs := [.int (i : Nat), x1]) (ds := [.int (i : Nat), d1]) hT (.cons (.int _) (.cons (da_mono e q2) .nil))
    rw [enumD_get q1] at hd
    cases hd
    exact ⟨B', R1, e1, da, fun D o z => by rw [upd_ne (ne_of_none z hT)]; exact z⟩
def vEnumK (k : Kd) (fa : VA) : VF := fun S => (fa S).bind fun p => match p.1 with
  | [d] => match kdD k d with
    | some ds => .ok (enumD ds, p.2)
    | none => .bad
  | _ => .bad
theorem i_enumK {k : Kd} {ta : TA} {fa : VA} (ha : SA C ta fa) : SI C (iEnumK k K ta) (vEnumK k fa) := by
  intro σ H B S Rr R h
  replace h := post_bind.mp h
  refine ha σ H B S _ R (h.mono fun p h1 v H1 B1 R1 e1 d1 => ?_)
  obtain ⟨d, S1⟩ := p
  dsimp only at d1 h1 R1
  split at h1
  · cases d1 with
    | cons q1 t =>
      cases t
      split at h1
      · rename_i ds q
        obtain ⟨p, xs, rfl, sq, da⟩ := kd_of q1 q
        exact ⟨p, xs, rfl, Kd.up R1.base.bh sq, h1 _ H1 B1 R1 e1 (walks_enumK sq da)⟩
      · exact h1.elim
  · exact h1.elim
def vZipK (k l : Kd) (fa : VA) : VF := fun S => (fa S).bind fun p => match p.1 with
  | [d, e] => match kdD k d, kdD l e with
    | some ds, some es => .ok (zipD ds es, p.2)
    | _, _ => .bad
  | _ => .bad
/-! list(range(n)), sorted(ints) -/
def vListRg (fa : VE) : VF := fun S => (fa S).bind fun p => (toI p.1).bind fun j => R.when (-1000000 ≤ j ∧ j ≤ 1000000) (.ok (rangeD 0 j.toNat, p.2))
def gSortI : List PyData → R PyData
  | [.list ds] => match intsD ds with
    | some ns => .ok (.list ((ns.mergeSort fun a b => decide (a ≤ b)).map PyData.int))
    | none => .bad
  | _ => .bad
end
end Bo

/-! ### the rules with K named, and some more statements -/
namespace Bo
open PySem L2
section
variable {X : Cx} (K : PySem.W.Frag) (h : X.K = K := by rfl)
include h
theorem k_len : CallR X (.builtin "len") (fun xs H Q => ∃ p ys, xs = [.ref p] ∧ (SqL K H p ys ∨ SqT K H p ys) ∧ Q (.int ys.length) H) := h ▸ call_len_seq
theorem k_tuple : CallR X (.type "tuple") (fun xs H Q => ∃ p ys, xs = [.ref p] ∧ ((SqL K H p ys ∧ ∀ l, H l = none → Q (.ref l) (upd H l (.tup ys))) ∨ (SqT K H p ys ∧ Q (.ref p) H))) := h ▸ call_tuple_of
theorem k_catA : OpR X (binaryOp .Add) (rCatA K) := h ▸ op_catA
theorem k_eqD (hu : X.A.units + 64 < cLine) : OpR X (compareOp .Eq) (rEqD K) := h ▸ op_eqD hu
theorem k_slT : SlR X (rSlA K) := h ▸ sl_tupA
theorem k_iList {tg l : Expr} {tl : TE} (hl : PE X l tl) : PI X tg l (iList K tl) := h ▸ pi_list hl
theorem k_iTup {tg l : Expr} {tl : TE} (hl : PE X l tl) : PI X tg l (iTup K tl) := h ▸ pi_tup hl
theorem k_gTup {es : List Expr} {k : Nat} {t : TGs} {n : Nat} {pos : Pos} (hc : X.calm = true) (hh : PGs X es t) (hn : (assignEach es X.env).length = n := by rfl) (hst : (assignEach es X.env).findIdx? (·.1) = none := by rfl) : PG X (.Tuple es k pos) (gTup K n t) := h ▸ pg_tup hc hh hn hst
theorem k_truth {a : Expr} {ta : TE} (ha : PE X a ta) (he : ∀ whole, isTrue a X.env whole = (do let v ← whole; standAt a.pos; holding [v] (truthy v))) : PT X a (fun σ H Q => ta σ H fun x H' => ∃ k, TruV K x H' k ∧ Q k H') := h ▸ pt_truth ha he
end
section
variable {K : PySem.W.Frag} {n : Nat} {C : Ct K n} {σ : L2.St} {H B : Hp} {S : SS}
/-- x += e, ints -/
def vAug (i : Nat) (f : Int → Int → Int) (fe : VE) : VS := fun S => match S[i]? with
  | some (some (.dat (.int a))) => (fe S).bind fun p => (toI p.1).bind fun b => .ok (.nx (p.2.set i (some (.dat (.int (f a b))))))
  | _ => .bad
end
end Bo

/-! ### lists of a slot, lent to a call that tells a plain value, and walked -/
namespace Bo
open PySem L2
section
variable {K : PySem.W.Frag} {n : Nat} {C : Ct K n} {σ : L2.St} {H B : Hp} {S : SS}
def vConsO (i : Nat) (fr : VA) : VA := fun S => (ownD S i).bind fun _ => (fr S).bind fun q => (ownD q.2 i).bind fun ds => .ok (.list ds :: q.1, q.2)
def vCallL (m : Nat) (den : List PyData → R PyData) (fa : VA) : VE := fun S => (fa S).bind fun p => R.when (p.1.length = m) (((den p.1).noErr).bind fun z => R.when (flatD z = true) (.ok (z, p.2)))
/-! walks over a slot's list, as it stands at each turn -/
/-- a turn's item, by place -/
def itO (pair : Bool) (k : Nat) (d : PyData) : PyData := if pair = true then .tuple [.int (k : Nat), d] else d
/-- the walk J over the list of slot i, told by Rep -/
structure WalkO (C : Ct K n) (σ : L2.St) (i : Nat) (J : It) (pair : Bool) : Prop where
  go : ∀ (k : Nat) H B S ds, Rep C σ H B S → S[i]? = some (some (.own ds)) → k < ds.length → J.go k H
  stop : ∀ (k : Nat) H B S ds, Rep C σ H B S → S[i]? = some (some (.own ds)) → k = ds.length → J.stop k H
  yld : ∀ (k : Nat) H H' B S ds d x, Rep C σ H B S → S[i]? = some (some (.own ds)) → ds[k]? = some d → J.yld k H x H' → ∃ B', Rep C σ H' B' S ∧ Same B B' ∧ Da K B' x (itO pair k d) ∧ ∀ D o, H D = some o → H' D = some o
/-- turns from place k on -/
def lcO (pair : Bool) (i : Nat) (fg : PyData → SS → R SS) (ft : VT) (fe : VE) (vs : List Nat) : Nat → Nat → SS → R (List PyData × SS)
  | 0, _, _ => .bad
  | m + 1, k, S => (ownD S i).bind fun ds => match ds[k]? with
    | none => R.when (k = ds.length) (.ok ([], S))
    | some d => (fg (itO pair k d) S).bind fun S1 => (ft S1).bind fun p => if p.1 = true then (fe p.2).bind fun q => (lcO pair i fg ft fe vs m (k + 1) (wipeS q.2 vs)).bind fun r => .ok (q.1 :: r.1, r.2) else lcO pair i fg ft fe vs m (k + 1) (wipeS p.2 vs)
def vLcO (pair : Bool) (i : Nat) (vs : List Nat) (fg : PyData → SS → R SS) (ft : VT) (fe : VE) : VF := fun S => (ownD S i).bind fun _ => R.when (okS vs S = true) ((lcO pair i fg ft fe vs 100000 0 (wipeS S vs)).bind fun r => .ok (r.1, backS S r.2 vs))
end
end Bo

/-! ### the laws' own draws: what their defs are worth -/
namespace Bo
open PySem L2
def body_l_tape : VS :=
    (vSeq (vOwn 1 (vLstF vNil))
    (vSeq (vFor (vScr 0) (aName 2) (vSeq (vAsg (vOp (gIC cMulS fun i j => i * j) (vC (.int 2)) (vCall gInt (vCons (vVar 2) vNil))) (aName 3))
    (vSeq (vIfS (vTst (vOp (gIB fun i j => decide (i < j)) (vVar 3) (vC (.int 0)))) (vAsg (vOp (gI fun i j => i - j) (vUn gNeg (vC (.int 1))) (vVar 3)) (aName 3)) vNext)
    (vIfS (vTst (vOp (gIB fun i j => decide (j ≤ i)) (vVar 3) (vOp (gIC cPow fun i j => i ^ j.toNat) (vC (.int 10)) (vC (.int 18))))) (vFor (vRange1 (vCons (vC (.int 40)) vNil)) (aName 4) (vIfS (vTst (vOp (gIB fun i j => decide (j < i)) (vVar 3) (vC (.int 0)))) (vSeq (vDrop (vApp 1 (vOp (gIC cMod Int.fmod) (vCall gInt (vCons (vVar 3) vNil)) (vC (.int 1000)))))
    (vAsg (vOp (gIC cFdiv Int.fdiv) (vVar 3) (vC (.int 1000))) (aName 3))) vNext)) (vFor (vRange1 (vCons (vC (.int 3)) vNil)) (aName 4) (vSeq (vAsg (vOp (gIC cMod Int.fmod) (vCall gInt (vCons (vOp (gI fun i j => i + j) (vOp (gI fun i j => i + j) (vOp (gIC cMulS fun i j => i * j) (vVar 3) (vC (.int 48271))) (vOp (gIC cMulS fun i j => i * j) (vVar 4) (vC (.int 40503)))) (vC (.int 11))) vNil)) (vC (.int 2147483629))) (aName 5))
    (vDrop (vApp 1 (vOp (gIC cMod Int.fmod) (vCall gInt (vCons (vOp (gI fun i j => i + j) (vOp (gIC cMulS fun i j => i * j) (vVar 5) (vC (.int 69621))) (vOp (gIC cFdiv Int.fdiv) (vVar 5) (vC (.int 65536)))) vNil)) (vC (.int 2147483629)))))))))))
    (vFrz 1 (vRet (vVar 1)))))
def den_l_tape := denS 6 body_l_tape
def body_l_draw : VS :=
    (vSeq (vIfS (vTst (vOp (gIB fun i j => decide (i < j)) (vVar 1) (vCall gLen (vCons (vVar 0) vNil)))) (vRet (vOp (gIC cMod Int.fmod) (vCall gInt (vCons (vOp gIxL (vVar 0) (vVar 1)) vNil)) (vVar 2))) vNext)
    (vSeq (vAsg (vC (.int 1)) (aName 3))
    (vSeq (vIfS (vTst (vOp (gIB fun i j => decide (j < i)) (vCall gLen (vCons (vVar 0) vNil)) (vC (.int 0)))) (vAsg (vOp gIxL (vVar 0) (vOp (gIC cMod Int.fmod) (vCall gInt (vCons (vVar 1) vNil)) (vCall gLen (vCons (vVar 0) vNil)))) (aName 3)) vNext)
    (vRet (vOp (gIC cMod Int.fmod) (vOp (gIC cMod Int.fmod) (vCall gInt (vCons (vOp (gI fun i j => i + j) (vOp (gIC cMulS fun i j => i * j) (vOp (gIC cMul fun i j => i * j) (vOp (gI fun i j => i + j) (vVar 3) (vVar 1)) (vOp (gI fun i j => i + j) (vVar 1) (vC (.int 3)))) (vC (.int 7919))) (vOp (gIC cMulS fun i j => i * j) (vVar 1) (vC (.int 104729)))) vNil)) (vC (.int 65521))) (vVar 2))))))
def den_l_draw := denP 4 body_l_draw
def body_l_take : VS :=
    (vSeq (vSetI 0 (vC (.int 1)) (vOp (gI fun i j => i + j) (vIxO 0 (vC (.int 1))) (vC (.int 1))))
    (vRet (vCallP 3 den_l_draw (vCons (vIxO 0 (vC (.int 0))) (vCons (vIxO 0 (vC (.int 1))) (vCons (vVar 1) vNil))))))
def den_l_take := denB 2 body_l_take
def body_l_ends : VS :=
    (vSeq (vOwn 2 (vLstF vNil))
    (vSeq (vAsg (vCallB 1 den_l_take 0 (vCons (vVar 1) vNil)) (aName 3))
    (vSeq (vFor (vRange1 (vCons (vVar 1) vNil)) (aName 4) (vIfS (tOrF (vTst (vOp gEq (vVar 4) (vVar 3))) (vTst (vOp gEq (vCallB 1 den_l_take 0 (vCons (vC (.int 3)) vNil)) (vC (.int 0))))) (vDrop (vApp 2 (vTup (vCons (vVar 4) (vCons (vOp gIxL (vLst (vCons (vC (.int 1)) (vCons (vC (.int 1)) (vCons (vC (.int 2)) (vCons (vC (.int 3)) (vCons (vC (.int 10)) (vCons (vC (.int 1000)) vNil))))))) (vCallB 1 den_l_take 0 (vCons (vC (.int 6)) vNil))) vNil))))) vNext))
    (vRet (vTupleO 2)))))
def den_l_ends := denB 5 body_l_ends
def body_l_choices : VS :=
    (vSeq (vOwn 3 (vLstF vNil))
    (vSeq (vFor (vRange1 (vCons (vOp (gI fun i j => i + j) (vC (.int 1)) (vCallB 1 den_l_take 0 (vCons (vVar 2) vNil))) vNil)) (aName 4) (vDrop (vApp 3 (vTup (vCons (vOp gIxL (vLst (vCons (vC (.int 0)) (vCons (vC (.int 1)) (vCons (vC (.int 2)) (vCons (vC (.int 5)) (vCons (vC (.int 1000)) vNil)))))) (vCallB 1 den_l_take 0 (vCons (vC (.int 5)) vNil))) (vCons (vCallB 1 den_l_ends 0 (vCons (vVar 1) vNil)) vNil))))))
    (vRet (vTupleO 3))))
def den_l_choices := denB 5 body_l_choices
def body_l_system : VS :=
    (vSeq (vAsg (vOp (gI fun i j => i + j) (vC (.int 1)) (vCallB 1 den_l_take 0 (vCons (vVar 1) vNil))) (aName 2))
    (vRet (vCall gTuple (vCons (vFr (vLc [3] (vRange1 (vCons (vVar 2) vNil)) (aName 3) vYes (vCallB 2 den_l_choices 0 (vCons (vVar 2) (vCons (vC (.int 3)) vNil))))) vNil))))
def den_l_system := denB 4 body_l_system
end Bo

/-! ### reasoning about what code is worth -/
namespace Bo
open PySem L2
section
variable {α β : Type} {x : R α} {f : α → R β} {k : β → Prop}
theorem okTo_bind : (x.bind f).okTo k ↔ x.okTo fun a => (f a).okTo k := by cases x <;> exact Iff.rfl
theorem okTo_ok {a : β} : (R.ok a).okTo k ↔ k a := Iff.rfl
theorem okTo_noErr {x : R β} : x.noErr.okTo k ↔ x.okTo k := by cases x <;> exact Iff.rfl
theorem okTo_when {c : Prop} [Decidable c] {x : R β} : (R.when c x).okTo k ↔ c ∧ x.okTo k := by
  by_cases h : c
  · rw [R.when_pos h]
    exact ⟨fun q => ⟨h, q⟩, fun q => q.2⟩
  · rw [R.when_neg h]
    exact ⟨fun q => q.elim, fun q => (h q.1).elim⟩
theorem okTo_eq {x : R α} {a : α} {k : α → Prop} (e : x = .ok a) (h : k a) : x.okTo k := by rw [e]; exact h
end
/-- a loop by what holds between its turns -/
theorem loop_ok {fg : PyData → SS → R SS} {fb : VS} {ds : List PyData} {k : FL → Prop} (I : Nat → SS → Prop)
    (step : ∀ i d S, ds[i]? = some d → I i S → (fg d S).okTo fun S1 => (fb S1).okTo fun fl => match fl with
      | .nx S2 => I (i + 1) S2
      | .ct S2 => I (i + 1) S2
      | .bk S2 => k (.nx S2)
      | .rt d S2 => k (.rt d S2)) (done : ∀ S, I ds.length S → k (.nx S)) {S : SS} (h0 : I 0 S) : (loopF fg fb ds S).okTo k := by
  have go : ∀ (es : List PyData) (i : Nat) (S : SS), ds.drop i = es → i + es.length = ds.length → I i S → (loopF fg fb es S).okTo k := by
    intro es
    induction es with
    | nil =>
      intro i S _ hl h
      have e : i = ds.length := by simpa using hl
      rw [e] at h
      exact done S h
    | cons d es ih =>
      intro i S hd hl h
      have hi : ds[i]? = some d := by
        have := congrArg (fun l => l[0]?) hd
        simpa using this
      have hd2 : ds.drop (i + 1) = es := by
        have := congrArg List.tail hd
        simpa using this
      have hl2 : i + 1 + es.length = ds.length := by
        rw [List.length_cons] at hl
        omega
      unfold loopF
      rw [okTo_bind]
      refine (step i d S hi h).mono fun S1 h1 => ?_
      rw [okTo_bind]
      refine h1.mono fun fl h2 => ?_
      cases fl with
      | nx S2 => exact ih (i + 1) S2 hd2 hl2 h2
      | ct S2 => exact ih (i + 1) S2 hd2 hl2 h2
      | bk S2 => exact h2
      | rt d S2 => exact h2
  exact go ds 0 S rfl (by omega) h0
/-- a comprehension by what holds between its turns -/
theorem lc_ok {fg : PyData → SS → R SS} {ft : VT} {fe : VE} {vs : List Nat} {ds : List PyData} {k : List PyData × SS → Prop} (I : Nat → List PyData → SS → Prop)
    (step : ∀ i d acc S, ds[i]? = some d → I i acc S → (fg d S).okTo fun S1 => (ft S1).okTo fun p => if p.1 = true then (fe p.2).okTo fun q => I (i + 1) (acc ++ [q.1]) (wipeS q.2 vs) else I (i + 1) acc (wipeS p.2 vs))
    (done : ∀ acc S, I ds.length acc S → k (acc, S)) {S : SS} (h0 : I 0 [] S) : (lcF fg ft fe vs ds S).okTo k := by
  have go : ∀ (es : List PyData) (i : Nat) (acc : List PyData) (S : SS), ds.drop i = es → i + es.length = ds.length → I i acc S → (lcF fg ft fe vs es S).okTo fun r => k (acc ++ r.1, r.2) := by
    intro es
    induction es with
    | nil =>
      intro i acc S _ hl h
      have e : i = ds.length := by simpa using hl
      rw [e] at h
      show k (acc ++ [], S)
      rw [List.append_nil]
      exact done acc S h
    | cons d es ih =>
      intro i acc S hd hl h
      have hi : ds[i]? = some d := by
        have := congrArg (fun l => l[0]?) hd
        simpa using this
      have hd2 : ds.drop (i + 1) = es := by
        have := congrArg List.tail hd
        simpa using this
      have hl2 : i + 1 + es.length = ds.length := by
        rw [List.length_cons] at hl
        omega
      unfold lcF
      rw [okTo_bind]
      refine (step i d acc S hi h).mono fun S1 h1 => ?_
      rw [okTo_bind]
      refine h1.mono fun p h2 => ?_
      by_cases c : p.1 = true
      · rw [if_pos c] at h2 ⊢
        rw [okTo_bind]
        refine h2.mono fun q h3 => ?_
        rw [okTo_bind]
        refine (ih (i + 1) (acc ++ [q.1]) _ hd2 hl2 h3).mono fun r h4 => ?_
        rw [List.append_assoc] at h4
        exact h4
      · rw [if_neg c] at h2 ⊢
        exact ih (i + 1) acc _ hd2 hl2 h2
  exact (go ds 0 [] S rfl (by omega) h0).mono fun r h => h
/-! ### the draws -/
def dL (ns : List Int) : PyData := .list (ns.map PyData.int)
def TapeOk (ts : List Int) : Prop := (∀ x ∈ ts, 0 ≤ x ∧ x < 2147483629) ∧ ts.length ≤ 3000
theorem tape_app {ts : List Int} {z : Int} (h : ∀ x ∈ ts, 0 ≤ x ∧ x < 2147483629) (h0 : 0 ≤ z) (h1 : z < 2147483629) : ∀ x ∈ ts ++ [z], 0 ≤ x ∧ x < 2147483629 := by
  intro x hx
  rcases List.mem_append.mp hx with q | q
  · exact h x q
  · rw [List.mem_singleton.mp q]
    exact ⟨h0, h1⟩
theorem rangeD_get {lo : Int} {m i : Nat} {d : PyData} (h : (rangeD lo m)[i]? = some d) : i < m ∧ d = .int (lo + (i : Nat)) := by
  unfold rangeD at h
  rw [List.getElem?_map] at h
  obtain ⟨j, h1, rfl⟩ := Option.map_eq_some_iff.mp h
  obtain ⟨h2, h3⟩ := List.getElem?_eq_some_iff.mp h1
  rw [List.length_range] at h2
  rw [List.getElem_range] at h3
  exact ⟨h2, by rw [← h3]⟩
theorem rangeD_len {lo : Int} {m : Nat} : (rangeD lo m).length = m := by simp [rangeD]
local macro_rules | `(tactic| walk_at "ev") => `(tactic| simp only [okTo_bind, okTo_ok, okTo_noErr, okTo_when, R.bind_ok, vSeq, seqF, vAsg, vVar, vC, vOp, vUn, vCall, vCons, vNil, vTup, vLst, vFr, vLstF, vTst, toB, toI, gI, gIC, gIB, gNeg, gInt, gLen, gEq, gNe, eqF, vAnd, vOr, vNot, tNotF, tAndF, tOrF, vIfS, vIf, vNext, vRet, vRetN, vDrop, vOwn, vFrz, frzS, aName, vFor, vScr, vRange1, vApp, ownD, vIxO, vSetI, gIxL, gIxT, vInO, vCallP, vCallB, vTupleO, vListO, vLenO, List.getElem?_cons_zero, List.getElem?_cons_succ, List.set_cons_zero, List.set_cons_succ, List.length_cons, List.length_nil, startS, List.map_cons, List.map_nil, List.replicate_succ, List.replicate_zero, List.cons_append, List.nil_append, denP, denB, denS, endP, endB, Nat.sub_self, Nat.reduceSub])
local macro_rules | `(tactic| walk_at "ev0") => `(tactic| simp only [okTo_bind, okTo_ok, okTo_noErr, okTo_when, R.bind_ok, seqF, vAsg, vVar, vC, vOp, vUn, vCall, vCons, vNil, vTup, vLst, vFr, vLstF, vTst, toB, toI, gI, gIC, gIB, gNeg, gInt, gLen, gEq, gNe, eqF, vAnd, vOr, vNot, tNotF, tAndF, tOrF, vIfS, vIf, vNext, vRet, vRetN, vDrop, vOwn, vFrz, frzS, aName, vFor, vScr, vRange1, vApp, ownD, vIxO, vSetI, gIxL, gIxT, vInO, vCallP, vCallB, vTupleO, vListO, vLenO, List.getElem?_cons_zero, List.getElem?_cons_succ, List.set_cons_zero, List.set_cons_succ, List.length_cons, List.length_nil, startS, List.map_cons, List.map_nil, List.replicate_succ, List.replicate_zero, List.cons_append, List.nil_append, denP, denB, denS, endP, endB, Nat.sub_self, Nat.reduceSub])
theorem cMulS_l {i j : Int} (h : -(2 ^ 64) < i ∧ i < 2 ^ 64) : cMulS i j = true := decide_eq_true (.inl h)
theorem cMulS_r {i j : Int} (h : -(2 ^ 64) < j ∧ j < 2 ^ 64) : cMulS i j = true := decide_eq_true (.inr h)
theorem cMod_ok {i j : Int} (h : j ≠ 0) : cMod i j = true := decide_eq_true h
theorem pow_small {n k : Nat} (h : n < 2 ^ 64) (hk : 64 ≤ k) : n < 2 ^ k := Nat.lt_of_lt_of_le h (Nat.pow_le_pow_right (by decide) hk)
theorem cFdiv_ok {i j : Int} (h : j ≠ 0) (h2 : j.natAbs < 2 ^ 64) : cFdiv i j = true := decide_eq_true ⟨h, pow_small h2 (by decide)⟩
theorem cMul_ok {i j : Int} (h : i.natAbs < 2 ^ 64) (h2 : j.natAbs < 2 ^ 64) : cMul i j = true := decide_eq_true ⟨pow_small h (by decide), pow_small h2 (by decide)⟩
theorem modN {i m : Int} (h : 0 < m) : 0 ≤ i.fmod m ∧ i.fmod m < m := ⟨Int.fmod_nonneg_of_pos i h, Int.fmod_lt_of_pos i h⟩
/-- one statement, then the rest -/
theorem seq_ok {fa fb : VS} {S : SS} {k : FL → Prop} (h : (fa S).okTo fun fl => match fl with
    | .nx S1 => (fb S1).okTo k
    | f => k f) : (vSeq fa fb S).okTo k := by
  unfold vSeq
  rw [okTo_bind]
  refine h.mono fun fl q => ?_
  cases fl <;> exact q
theorem ite_ok {c : Prop} [Decidable c] {α : Type} {x y : R α} {k : α → Prop} (h1 : c → x.okTo k) (h2 : ¬ c → y.okTo k) : (if c then x else y).okTo k := by
  by_cases h : c
  · rw [if_pos h]
    exact h1 h
  · rw [if_neg h]
    exact h2 h
theorem tape_ok {ns : List Int} {k : PyData → Prop} (hn : ns.length ≤ 63) (h : ∀ ts, TapeOk ts → k (dL ts)) : (den_l_tape ns).okTo k := by
  unfold den_l_tape body_l_tape
  walk_at "ev"
  refine ⟨by decide, loop_ok (fun i S => ∃ (ts : List Int) (a b c d : Option SV), S = [some (.scr ns), some (.own (ts.map PyData.int)), a, b, c, d] ∧ (∀ x ∈ ts, 0 ≤ x ∧ x < 2147483629) ∧ ts.length ≤ 40 * i) ?_ ?_ ⟨[], _, _, _, _, rfl, by simp, by simp⟩⟩
  · rintro i d S hi ⟨ts, a, b, c, e, rfl, hb, hl⟩
    rw [List.getElem?_map] at hi
    obtain ⟨z, hz, rfl⟩ := Option.map_eq_some_iff.mp hi
    have hi63 := (List.getElem?_eq_some_iff.mp hz).1
    walk_at "ev0"
    refine seq_ok ?_
    walk_at "ev0"
    refine ⟨cMulS_l (by decide), seq_ok ?_⟩
    refine R.okTo.mono (k := fun fl => ∃ m : Int, 0 ≤ m ∧ fl = .nx [some (.scr ns), some (.own (ts.map PyData.int)), some (.dat (.int z)), some (.dat (.int m)), c, e]) ?_ ?_
    · walk_at "ev0"
      refine ite_ok (fun q => ?_) (fun q => ?_)
      · have := of_decide_eq_true q
        exact ⟨_, by omega, rfl⟩
      · have : ¬ (2 * z < 0) := fun w => q (decide_eq_true w)
        exact ⟨_, by omega, rfl⟩
    · rintro fl ⟨m, hm, rfl⟩
      walk_at "ev"
      refine ⟨by decide, ite_ok (fun _ => ?_) (fun _ => ?_)⟩
      · walk_at "ev0"
        refine ⟨by decide, ?_⟩
        refine loop_ok (fun j S => ∃ (us : List Int) (m : Int) (c : Option SV), S = [some (.scr ns), some (.own (us.map PyData.int)), some (.dat (.int z)), some (.dat (.int m)), c, e] ∧ 0 ≤ m ∧ (∀ x ∈ us, 0 ≤ x ∧ x < 2147483629) ∧ us.length ≤ 40 * i + j) ?_ ?_ ⟨ts, m, _, rfl, hm, hb, hl⟩
        · rintro j d S hj ⟨us, m, c, rfl, hm, hu, hul⟩
          obtain ⟨hj1, rfl⟩ := rangeD_get hj
          have hj2 : j < 40 := hj1
          walk_at "ev"
          refine ite_ok (fun _ => ?_) (fun _ => ?_)
          · walk_at "ev"
            refine ⟨cMod_ok (by decide), by rw [List.length_map]; omega, cFdiv_ok (by decide) (by decide), us ++ [m.fmod 1000], m.fdiv 1000, _, by rw [List.map_append]; rfl, Int.fdiv_nonneg hm (by decide), tape_app hu (modN (by decide)).1 (by have := (modN (i := m) (m := 1000) (by decide)).2; omega), ?_⟩
            rw [List.length_append, List.length_singleton]
            omega
          · exact ⟨us, m, _, rfl, hm, hu, by omega⟩
        · rintro S ⟨us, m, c, rfl, hm, hu, hul⟩
          have : (rangeD 0 (Int.toNat 40)).length = 40 := rangeD_len
          rw [this] at hul
          exact ⟨us, _, _, _, _, rfl, hu, by omega⟩
      · walk_at "ev0"
        refine ⟨by decide, ?_⟩
        refine loop_ok (fun j S => ∃ (us : List Int) (c e : Option SV), S = [some (.scr ns), some (.own (us.map PyData.int)), some (.dat (.int z)), some (.dat (.int m)), c, e] ∧ (∀ x ∈ us, 0 ≤ x ∧ x < 2147483629) ∧ us.length ≤ 40 * i + j) ?_ ?_ ⟨ts, _, _, rfl, hb, hl⟩
        · rintro j d S hj ⟨us, c, e, rfl, hu, hul⟩
          obtain ⟨hj1, rfl⟩ := rangeD_get hj
          have hj2 : j < 3 := hj1
          walk_at "ev"
          refine ⟨cMulS_r (by decide), cMulS_r (by decide), cMod_ok (by decide), cMulS_r (by decide), cFdiv_ok (by decide) (by decide), cMod_ok (by decide), by rw [List.length_map]; omega, us ++ [_], _, _, by rw [List.map_append]; rfl, tape_app hu (modN (by decide)).1 (modN (by decide)).2, ?_⟩
          rw [List.length_append, List.length_singleton]
          omega
        · rintro S ⟨us, c, e, rfl, hu, hul⟩
          have : (rangeD 0 (Int.toNat 3)).length = 3 := rangeD_len
          rw [this] at hul
          exact ⟨us, _, _, _, _, rfl, hu, by omega⟩
  · rintro S ⟨ts, a, b, c, d, rfl, hb, hl⟩
    walk_at "ev"
    rw [List.length_map] at hl
    exact h ts ⟨hb, by omega⟩
theorem ixD_nat {ds : List PyData} {j : Nat} {d : PyData} (h : ds[j]? = some d) : ixD ds (j : Int) = .ok d := by
  unfold ixD
  rw [atI_nat h]
theorem ixD_int {ts : List Int} {i : Int} (h0 : 0 ≤ i) (h1 : i < (ts.length : Int)) : ∃ z ∈ ts, ixD (ts.map PyData.int) i = .ok (.int z) := by
  obtain ⟨j, rfl⟩ : ∃ j : Nat, i = (j : Int) := ⟨i.toNat, by omega⟩
  have hj : j < ts.length := by omega
  exact ⟨ts[j], List.getElem_mem hj, ixD_nat (by rw [List.getElem?_map, List.getElem?_eq_getElem hj]; rfl)⟩
/-- a draw below m -/
theorem draw_ok {ts : List Int} {at_ m : Int} {k : PyData → Prop} (ok : TapeOk ts) (h0 : 0 ≤ at_) (h1 : at_ ≤ 2 ^ 41) (hm : 0 < m) (h : ∀ r : Int, 0 ≤ r → r < m → k (.int r)) : (den_l_draw [dL ts, .int at_, .int m]).okTo k := by
  obtain ⟨hb, hl⟩ := ok
  unfold den_l_draw body_l_draw dL
  walk_at "ev0"
  refine seq_ok ?_
  walk_at "ev0"
  refine ite_ok (fun c => ?_) (fun c => ?_)
  · have c' := of_decide_eq_true c
    rw [List.length_map] at c'
    obtain ⟨z, _, e⟩ := ixD_int h0 c'
    rw [e]
    walk_at "ev"
    exact ⟨cMod_ok (by omega), h _ (modN hm).1 (modN hm).2⟩
  · walk_at "ev0"
    refine seq_ok ?_
    walk_at "ev0"
    refine seq_ok ?_
    refine R.okTo.mono (k := fun fl => ∃ n : Int, 0 ≤ n ∧ n < 2147483629 ∧ fl = .nx [some (.dat (.list (ts.map PyData.int))), some (.dat (.int at_)), some (.dat (.int m)), some (.dat (.int n))]) ?_ ?_
    · walk_at "ev"
      refine ite_ok (fun q => ?_) (fun q => ⟨1, by decide, by decide, rfl⟩)
      have q' := of_decide_eq_true q
      obtain ⟨z, hz, e⟩ := ixD_int (ts := ts) (i := at_.fmod ((ts.map PyData.int).length : Int)) (modN q').1 (by have := (modN (i := at_) q').2; rw [List.length_map] at this ⊢; exact this)
      walk_at "ev"
      refine ⟨cMod_ok (by omega), ?_⟩
      rw [e]
      exact ⟨z, (hb z hz).1, (hb z hz).2, rfl⟩
    · rintro fl ⟨n, n0, n1, rfl⟩
      walk_at "ev"
      exact ⟨cMul_ok (by omega) (by omega), cMulS_r (by decide), cMulS_r (by decide), cMod_ok (by decide), cMod_ok (by omega), h _ (modN hm).1 (modN hm).2⟩
/-- the law's state: the tape and the place -/
def Box (ts : List Int) (n : Int) (bs : List PyData) : Prop := TapeOk ts ∧ ∃ i : Int, 0 ≤ i ∧ i ≤ n ∧ bs = [dL ts, .int i]
theorem take_ok {ts : List Int} {n m : Int} {bs : List PyData} {k : PyData × List PyData → Prop} (b : Box ts n bs) (hn : n ≤ 2 ^ 40) (hm : 0 < m) (h : ∀ (r : Int) bs', 0 ≤ r → r < m → Box ts (n + 1) bs' → k (.int r, bs')) : (den_l_take bs [.int m]).okTo k := by
  obtain ⟨ok, i, i0, i1, rfl⟩ := b
  unfold den_l_take body_l_take
  walk_at "ev"
  have e1 : ixD [dL ts, .int i] 1 = .ok (.int i) := rfl
  have e2 : ixN ([dL ts, PyData.int i].length) 1 = some 1 := rfl
  rw [e1]
  walk_at "ev"
  have e2 : ixN (0 + 1 + 1) 1 = some 1 := rfl
  rw [e2]
  walk_at "ev"
  have e3 : ixD [dL ts, .int (i + 1)] 0 = .ok (dL ts) := rfl
  have e4 : ixD [dL ts, .int (i + 1)] 1 = .ok (.int (i + 1)) := rfl
  rw [e3]
  walk_at "ev"
  rw [e4]
  walk_at "ev"
  refine ⟨trivial, draw_ok ok (by omega) (by omega) hm fun r r0 r1 => ?_⟩
  exact h r _ r0 r1 ⟨ok, i + 1, by omega, by omega, rfl⟩
end Bo

/-! ### stepping through what code is worth -/
namespace Bo
open PySem L2
section
variable {S S' : SS} {fa fb fc : VE} {ft fu : VT} {fr : VA} {fs ft' : VS} {ff : VF} {fo fp : VO} {i j m : Nat} {d e : PyData} {ds es : List PyData}
variable {kE : PyData × SS → Prop} {kT : Bool × SS → Prop} {kA : List PyData × SS → Prop} {kS : FL → Prop} {kO : Option Int × SS → Prop} {kG : SS → Prop} {kD : PyData → Prop}
theorem w_var (h : S[i]? = some (some (.dat d))) (q : kE (d, S)) : (vVar i S).okTo kE := by
  unfold vVar
  rw [h]
  exact q
theorem w_c (q : kE (d, S)) : (vC d S).okTo kE := q
theorem w_op {g : PyData → PyData → R PyData} (h : (fa S).okTo fun p => (fb p.2).okTo fun q => (g p.1 q.1).okTo fun z => kE (z, q.2)) : (vOp g fa fb S).okTo kE := by
  unfold vOp
  simp only [okTo_bind]
  exact h
theorem w_un {g : PyData → R PyData} (h : (fa S).okTo fun p => (g p.1).okTo fun z => kE (z, p.2)) : (vUn g fa S).okTo kE := by
  unfold vUn
  simp only [okTo_bind]
  exact h
theorem w_and (h : (fa S).okTo fun p => (toB p.1).okTo fun b => if b = true then (fb p.2).okTo kE else kE (.bool false, p.2)) : (vAnd fa fb S).okTo kE := by
  unfold vAnd
  simp only [okTo_bind]
  refine h.mono fun p q => q.mono fun b q => ?_
  cases b <;> exact q
theorem w_or (h : (fa S).okTo fun p => (toB p.1).okTo fun b => if b = true then kE (.bool true, p.2) else (fb p.2).okTo kE) : (vOr fa fb S).okTo kE := by
  unfold vOr
  simp only [okTo_bind]
  refine h.mono fun p q => q.mono fun b q => ?_
  cases b <;> exact q
theorem w_not (h : (fa S).okTo fun p => (toB p.1).okTo fun b => kE (.bool (!b), p.2)) : (vNot fa S).okTo kE := by
  unfold vNot
  simp only [okTo_bind]
  exact h
theorem w_toB {b : Bool} {k : Bool → Prop} (q : k b) : (toB (.bool b)).okTo k := q
theorem w_toI {b : Int} {k : Int → Prop} (q : k b) : (toI (.int b)).okTo k := q
theorem w_tst (h : (fa S).okTo fun p => (toB p.1).okTo fun b => kT (b, p.2)) : (vTst fa S).okTo kT := by
  unfold vTst
  simp only [okTo_bind]
  exact h
theorem w_tnot (h : (ft S).okTo fun p => kT (!p.1, p.2)) : (tNotF ft S).okTo kT := by
  unfold tNotF
  simp only [okTo_bind]
  exact h
theorem w_tand (h : (ft S).okTo fun p => if p.1 = true then (fu p.2).okTo kT else kT (false, p.2)) : (tAndF ft fu S).okTo kT := by
  unfold tAndF
  simp only [okTo_bind]
  refine h.mono fun p q => ?_
  by_cases c : p.1 = true
  · rw [if_pos c] at q ⊢
    exact q
  · rw [if_neg c] at q ⊢
    exact q
theorem w_tor (h : (ft S).okTo fun p => if p.1 = true then kT (true, p.2) else (fu p.2).okTo kT) : (tOrF ft fu S).okTo kT := by
  unfold tOrF
  simp only [okTo_bind]
  refine h.mono fun p q => ?_
  by_cases c : p.1 = true
  · rw [if_pos c] at q ⊢
    exact q
  · rw [if_neg c] at q ⊢
    exact q
theorem w_tru (h : (fa S).okTo fun p => (truD p.1).okTo fun b => kT (b, p.2)) : (vTru fa S).okTo kT := by
  unfold vTru
  simp only [okTo_bind]
  exact h
theorem w_if (h : (ft S).okTo fun p => if p.1 = true then (fa p.2).okTo kE else (fb p.2).okTo kE) : (vIf ft fa fb S).okTo kE := by
  unfold vIf
  simp only [okTo_bind]
  refine h.mono fun p q => ?_
  by_cases c : p.1 = true
  · rw [if_pos c] at q ⊢
    exact q
  · rw [if_neg c] at q ⊢
    exact q
theorem w_chain {g g' : PyData → PyData → R PyData} (h : (fa S).okTo fun p => (fb p.2).okTo fun q => (g p.1 q.1).okTo fun z => (toB z).okTo fun b => if b = true then (fc q.2).okTo fun r => (g' q.1 r.1).okTo fun z => kE (z, r.2) else kE (.bool false, q.2)) : (vChain g g' fa fb fc S).okTo kE := by
  unfold vChain
  simp only [okTo_bind]
  refine h.mono fun p h => h.mono fun q h => h.mono fun z h => h.mono fun b h => ?_
  cases b
  · exact h
  · simp only [if_true, okTo_bind] at h ⊢
    exact h
theorem w_nil (q : kA ([], S)) : (vNil S).okTo kA := q
theorem w_cons (h : (fa S).okTo fun p => (fr p.2).okTo fun q => kA (p.1 :: q.1, q.2)) : (vCons fa fr S).okTo kA := by
  unfold vCons
  simp only [okTo_bind]
  exact h
theorem w_tup (h : (fr S).okTo fun p => p.1.length ≤ 100000 ∧ kE (.tuple p.1, p.2)) : (vTup fr S).okTo kE := by
  unfold vTup
  simp only [okTo_bind, okTo_when]
  exact h
theorem w_lst (h : (fr S).okTo fun p => p.1.length ≤ 100000 ∧ kE (.list p.1, p.2)) : (vLst fr S).okTo kE := by
  unfold vLst
  simp only [okTo_bind, okTo_when]
  exact h
theorem w_lstF (h : (fr S).okTo fun p => p.1.length ≤ 100000 ∧ kA p) : (vLstF fr S).okTo kA := by
  unfold vLstF
  simp only [okTo_bind, okTo_when]
  exact h
theorem w_call {g : List PyData → R PyData} (h : (fr S).okTo fun p => (g p.1).okTo fun z => kE (z, p.2)) : (vCall g fr S).okTo kE := by
  unfold vCall
  simp only [okTo_bind]
  exact h
theorem w_callP {g : List PyData → R PyData} (h : (fr S).okTo fun p => p.1.length = m ∧ (g p.1).okTo fun z => kE (z, p.2)) : (vCallP m g fr S).okTo kE := by
  unfold vCallP
  simp only [okTo_bind, okTo_when, okTo_noErr]
  exact h
theorem w_callL {g : List PyData → R PyData} (h : (fr S).okTo fun p => p.1.length = m ∧ (g p.1).okTo fun z => flatD z = true ∧ kE (z, p.2)) : (vCallL m g fr S).okTo kE := by
  unfold vCallL
  simp only [okTo_bind, okTo_when, okTo_noErr]
  exact h
theorem w_own (h : S[i]? = some (some (.own ds))) {k : List PyData → Prop} (q : k ds) : (ownD S i).okTo k := by
  unfold ownD
  rw [h]
  exact q
theorem w_callB {g : List PyData → List PyData → R (PyData × List PyData)} (h : (ownD S i).okTo fun _ => (fr S).okTo fun p => (ownD p.2 i).okTo fun bs => p.1.length = m ∧ (g bs p.1).okTo fun z => kE (z.1, p.2.set i (some (.own z.2)))) : (vCallB m g i fr S).okTo kE := by
  unfold vCallB
  simp only [okTo_bind, okTo_when, okTo_noErr]
  exact h
theorem w_callS {g : List Int → R PyData} {ns : List Int} (h : S[i]? = some (some (.scr ns))) (q : (g ns).okTo fun z => kE (z, S)) : (vCallS g i S).okTo kE := by
  unfold vCallS
  rw [h]
  simp only [okTo_bind, okTo_noErr]
  exact q
theorem w_consO (h : (ownD S i).okTo fun _ => (fr S).okTo fun q => (ownD q.2 i).okTo fun ds => kA (.list ds :: q.1, q.2)) : (vConsO i fr S).okTo kA := by
  unfold vConsO
  simp only [okTo_bind]
  exact h
theorem w_fr (h : (ff S).okTo fun p => kE (.list p.1, p.2)) : (vFr ff S).okTo kE := by
  unfold vFr
  simp only [okTo_bind]
  exact h
theorem w_lenO (h : (ownD S i).okTo fun ds => kE (.int ds.length, S)) : (vLenO i S).okTo kE := by
  unfold vLenO
  simp only [okTo_bind]
  exact h
theorem w_tupleO (h : (ownD S i).okTo fun ds => kE (.tuple ds, S)) : (vTupleO i S).okTo kE := by
  unfold vTupleO
  simp only [okTo_bind]
  exact h
theorem w_listO (h : (ownD S i).okTo fun ds => kA (ds, S)) : (vListO i S).okTo kA := by
  unfold vListO
  simp only [okTo_bind]
  exact h
theorem w_ixO (h : (ownD S i).okTo fun _ => (fa S).okTo fun p => (ownD p.2 i).okTo fun ds => (toI p.1).okTo fun k => (ixD ds k).okTo fun d => kE (d, p.2)) : (vIxO i fa S).okTo kE := by
  unfold vIxO
  simp only [okTo_bind]
  exact h
theorem w_inO {neg : Bool} (h : (fa S).okTo fun p => (ownD p.2 i).okTo fun ds => (flatD p.1 = true ∧ ds.all flatD = true) ∧ kE (.bool (if neg then !inD p.1 ds else inD p.1 ds), p.2)) : (vInO neg fa i S).okTo kE := by
  unfold vInO
  simp only [okTo_bind, okTo_when]
  exact h
theorem w_truO (h : (ownD S i).okTo fun ds => kT (!ds.isEmpty, S)) : (vTruO i S).okTo kT := by
  unfold vTruO
  simp only [okTo_bind]
  exact h
theorem w_app (h : (ownD S i).okTo fun _ => (fa S).okTo fun p => (ownD p.2 i).okTo fun ds => ds.length < 100000 ∧ kE (.none, p.2.set i (some (.own (ds ++ [p.1]))))) : (vApp i fa S).okTo kE := by
  unfold vApp
  simp only [okTo_bind, okTo_when]
  exact h
theorem w_setI (h : (fb S).okTo fun p => (ownD p.2 i).okTo fun _ => (fa p.2).okTo fun q => (ownD q.2 i).okTo fun ds => (toI q.1).okTo fun k => ∃ j, ixN ds.length k = some j ∧ kS (.nx (q.2.set i (some (.own (ds.set j p.1)))))) : (vSetI i fa fb S).okTo kS := by
  unfold vSetI
  simp only [okTo_bind]
  refine h.mono fun p h => h.mono fun _ h => h.mono fun q h => h.mono fun ds h => h.mono fun k h => ?_
  obtain ⟨j, e, h⟩ := h
  rw [e]
  exact h
theorem w_sl {g : PyData → Option Int → Option Int → R PyData} (h : (fa S).okTo fun p => (fo p.2).okTo fun l => (fp l.2).okTo fun h => (g p.1 l.1 h.1).okTo fun z => kE (z, h.2)) : (vSl g fa fo fp S).okTo kE := by
  unfold vSl
  simp only [okTo_bind]
  exact h
theorem w_noPart (q : kO (none, S)) : (vNoPart S).okTo kO := q
theorem w_part (h : (fa S).okTo fun p => (toI p.1).okTo fun i => kO (some i, p.2)) : (vPart fa S).okTo kO := by
  unfold vPart
  simp only [okTo_bind]
  exact h
theorem w_iter (h : (fa S).okTo fun p => ∃ ds, p.1 = .list ds ∧ kA (ds, p.2)) : (vIter fa S).okTo kA := by
  unfold vIter
  simp only [okTo_bind]
  refine h.mono fun p ⟨ds, e, q⟩ => ?_
  rw [e]
  exact q
theorem w_iterT (h : (fa S).okTo fun p => ∃ ds, p.1 = .tuple ds ∧ kA (ds, p.2)) : (vIterT fa S).okTo kA := by
  unfold vIterT
  simp only [okTo_bind]
  refine h.mono fun p ⟨ds, e, q⟩ => ?_
  rw [e]
  exact q
theorem w_range1 (h : (fr S).okTo fun p => ∃ j, p.1 = [.int j] ∧ (-1000000 ≤ j ∧ j ≤ 1000000) ∧ kA (rangeD 0 j.toNat, p.2)) : (vRange1 fr S).okTo kA := by
  unfold vRange1
  simp only [okTo_bind]
  refine h.mono fun p ⟨j, e, c, q⟩ => ?_
  rw [e]
  exact okTo_when.mpr ⟨c, q⟩
theorem w_listRg (h : (fa S).okTo fun p => (toI p.1).okTo fun j => (-1000000 ≤ j ∧ j ≤ 1000000) ∧ kA (rangeD 0 j.toNat, p.2)) : (vListRg fa S).okTo kA := by
  unfold vListRg
  simp only [okTo_bind, okTo_when]
  exact h
theorem w_enumK {kd : Kd} (h : (fr S).okTo fun p => ∃ d ds, p.1 = [d] ∧ kdD kd d = some ds ∧ kA (enumD ds, p.2)) : (vEnumK kd fr S).okTo kA := by
  unfold vEnumK
  simp only [okTo_bind]
  refine h.mono fun p ⟨d, ds, e, c, q⟩ => ?_
  rw [e]
  simp only [c]
  exact q
theorem w_zipK {k l : Kd} (h : (fr S).okTo fun p => ∃ d e ds es, p.1 = [d, e] ∧ kdD k d = some ds ∧ kdD l e = some es ∧ kA (zipD ds es, p.2)) : (vZipK k l fr S).okTo kA := by
  unfold vZipK
  simp only [okTo_bind]
  refine h.mono fun p ⟨d, e, ds, es, e1, c1, c2, q⟩ => ?_
  rw [e1]
  simp only [c1, c2]
  exact q
theorem w_repF (h : (fa S).okTo fun p => (fb p.2).okTo fun q => ∃ ds k, p.1 = .list ds ∧ q.1 = .int k ∧ (ds.length * k.toNat ≤ 100000 ∧ k ≤ 100000 ∧ -100000 ≤ k) ∧ kA ((List.replicate k.toNat ds).flatten, q.2)) : (vRepF fa fb S).okTo kA := by
  unfold vRepF
  simp only [okTo_bind]
  refine h.mono fun p h => h.mono fun q ⟨ds, k, e1, e2, c, h⟩ => ?_
  rw [e1, e2]
  exact okTo_when.mpr ⟨c, h⟩
theorem w_lc {fg : PyData → SS → R SS} {vs : List Nat} (h : (ff S).okTo fun p => (okS vs p.2 = true ∧ p.1.length ≤ 100000) ∧ (lcF fg ft fa vs p.1 (wipeS p.2 vs)).okTo fun r => kA (r.1, backS p.2 r.2 vs)) : (vLc vs ff fg ft fa S).okTo kA := by
  unfold vLc
  simp only [okTo_bind, okTo_when]
  exact h
theorem w_yes (q : kT (true, S)) : (vYes S).okTo kT := q
/-! statements -/
theorem w_seq (h : (fs S).okTo fun fl => match fl with
    | .nx S1 => (ft' S1).okTo kS
    | f => kS f) : (vSeq fs ft' S).okTo kS := seq_ok h
theorem w_next (q : kS (.nx S)) : (vNext S).okTo kS := q
theorem w_ret (h : (fa S).okTo fun p => kS (.rt p.1 p.2)) : (vRet fa S).okTo kS := by
  unfold vRet
  simp only [okTo_bind]
  exact h
theorem w_retN (q : kS (.rt .none S)) : (vRetN S).okTo kS := q
theorem w_drop (h : (fa S).okTo fun p => kS (.nx p.2)) : (vDrop fa S).okTo kS := by
  unfold vDrop
  simp only [okTo_bind]
  exact h
theorem w_asg {fg : PyData → SS → R SS} (h : (fa S).okTo fun p => (fg p.1 p.2).okTo fun S1 => kS (.nx S1)) : (vAsg fa fg S).okTo kS := by
  unfold vAsg
  simp only [okTo_bind]
  exact h
theorem w_aName (q : kG (S.set i (some (.dat d)))) : (aName i d S).okTo kG := q
theorem w_aTup {fg : List PyData → SS → R SS} (c : ds.length = m) (q : (fg ds S).okTo kG) : (aTup m fg (.tuple ds) S).okTo kG := okTo_when.mpr ⟨c, q⟩
theorem w_aNil (q : kG S) : (aNil [] S).okTo kG := q
theorem w_aCons {fg : PyData → SS → R SS} {fgs : List PyData → SS → R SS} (q : (fg d S).okTo fun S1 => (fgs ds S1).okTo kG) : (aCons fg fgs (d :: ds) S).okTo kG := by
  unfold aCons
  simp only [okTo_bind]
  exact q
theorem w_ifS (h : (ft S).okTo fun p => if p.1 = true then (fs p.2).okTo kS else (ft' p.2).okTo kS) : (vIfS ft fs ft' S).okTo kS := by
  unfold vIfS
  simp only [okTo_bind]
  refine h.mono fun p q => ?_
  by_cases c : p.1 = true
  · rw [if_pos c] at q ⊢
    exact q
  · rw [if_neg c] at q ⊢
    exact q
theorem w_ownS (h : (ff S).okTo fun p => kS (.nx (p.2.set i (some (.own p.1))))) : (vOwn i ff S).okTo kS := by
  unfold vOwn
  simp only [okTo_bind]
  exact h
theorem w_frz (h : S[i]? = some (some (.own ds))) (q : (fs (S.set i (some (.dat (.list ds))))).okTo kS) : (vFrz i fs S).okTo kS := by
  unfold vFrz frzS
  rw [h]
  exact q
theorem w_for {fg : PyData → SS → R SS} (h : (ff S).okTo fun p => (loopF fg fs p.1 p.2).okTo kS) : (vFor ff fg fs S).okTo kS := by
  unfold vFor
  simp only [okTo_bind]
  exact h
theorem w_aug {f : Int → Int → Int} {a : Int} (h : S[i]? = some (some (.dat (.int a)))) (q : (fa S).okTo fun p => (toI p.1).okTo fun b => kS (.nx (p.2.set i (some (.dat (.int (f a b))))))) : (vAug i f fa S).okTo kS := by
  unfold vAug
  rw [h]
  simp only [okTo_bind]
  exact q
/-! values -/
theorem w_gI {f : Int → Int → Int} {a b : Int} (q : kD (.int (f a b))) : (gI f (.int a) (.int b)).okTo kD := q
theorem w_gIB {f : Int → Int → Bool} {a b : Int} (q : kD (.bool (f a b))) : (gIB f (.int a) (.int b)).okTo kD := q
theorem w_gIC {c : Int → Int → Bool} {f : Int → Int → Int} {a b : Int} (h : c a b = true ∧ kD (.int (f a b))) : (gIC c f (.int a) (.int b)).okTo kD := okTo_when.mpr h
theorem w_gEqI {a b : Int} (q : kD (.bool (decide (a = b)))) : (gEq (.int a) (.int b)).okTo kD := q
theorem w_gNeI {a b : Int} (q : kD (.bool (!decide (a = b)))) : (gNe (.int a) (.int b)).okTo kD := q
theorem w_gIxL {a : Int} (q : (ixD ds a).okTo kD) : (gIxL (.list ds) (.int a)).okTo kD := q
theorem w_gIxT {a : Int} (q : (ixD ds a).okTo kD) : (gIxT (.tuple ds) (.int a)).okTo kD := q
theorem w_gCat (h : ds.length + es.length ≤ 100000 ∧ kD (.list (ds ++ es))) : (gCat (.list ds) (.list es)).okTo kD := okTo_when.mpr h
theorem w_gCatT (h : ds.length + es.length ≤ 100000 ∧ kD (.tuple (ds ++ es))) : (gCatT (.tuple ds) (.tuple es)).okTo kD := okTo_when.mpr h
theorem w_isN (q : kD (.bool (isNone d))) : ((fun d e => R.when (isNone e = true) (.ok (.bool (isNone d)))) d PyData.none : R PyData).okTo kD := q
theorem w_notN (q : kD (.bool (!isNone d))) : ((fun d e => R.when (isNone e = true) (.ok (.bool (!isNone d)))) d PyData.none : R PyData).okTo kD := q
theorem w_gInL {neg : Bool} (h : (flatD d = true ∧ ds.all flatD = true) ∧ kD (.bool (if neg then !inD d ds else inD d ds))) : (gIn neg d (.list ds)).okTo kD := okTo_when.mpr h
theorem w_gLenL (q : kD (.int ds.length)) : (gLen [.list ds]).okTo kD := q
theorem w_gLenT (q : kD (.int ds.length)) : (gLen [.tuple ds]).okTo kD := q
theorem w_gIntI {a : Int} (q : kD (.int a)) : (gInt [.int a]).okTo kD := q
theorem w_gTuple (q : kD (.tuple ds)) : (gTuple [.list ds]).okTo kD := q
theorem w_gBools {f : List Bool → PyData} {bs : List Bool} (q : kD (f bs)) : (gBools f [.list (bs.map PyData.bool)]).okTo kD := by
  unfold gBools
  simp only [bools_map]
  exact q
theorem w_gInts {f : List Int → PyData} {bs : List Int} (q : kD (f bs)) : (gInts f [.list (bs.map PyData.int)]).okTo kD := by
  unfold gInts
  simp only [ints_map]
  exact q
theorem w_gNeD (h : (SeqAt.shaped d = true ∧ SeqAt.shaped e = true) ∧ kD (.bool (!PyData.eqv d e))) : (gNeD d e).okTo kD := okTo_when.mpr h
theorem w_gEqD (h : (SeqAt.shaped d = true ∧ SeqAt.shaped e = true) ∧ kD (.bool (PyData.eqv d e))) : (gEqD d e).okTo kD := okTo_when.mpr h
theorem w_gRevL (q : kD (.list ds.reverse)) : (gRevL (.list ds)).okTo kD := q
theorem w_gSlL {lo hi : Option Int} (q : kD (.list (cutD ds lo hi))) : (gSlL (.list ds) lo hi).okTo kD := q
theorem w_gSlT {lo hi : Option Int} (q : kD (.tuple (cutD ds lo hi))) : (gSlT (.tuple ds) lo hi).okTo kD := q
/-! defs -/
theorem w_denP {N : Nat} (h : (fs (startS N ds)).okTo fun fl => match fl with
    | .nx _ => kD .none
    | .rt d _ => kD d
    | _ => False) : (denP N fs ds).okTo kD := by
  unfold denP endP
  simp only [okTo_bind]
  refine h.mono fun fl q => ?_
  cases fl <;> first | exact q | exact q.elim
end
end Bo

/-! ### a, b, .. = a list -/
namespace Bo
open PySem L2
section
variable {K : PySem.W.Frag} {n : Nat} {C : Ct K n}
def aUnl (m : Nat) (f : List PyData → SS → R SS) : PyData → SS → R SS := fun d S => match d with
  | .list ds => R.when (ds.length = m) (f ds S)
  | _ => .bad
end
section
variable {X : Cx} (K : PySem.W.Frag) (h : X.K = K := by rfl)
include h
end
theorem w_aUnl {m : Nat} {ds : List PyData} {S : SS} {kG : SS → Prop} {fg : List PyData → SS → R SS} (c : ds.length = m) (q : (fg ds S).okTo kG) : (aUnl m fg (.list ds) S).okTo kG := by
  show (R.when (ds.length = m) (fg ds S)).okTo kG
  rw [R.when_pos c]
  exact q
end Bo

/-! ### more steps -/
namespace Bo
open PySem L2
section
variable {S S' : SS} {fa fb fc : VE} {ft fu : VT} {fr : VA} {fs ft' : VS} {ff : VF} {i j m : Nat} {d e : PyData} {ds es : List PyData}
variable {kE : PyData × SS → Prop} {kT : Bool × SS → Prop} {kA : List PyData × SS → Prop} {kS : FL → Prop} {kD : PyData → Prop}
theorem w_itT {a b : Prop} (h : a) : if True then a else b := h
theorem w_itF {a b : Prop} (h : b) : if False then a else b := h
theorem w_itTT {a b : Prop} (h : a) : if true = true then a else b := h
theorem w_itFT {a b : Prop} (h : b) : if false = true then a else b := h
theorem w_gList (q : kD (.list ds)) : (gList [.list ds]).okTo kD := q
theorem w_gSortI {ns : List Int} (q : kD (.list ((ns.mergeSort fun a b => decide (a ≤ b)).map PyData.int))) : (gSortI [.list (ns.map PyData.int)]).okTo kD := by
  unfold gSortI
  simp only [ints_map]
  exact q
theorem w_range2 (h : (fr S).okTo fun p => ∃ i j, p.1 = [.int i, .int j] ∧ ((-1000000 ≤ i ∧ i ≤ 1000000) ∧ -1000000 ≤ j ∧ j ≤ 1000000) ∧ kA (rangeD i (j - i).toNat, p.2)) : (vRange2 fr S).okTo kA := by
  unfold vRange2
  simp only [okTo_bind]
  refine h.mono fun p ⟨i, j, e, c, q⟩ => ?_
  rw [e]
  exact okTo_when.mpr ⟨c, q⟩
theorem w_lcO {pair : Bool} {vs : List Nat} {fg : PyData → SS → R SS} (h0 : S[i]? = some (some (.own ds))) (ok : okS vs S = true) (h : (lcO pair i fg ft fa vs 100000 0 (wipeS S vs)).okTo fun r => kA (r.1, backS S r.2 vs)) : (vLcO pair i vs fg ft fa S).okTo kA := by
  unfold vLcO ownD
  rw [h0]
  simp only [R.bind_ok, okTo_when, okTo_bind]
  exact ⟨ok, h⟩
end
end Bo

/-! ### an item of a list or a tuple -/
namespace Bo
open PySem L2
section
variable {K : PySem.W.Frag} {n : Nat} {C : Ct K n} {σ : L2.St} {H B : Hp} {S : SS}
def gIxQ : PyData → PyData → R PyData
  | .list ds, .int i => ixD ds i
  | .tuple ds, .int i => ixD ds i
  | _, _ => .bad
theorem w_gIxQL {ds : List PyData} {a : Int} {kD : PyData → Prop} (q : (ixD ds a).okTo kD) : (gIxQ (.list ds) (.int a)).okTo kD := q
theorem w_gIxQT {ds : List PyData} {a : Int} {kD : PyData → Prop} (q : (ixD ds a).okTo kD) : (gIxQ (.tuple ds) (.int a)).okTo kD := q
end
end Bo

/-! ### more rules: [*xs, y], reversed(xs) -/
namespace Bo
open PySem L2
section
variable {K : PySem.W.Frag} {n : Nat} {C : Ct K n} {B : Hp}
theorem k_star (K : PySem.W.Frag) {X : Cx} (h : X.K = K) {e : Expr} {es : List Expr} {te : TE} {t : TA} {p : Pos} (he : PE X e te) (hr : PA X es t) (hs : starEach (.Starred e p :: es) X.env = (true, eval e X.env) :: starEach es X.env := by rfl) : PA X (.Starred e p :: es) (StX.tStar K te t) := h ▸ StX.pa_star he hr hs
def vStar (fa : VE) (fr : VA) : VA := fun S => (fa S).bind fun p => match itemsD p.1 with
  | some ds => (fr p.2).bind fun q => .ok (ds ++ q.1, q.2)
  | none => .bad
theorem s_star {ta : TE} {tr : TA} {fa : VE} {fr : VA} (ha : SE C ta fa) (hr : SA C tr fr) : SA C (StX.tStar K ta tr) (vStar fa fr) := by
  intro σ H B S Q R h
  unfold vStar at h
  rw [post_bind] at h
  refine ha σ H B S _ R (h.mono fun p h1 v H1 B1 R1 e1 d1 => ?_)
  split at h1
  · rename_i ds q
    obtain ⟨a, xs, rfl, sq, da⟩ := seq_of d1 q
    rw [post_bind] at h1
    refine ⟨a, xs, rfl, (seq_up R1.base.bh sq).symm, ?_⟩
    exact hr σ H1 B1 p.2 _ R1 (h1.mono fun q h2 w H2 B2 R2 e2 d2 => h2 _ H2 B2 R2 (e1.trans e2) (daa_app (daa_mono e2 da) d2))
  · exact h1.elim
def smallI (i j : Int) : Prop := i.natAbs < 2 ^ 6000 ∧ j.natAbs < 2 ^ 6000
instance {i j : Int} : Decidable (smallI i j) := inferInstanceAs (Decidable (_ ∧ _))
open PySem.W in
/-! isinstance(x, T), T a built-in class -/
end
end Bo

/-! ### more rules: xs.index(x) -/
namespace Bo
open PySem L2
section
variable {K : PySem.W.Frag} {n : Nat} {C : Ct K n} {B : Hp}
/-! dict(xs), xs a list of pairs; d.get(k, x) -/
def valD (kvs : List (Key × PyData)) (k : Key) : Option PyData := (kvs.find? fun kv => decide (kv.1 = k)).map (·.2)
end
end Bo

/-! ### determinants by their first column, and what the elimination without rests needs of them -/
namespace Bo
abbrev Row := Nat → Rat
/-- the signed sum over the rows: the number of the row at c, times what f says of the others -/
def wlk (f : List Row → Rat) (c : Nat) : List Row → List Row → Rat
  | _, [] => 0
  | p, r :: q => r c * f (p ++ q) - wlk f c (p ++ [r]) q
def lap : List Nat → List Row → Rat
  | [], _ => 1
  | c :: cs, rs => wlk (lap cs) c [] rs
def rAdd (x y : Row) (a : Rat) : Row := fun j => x j + a * y j
/-- f of n rows is linear in each -/
def Lin (n : Nat) (f : List Row → Rat) : Prop := ∀ p q x y a, p.length + q.length + 1 = n → f (p ++ rAdd x y a :: q) = f (p ++ x :: q) + a * f (p ++ y :: q)
theorem wlk_left {f : List Row → Rat} {n c : Nat} {x y : Row} {a : Rat} (h : Lin n f) : ∀ (q p s : List Row), p.length + s.length + q.length = n → wlk f c (p ++ rAdd x y a :: s) q = wlk f c (p ++ x :: s) q + a * wlk f c (p ++ y :: s) q
  | [], p, s, _ => by simp only [wlk]; grind
  | r :: q, p, s, hn => by
    have hn' : p.length + s.length + (q.length + 1) = n := hn
    have ih := wlk_left (c := c) (x := x) (y := y) (a := a) h q p (s ++ [r]) (by rw [List.length_append, List.length_singleton]; omega)
    have e := h p (s ++ q) x y a (by rw [List.length_append]; omega)
    simp only [wlk, List.append_assoc, List.cons_append, List.singleton_append, List.nil_append] at ih e ⊢
    rw [ih, e]
    grind
theorem wlk_lin {f : List Row → Rat} {n c : Nat} {x y : Row} {a : Rat} (h : Lin n f) : ∀ (p s q : List Row), s.length + p.length + q.length = n → wlk f c s (p ++ rAdd x y a :: q) = wlk f c s (p ++ x :: q) + a * wlk f c s (p ++ y :: q)
  | [], s, q, hn => by
    have hn' : s.length + 0 + q.length = n := hn
    have e := wlk_left (c := c) (x := x) (y := y) (a := a) h q s [] (by rw [List.length_nil]; omega)
    simp only [wlk, List.nil_append]
    rw [e]
    simp only [rAdd]
    grind
  | r :: p, s, q, hn => by
    have hn' : s.length + (p.length + 1) + q.length = n := hn
    have ih := wlk_lin (c := c) (x := x) (y := y) (a := a) h p (s ++ [r]) q (by rw [List.length_append, List.length_singleton]; omega)
    have e := h (s ++ p) q x y a (by rw [List.length_append]; omega)
    simp only [wlk, List.cons_append, List.append_assoc] at ih e ⊢
    rw [ih, e]
    grind
theorem lap_lin : ∀ cs : List Nat, Lin cs.length (lap cs)
  | [] => fun p q x y a h => by simp only [List.length_nil] at h; omega
  | c :: cs => fun p q x y a h => wlk_lin (lap_lin cs) p [] q (by simp only [List.length_cons, List.length_nil] at h ⊢; omega)
/-- f of n rows is 0 where two neighbours are the same -/
def Alt (n : Nat) (f : List Row → Rat) : Prop := ∀ p q x, p.length + q.length + 2 = n → f (p ++ x :: x :: q) = 0
theorem wlk_pair {f : List Row → Rat} {n c : Nat} {x : Row} (h : Alt n f) : ∀ (q p s : List Row), p.length + s.length + q.length + 1 = n → wlk f c (p ++ x :: x :: s) q = 0
  | [], p, s, _ => rfl
  | r :: q, p, s, hn => by
    have hn' : p.length + s.length + (q.length + 1) + 1 = n := hn
    have ih := wlk_pair (c := c) (x := x) h q p (s ++ [r]) (by rw [List.length_append, List.length_singleton]; omega)
    have e := h p (s ++ q) x (by rw [List.length_append]; omega)
    simp only [wlk, List.append_assoc, List.cons_append, List.singleton_append, List.nil_append] at ih e ⊢
    rw [ih, e]
    grind
theorem wlk_alt {f : List Row → Rat} {n c : Nat} {x : Row} (h : Alt n f) : ∀ (p s q : List Row), s.length + p.length + q.length + 1 = n → wlk f c s (p ++ x :: x :: q) = 0
  | [], s, q, hn => by
    have hn' : s.length + 0 + q.length + 1 = n := hn
    have e := wlk_pair (c := c) (x := x) h q s [] (by rw [List.length_nil]; omega)
    simp only [wlk, List.nil_append, List.append_assoc, List.cons_append] at e ⊢
    rw [e]
    grind
  | r :: p, s, q, hn => by
    have hn' : s.length + (p.length + 1) + q.length + 1 = n := hn
    have ih := wlk_alt (c := c) (x := x) h p (s ++ [r]) q (by rw [List.length_append, List.length_singleton]; omega)
    have e := h (s ++ p) q x (by rw [List.length_append]; omega)
    simp only [wlk, List.cons_append, List.append_assoc] at ih e ⊢
    rw [ih, e]
    grind
theorem lap_alt : ∀ cs : List Nat, Alt cs.length (lap cs)
  | [] => fun p q x h => by simp only [List.length_nil] at h; omega
  | [c] => fun p q x h => by
    simp only [List.length_cons, List.length_nil] at h
    obtain rfl : p = [] := List.length_eq_zero_iff.mp (by omega)
    obtain rfl : q = [] := List.length_eq_zero_iff.mp (by omega)
    simp [lap, wlk]
    grind
  | c :: d :: cs => fun p q x h => wlk_alt (lap_alt (d :: cs)) p [] q (by simp only [List.length_cons, List.length_nil] at h ⊢; omega)
/-- neighbours changed round -/
theorem swap_ {n : Nat} {f : List Row → Rat} (l : Lin n f) (h : Alt n f) (p q : List Row) (x y : Row) (hn : p.length + q.length + 2 = n) : f (p ++ x :: y :: q) = - f (p ++ y :: x :: q) := by
  have e0 := h p q (rAdd x y 1) hn
  have e1 := l p (rAdd x y 1 :: q) x y 1 (by rw [List.length_cons]; omega)
  have e2 := l (p ++ [x]) q x y 1 (by rw [List.length_append, List.length_singleton]; omega)
  have e3 := l (p ++ [y]) q x y 1 (by rw [List.length_append, List.length_singleton]; omega)
  have e4 := h p q x hn
  have e5 := h p q y hn
  simp only [List.append_assoc, List.singleton_append, List.cons_append, List.nil_append] at e2 e3
  grind
/-- the same row at two places -/
theorem twice_ {n : Nat} {f : List Row → Rat} (l : Lin n f) (h : Alt n f) (x : Row) : ∀ (m p q : List Row), p.length + m.length + q.length + 2 = n → f (p ++ x :: (m ++ x :: q)) = 0
  | [], p, q, hn => h p q x (by rw [List.length_nil] at hn; omega)
  | y :: m, p, q, hn => by
    have hn' : p.length + (m.length + 1) + q.length + 2 = n := hn
    have e := swap_ l h p (m ++ x :: q) x y (by rw [List.length_append, List.length_cons]; omega)
    have ih := twice_ l h x m (p ++ [y]) q (by rw [List.length_append, List.length_singleton]; omega)
    simp only [List.append_assoc, List.singleton_append, List.cons_append, List.nil_append] at ih e ⊢
    rw [e, ih]
    grind
/-- what rows of rs add up to -/
inductive Spn (rs : List Row) : Row → Prop where
  | zero : Spn rs fun _ => 0
  | add {z r : Row} (a : Rat) : r ∈ rs → Spn rs z → Spn rs (rAdd z r a)
theorem Lin.nil_ {n : Nat} {f : List Row → Rat} (l : Lin n f) {p : List Row} (hn : p.length + 1 = n) : f (p ++ [fun _ => 0]) = 0 := by
  have e := l p [] (fun _ => 0) (fun _ => 0) 1 (by rw [List.length_nil]; omega)
  have z : rAdd (fun _ => 0) (fun _ => 0) 1 = fun _ => (0 : Rat) := by
    funext j
    simp only [rAdd]
    grind
  rw [z] at e
  grind
/-- a last row that is made of the others -/
theorem sp_zero {n : Nat} {f : List Row → Rat} (l : Lin n f) (h : Alt n f) {rs : List Row} {z : Row} (hn : rs.length + 1 = n) (s : Spn rs z) : f (rs ++ [z]) = 0 := by
  induction s with
  | zero => exact l.nil_ hn
  | @add z r a hr _ ih =>
    rw [l rs [] _ _ a (by rw [List.length_nil]; omega), ih]
    obtain ⟨p, q, rfl⟩ := List.append_of_mem hr
    have e := twice_ l h r q p [] (by rw [List.length_append, List.length_cons] at hn; rw [List.length_nil]; omega)
    rw [List.append_assoc, List.cons_append, e]
    grind
/-- made of rs, told of the last row: it may be taken off -/
theorem sp_off {n : Nat} {f : List Row → Rat} (l : Lin n f) (h : Alt n f) {rs : List Row} {x z : Row} (hn : rs.length + 1 = n) (s : Spn rs z) : f (rs ++ [rAdd x z 1]) = f (rs ++ [x]) := by
  rw [l rs [] x z 1 (by rw [List.length_nil]; omega), sp_zero l h hn s]
  grind
/-- a last row that is 0 in all but the last column -/
theorem wlk_last {f g : List Row → Rat} {c : Nat} {y : Row} {v : Rat} (h0 : y c = 0) : ∀ (q s : List Row), (∀ p, p.length + 1 = s.length + q.length → f (p ++ [y]) = g p * v) → wlk f c s (q ++ [y]) = wlk g c s q * v
  | [], s, _ => by
    simp only [wlk, List.nil_append, h0]
    grind
  | r :: q, s, h => by
    have ih := wlk_last (f := f) (g := g) (v := v) h0 q (s ++ [r]) fun p hp => h p (by rw [List.length_append, List.length_singleton] at hp; rw [List.length_cons]; omega)
    have e := h (s ++ q) (by rw [List.length_append, List.length_cons]; omega)
    simp only [wlk, List.cons_append, List.append_assoc] at ih e ⊢
    rw [ih, e]
    grind
theorem lap_last {j : Nat} {y : Row} : ∀ (cs : List Nat) (rs : List Row), rs.length = cs.length → (∀ c ∈ cs, y c = 0) → lap (cs ++ [j]) (rs ++ [y]) = lap cs rs * y j
  | [], rs, hl, _ => by
    obtain rfl := List.length_eq_zero_iff.mp hl
    simp only [lap, List.nil_append, wlk]
    grind
  | c :: cs, rs, hl, h => by
    show wlk (lap (cs ++ [j])) c [] (rs ++ [y]) = wlk (lap cs) c [] rs * y j
    refine wlk_last (h c List.mem_cons_self) rs [] fun p hp => lap_last cs p (by rw [List.length_cons] at hl; rw [List.length_nil] at hp; omega) fun d hd => h d (List.mem_cons_of_mem c hd)
/-- x, cleared of the columns cs by rs -/
structure Clr (cs : List Nat) (rs : List Row) (x y : Row) : Prop where
  sp : ∃ z, Spn rs z ∧ x = rAdd y z 1
  out : ∀ c ∈ cs, y c = 0
theorem Clr.val {cs : List Nat} {rs : List Row} {x y : Row} (k : Clr cs rs x y) (hl : rs.length = cs.length) (j : Nat) : lap (cs ++ [j]) (rs ++ [x]) = lap cs rs * y j := by
  obtain ⟨z, s, rfl⟩ := k.sp
  have n1 : rs.length + 1 = (cs ++ [j]).length := by rw [List.length_append, List.length_singleton, hl]
  rw [sp_off (lap_lin _) (lap_alt _) n1 s]
  exact lap_last cs rs hl k.out
theorem Spn.more {rs : List Row} {r z : Row} (s : Spn rs z) : Spn (rs ++ [r]) z := by
  induction s with
  | zero => exact .zero
  | add a h _ ih => exact .add a (List.mem_append_left _ h) ih
theorem Spn.plus {rs : List Row} {w z : Row} (a : Rat) (s : Spn rs w) (t : Spn rs z) : Spn rs (rAdd w z a) := by
  induction t with
  | zero =>
    have e : rAdd w (fun _ => 0) a = w := by
      funext j
      simp only [rAdd]
      grind
    rw [e]
    exact s
  | @add z r b h _ ih =>
    have e : rAdd w (rAdd z r b) a = rAdd (rAdd w z a) r (a * b) := by
      funext j
      simp only [rAdd]
      grind
    rw [e]
    exact .add _ h ih
/-- one more column cleared -/
theorem Clr.step {cs : List Nat} {rs : List Row} {x y r s : Row} {c : Nat} (k : Clr cs rs x y) (p : Clr cs rs r s) (h : s c ≠ 0) : Clr (cs ++ [c]) (rs ++ [r]) x (rAdd y s (-(y c / s c))) := by
  obtain ⟨⟨z, hz, ex⟩, hy⟩ := k
  obtain ⟨⟨w, hw, er⟩, hs⟩ := p
  refine ⟨⟨rAdd (rAdd z w (-(y c / s c))) r (y c / s c), .add _ (List.mem_append_right _ List.mem_cons_self) (.plus _ hz.more hw.more), ?_⟩, fun d hd => ?_⟩
  · funext j
    rw [ex, er]
    simp only [rAdd]
    grind
  · rcases List.mem_append.mp hd with q | q
    · simp only [rAdd, hy d q, hs d q]
      grind
    · obtain rfl := List.mem_singleton.mp q
      simp only [rAdd]
      grind
/-! whole numbers -/
abbrev RowZ := Nat → Int
def rQ (r : RowZ) : Row := fun j => (r j : Rat)
end Bo

/-! ### what the elimination finds: pivots, solutions, that nothing rests -/
namespace Bo
/-- a sum over columns -/
def sm (u : Nat → Rat) (r : Row) : List Nat → Rat
  | [] => 0
  | c :: cs => u c * r c + sm u r cs
theorem sm_add {u : Nat → Rat} {x y : Row} {a : Rat} : ∀ cs : List Nat, sm u (rAdd x y a) cs = sm u x cs + a * sm u y cs
  | [] => by simp only [sm]; grind
  | c :: cs => by
    simp only [sm, sm_add cs, rAdd]
    grind
theorem sm_zero {u : Nat → Rat} {x : Row} : ∀ cs : List Nat, (∀ c ∈ cs, x c = 0) → sm u x cs = 0
  | [], _ => rfl
  | c :: cs, h => by
    simp only [sm, h c List.mem_cons_self, sm_zero cs fun d hd => h d (List.mem_cons_of_mem c hd)]
    grind
/-- the number at j is what u makes of those at cs -/
def Is (cs : List Nat) (u : Nat → Rat) (j : Nat) (x : Row) : Prop := x j = sm u x cs
theorem Is.add {cs : List Nat} {u : Nat → Rat} {j : Nat} {x y : Row} (h : Is cs u j x) (g : Is cs u j y) (a : Rat) : Is cs u j (rAdd x y a) := by
  unfold Is at *
  rw [sm_add, ← h, ← g]
  rfl
theorem Is.sp {cs : List Nat} {u : Nat → Rat} {j : Nat} {rs : List Row} {z : Row} (h : ∀ r ∈ rs, Is cs u j r) (s : Spn rs z) : Is cs u j z := by
  induction s with
  | zero => exact (sm_zero cs fun _ _ => rfl).symm
  | add a hr _ ih => exact ih.add (h _ hr) a
/-- pivots, one after another -/
inductive Elim : List Nat → List Row → Prop where
  | nil : Elim [] []
  | step {cs : List Nat} {rs : List Row} {r s : Row} {c : Nat} : Elim cs rs → Clr cs rs r s → s c ≠ 0 → c ∉ cs → Elim (cs ++ [c]) (rs ++ [r])
theorem Elim.len {cs : List Nat} {rs : List Row} (e : Elim cs rs) : rs.length = cs.length := by
  induction e with
  | nil => rfl
  | step _ _ _ _ ih => rw [List.length_append, List.length_append, ih]; rfl
theorem Elim.ne {cs : List Nat} {rs : List Row} (e : Elim cs rs) : lap cs rs ≠ 0 := by
  induction e with
  | nil => exact (by decide : (1 : Rat) ≠ 0)
  | step e p h _ ih =>
    rw [p.val e.len]
    intro z
    rcases Rat.mul_eq_zero.mp z with q | q
    · exact ih q
    · exact h q
end Bo

/-! ### the table of the elimination: each row of it is a row of determinants, so no division leaves a rest -/
namespace Bo
def bRow (s row : List Int) (b : Int) : List Int := (row.tail.zip s.tail).map fun p => Int.fdiv (s.headD 0 * p.1 - row.headD 0 * p.2) b
/-- the first row whose first number is not 0 -/
def pick : List (List Int) → Option Nat
  | [] => none
  | r :: t => if r.headD 0 ≠ 0 then some 0 else (pick t).map (· + 1)
end Bo

/-! ### the values, from the last step back to the first -/
namespace Bo
def bBack (b : Int) : List (List Int) → List Int → List Int
  | [], acc => acc
  | s :: ss, acc => bBack b ss (Int.fdiv (b * s.getLastD 0 - ((s.tail.zip acc).map fun p => p.1 * p.2).sum) (s.headD 0) :: acc)
theorem Elim.snoc {cs : List Nat} {rs : List Row} {c : Nat} {r : Row} (e : Elim (cs ++ [c]) (rs ++ [r])) : Elim cs rs := by
  generalize hc : cs ++ [c] = cs' at e
  generalize hr : rs ++ [r] = rs' at e
  cases e with
  | nil => simp at hc
  | step e' _ _ _ =>
    obtain ⟨h1, _⟩ := List.append_inj' hc rfl
    obtain ⟨h2, _⟩ := List.append_inj' hr rfl
    rw [h1, h2]
    exact e'
theorem Elim.cut {qs : List RowZ} : ∀ (d : Nat) (k : Nat), k + d = qs.length → Elim (List.range qs.length) (qs.map rQ) → Elim (List.range k) ((qs.take k).map rQ)
  | 0, k, h, e => by
    rw [← Nat.add_zero k, h, List.take_length]
    exact e
  | d + 1, k, h, e => by
    have ih := Elim.cut d (k + 1) (by omega) e
    have lt : k < qs.length := by omega
    rw [List.range_succ, List.take_add_one, List.getElem?_eq_getElem lt, Option.toList_some, List.map_append] at ih
    exact ih.snoc
end Bo

/-! ### rows and columns: no one solution exactly where the determinant is 0 -/
namespace Bo
def only (cs : List Nat) (r : Row) : Row := fun c => if c ∈ cs then r c else 0
/-- the sum of the rows ahead, each times a number -/
def mix (u : Nat → Rat) : Nat → List Row → Row
  | _, [] => fun _ => 0
  | i, r :: rs => rAdd (mix u (i + 1) rs) r (u i)
end Bo

/-! ### the determinant by the first row, sizes, and when there is no one solution -/
namespace Bo
end Bo

/-! ### the drawn systems -/
namespace Bo
open PySem L2
abbrev Cho := Int × List (Int × Int)
def dC (c : Cho) : PyData := .tuple [.int c.1, .tuple (c.2.map prD)]
def dS (s : List Cho) : PyData := .tuple (s.map dC)
def dY (y : List (List Cho)) : PyData := .tuple (y.map dS)
structure ChoOk (m b : Nat) (c : Cho) : Prop where
  cost : 0 ≤ c.1 ∧ c.1 ≤ 1000
  ne : c.2 ≠ []
  len : c.2.length ≤ b
  ends : ∀ e ∈ c.2, 0 ≤ e.1 ∧ e.1 < (m : Int) ∧ 1 ≤ e.2 ∧ e.2 ≤ 1000
  rise : c.2.Pairwise fun x y => x.1 < y.1
structure SysOk (q b : Nat) (y : List (List Cho)) : Prop where
  ne : 1 ≤ y.length
  len : y.length ≤ 20
  st : ∀ s ∈ y, 1 ≤ s.length ∧ s.length ≤ q
  cho : ∀ s ∈ y, ∀ c ∈ s, ChoOk y.length b c
/-- an item of a written list by a draw -/
theorem pick_ok {ns : List Int} {r : Int} {k : PyData → Prop} (h0 : 0 ≤ r) (h1 : r < (ns.length : Int)) (h : ∀ z ∈ ns, k (.int z)) : (ixD (ns.map PyData.int) r).okTo k := by
  obtain ⟨z, hz, e⟩ := ixD_int h0 h1
  exact okTo_eq e (h z hz)
local macro_rules | `(tactic| walk_at "ev0") => `(tactic| simp only [okTo_bind, okTo_ok, okTo_noErr, okTo_when, R.bind_ok, seqF, vAsg, vVar, vC, vOp, vUn, vCall, vCons, vNil, vTup, vLst, vFr, vLstF, vTst, toB, toI, gI, gIC, gIB, gNeg, gInt, gLen, gEq, gNe, eqF, vAnd, vOr, vNot, tNotF, vYes, gTuple, gList, gRevL, wipeS, backS, okS, vIfS, vIf, vNext, vRet, vRetN, vDrop, vOwn, vFrz, frzS, aName, vFor, vScr, vRange1, vApp, ownD, vIxO, vSetI, gIxL, gIxT, vInO, vCallP, vCallB, vTupleO, vListO, vLenO, vLc, List.getElem?_cons_zero, List.getElem?_cons_succ, List.set_cons_zero, List.set_cons_succ, List.length_cons, List.length_nil, startS, List.map_cons, List.map_nil, List.replicate_succ, List.replicate_zero, List.cons_append, List.nil_append, denP, denB, denS, endP, endB, Nat.sub_self, Nat.reduceSub, Nat.reduceAdd, List.all_cons, List.all_nil, Bool.and_true, SV.mine, Bool.not_false, Option.join_some, true_and, and_true])
theorem Box.up {ts : List Int} {n m : Int} {bs : List PyData} (b : Box ts n bs) (h : n ≤ m) : Box ts m bs := by
  obtain ⟨ok, i, i0, i1, e⟩ := b
  exact ⟨ok, i, i0, by omega, e⟩
theorem rise_app {l : List (Int × Int)} {x : Int × Int} (h : l.Pairwise fun x y => x.1 < y.1) (hx : ∀ e ∈ l, e.1 < x.1) : (l ++ [x]).Pairwise fun x y => x.1 < y.1 :=
  List.pairwise_append.mpr ⟨h, List.pairwise_singleton _ _, fun a ha b hb => by rw [List.mem_singleton.mp hb]; exact hx a ha⟩
theorem ends_ok {ts : List Int} {n : Int} {m : Nat} {bs : List PyData} {k : PyData × List PyData → Prop} (b : Box ts n bs) (hm : 1 ≤ m ∧ m ≤ 20) (hn : n ≤ 2 ^ 39) (h : ∀ (es : List (Int × Int)) bs', es ≠ [] → es.length ≤ m → (∀ e ∈ es, 0 ≤ e.1 ∧ e.1 < (m : Int) ∧ 1 ≤ e.2 ∧ e.2 ≤ 1000) → (es.Pairwise fun x y => x.1 < y.1) → Box ts (n + 50) bs' → k (.tuple (es.map prD), bs')) : (den_l_ends bs [.int (m : Int)]).okTo k := by
  unfold den_l_ends body_l_ends
  walk_at "ev0"
  refine seq_ok ?_
  walk_at "ev0"
  refine ⟨by decide, seq_ok ?_⟩
  walk_at "ev0"
  refine take_ok b (by omega) (by omega) fun f bs1 f0 f1 b1 => seq_ok ?_
  walk_at "ev0"
  refine ⟨⟨by omega, by omega⟩, loop_ok (fun i S => ∃ (es : List (Int × Int)) (bs : List PyData) (g : Option SV), S = [some (.own bs), some (.dat (.int (m : Int))), some (.own (es.map prD)), some (.dat (.int f)), g] ∧ Box ts (n + 1 + 2 * i) bs ∧ es.length ≤ i ∧
    (∀ e ∈ es, 0 ≤ e.1 ∧ e.1 < (i : Int) ∧ 1 ≤ e.2 ∧ e.2 ≤ 1000) ∧ (es.Pairwise fun x y => x.1 < y.1) ∧ (f < (i : Int) → es ≠ [])) ?_ ?_ ⟨[], bs1, _, rfl, b1.up (by omega), Nat.le_refl _, by simp, .nil, fun z => by omega⟩⟩
  · rintro i d S hi ⟨es, bs2, g, rfl, b2, hl, he, hr, hf⟩
    obtain ⟨hi1, rfl⟩ := rangeD_get hi
    rw [Int.toNat_natCast] at hi1
    have z0 : (0 : Int) + (i : Nat) = (i : Int) := Int.zero_add _
    rw [z0]
    walk_at "ev0"
    unfold tOrF
    walk_at "ev0"
    -- the pair is put in
    have put : ∀ {bs3 : List PyData}, Box ts (n + 2 + 2 * i) bs3 → (vDrop (vApp 2 (vTup (vCons (vVar 4) (vCons (vOp gIxL (vLst (vCons (vC (.int 1)) (vCons (vC (.int 1)) (vCons (vC (.int 2)) (vCons (vC (.int 3)) (vCons (vC (.int 10)) (vCons (vC (.int 1000)) vNil))))))) (vCallB 1 den_l_take 0 (vCons (vC (.int 6)) vNil))) vNil))))
        [some (.own bs3), some (.dat (.int (m : Int))), some (.own (es.map prD)), some (.dat (.int f)), some (.dat (.int (i : Int)))]).okTo fun fl => match fl with
      | .nx S2 => ∃ (es : List (Int × Int)) (bs : List PyData) (g : Option SV), S2 = [some (.own bs), some (.dat (.int (m : Int))), some (.own (es.map prD)), some (.dat (.int f)), g] ∧ Box ts (n + 1 + 2 * (i + 1 : Nat)) bs ∧ es.length ≤ i + 1 ∧
        (∀ e ∈ es, 0 ≤ e.1 ∧ e.1 < ((i + 1 : Nat) : Int) ∧ 1 ≤ e.2 ∧ e.2 ≤ 1000) ∧ (es.Pairwise fun x y => x.1 < y.1) ∧ (f < ((i + 1 : Nat) : Int) → es ≠ [])
      | _ => False := fun {bs3} b3 => by
      walk_at "ev0"
      refine ⟨by decide, take_ok b3 (by omega) (by omega) fun r bs4 r0 r1 b4 => ?_⟩
      walk_at "ev0"
      refine pick_ok (ns := [1, 1, 2, 3, 10, 1000]) r0 (by simpa using r1) fun z hz => ⟨by decide, by rw [List.length_map]; omega, ?_⟩
      have hz2 : 1 ≤ z ∧ z ≤ 1000 := by
        simp only [List.mem_cons, List.not_mem_nil, or_false] at hz
        omega
      refine ⟨es ++ [((i : Int), z)], bs4, _, by rw [List.map_append]; rfl, b4.up (by omega), by rw [List.length_append, List.length_singleton]; omega, fun e q => ?_, rise_app hr fun e q => (he e q).2.1, fun _ q => by simp at q⟩
      rcases List.mem_append.mp q with q | q
      · have := he e q
        omega
      · rw [List.mem_singleton.mp q]
        exact ⟨by show (0 : Int) ≤ i; omega, by show (i : Int) < _; omega, hz2⟩
    refine ite_ok (fun c => ?_) (fun c => ?_)
    · walk_at "ev0"
      refine (put (b2.up (by omega))).mono fun fl q => ?_
      cases fl <;> first | exact q | exact q.elim
    · walk_at "ev0"
      refine take_ok b2 (by omega) (by omega) fun r bs3 r0 r1 b3 => ?_
      walk_at "ev0"
      refine ite_ok (fun _ => ?_) (fun _ => ?_)
      · refine (put (b3.up (by omega))).mono fun fl q => ?_
        cases fl <;> first | exact q | exact q.elim
      · refine ⟨es, bs3, _, rfl, b3.up (by omega), by omega, fun e q => by have := he e q; omega, hr, fun z => hf ?_⟩
        have : ¬ (i : Int) = f := fun q => c (decide_eq_true q)
        omega
  · rintro S ⟨es, bs2, g, rfl, b2, hl, he, hr, hf⟩
    rw [rangeD_len, Int.toNat_natCast] at b2 hl he hf
    walk_at "ev0"
    exact h es bs2 (hf (by omega)) hl he hr (b2.up (by omega))
theorem choices_ok {ts : List Int} {n q : Int} {m : Nat} {bs : List PyData} {k : PyData × List PyData → Prop} (b : Box ts n bs) (hm : 1 ≤ m ∧ m ≤ 20) (hn : n ≤ 2 ^ 38) (hq : 1 ≤ q ∧ q ≤ 6)
    (h : ∀ (s : List Cho) bs', 1 ≤ s.length → (s.length : Int) ≤ q → (∀ c ∈ s, ChoOk m m c) → Box ts (n + 400) bs' → k (dS s, bs')) : (den_l_choices bs [.int (m : Int), .int q]).okTo k := by
  unfold den_l_choices body_l_choices
  walk_at "ev0"
  refine seq_ok ?_
  walk_at "ev0"
  refine ⟨by decide, seq_ok ?_⟩
  walk_at "ev0"
  refine take_ok b (by omega) (by omega) fun r bs1 r0 r1 b1 => ?_
  walk_at "ev0"
  refine ⟨⟨by omega, by omega⟩, loop_ok (fun i S => ∃ (s : List Cho) (bs : List PyData) (g : Option SV), S = [some (.own bs), some (.dat (.int (m : Int))), some (.dat (.int q)), some (.own (s.map dC)), g] ∧ Box ts (n + 1 + 51 * i) bs ∧ s.length = i ∧ ∀ c ∈ s, ChoOk m m c) ?_ ?_ ⟨[], bs1, _, rfl, b1.up (by omega), rfl, by simp⟩⟩
  · rintro i d S hi ⟨s, bs2, g, rfl, b2, hl, hc⟩
    obtain ⟨hi1, rfl⟩ := rangeD_get hi
    have hi6 : i < 6 := by omega
    walk_at "ev0"
    refine ⟨by decide, take_ok b2 (by omega) (by omega) fun x bs3 x0 x1 b3 => ?_⟩
    walk_at "ev0"
    refine pick_ok (ns := [0, 1, 2, 5, 1000]) x0 (by simpa using x1) fun z hz => ?_
    refine ends_ok b3 hm (by omega) fun es bs4 e1 e2 e3 e4 b4 => ?_
    walk_at "ev0"
    refine ⟨by decide, by rw [List.length_map]; omega, s ++ [(z, es)], bs4, _, by rw [List.map_append]; rfl, b4.up (by omega), by rw [List.length_append, List.length_singleton, hl], fun c q => ?_⟩
    rcases List.mem_append.mp q with q | q
    · exact hc c q
    · rw [List.mem_singleton.mp q]
      refine ⟨?_, e1, e2, e3, e4⟩
      simp only [List.mem_cons, List.not_mem_nil, or_false] at hz
      show 0 ≤ z ∧ z ≤ 1000
      omega
  · rintro S ⟨s, bs2, g, rfl, b2, hl, hc⟩
    rw [rangeD_len] at b2 hl
    walk_at "ev0"
    exact h s bs2 (by omega) (by omega) hc (b2.up (by omega))
theorem system_ok {ts : List Int} {n q : Int} {bs : List PyData} {k : PyData × List PyData → Prop} (b : Box ts n bs) (hn : n ≤ 2 ^ 37) (hq : 1 ≤ q ∧ q ≤ 20)
    (h : ∀ (y : List (List Cho)) bs', SysOk 3 y.length y → (y.length : Int) ≤ q → Box ts (n + 10000) bs' → k (dY y, bs')) : (den_l_system bs [.int q]).okTo k := by
  unfold den_l_system body_l_system
  walk_at "ev0"
  refine seq_ok ?_
  walk_at "ev0"
  refine take_ok b (by omega) (by omega) fun r bs1 r0 r1 b1 => ?_
  obtain ⟨m, hm⟩ : ∃ m : Nat, 1 + r = (m : Int) := ⟨(1 + r).toNat, by omega⟩
  walk_at "ev0"
  rw [hm]
  refine ⟨⟨by omega, by omega⟩, by rw [rangeD_len]; omega, ?_⟩
  refine lc_ok (fun i acc S => ∃ (y : List (List Cho)) (bs : List PyData), S = [some (.own bs), some (.dat (.int q)), some (.dat (.int (m : Int))), none] ∧ acc = y.map dS ∧ Box ts (n + 1 + 400 * i) bs ∧ y.length = i ∧ ∀ s ∈ y, (1 ≤ s.length ∧ s.length ≤ 3) ∧ ∀ c ∈ s, ChoOk m m c) ?_ ?_ ⟨[], bs1, rfl, rfl, b1.up (by omega), rfl, by simp⟩
  · rintro i d acc S hi ⟨y, bs2, rfl, rfl, b2, hl, hs⟩
    obtain ⟨hi1, rfl⟩ := rangeD_get hi
    rw [Int.toNat_natCast] at hi1
    walk_at "ev0"
    rw [if_pos trivial]
    refine choices_ok b2 (by omega) (by omega) (by decide) fun s bs3 s1 s2 s3 b3 => ?_
    refine ⟨y ++ [s], bs3, rfl, by rw [List.map_append]; rfl, b3.up (by omega), by rw [List.length_append, List.length_singleton, hl], fun t q => ?_⟩
    rcases List.mem_append.mp q with q | q
    · exact hs t q
    · rw [List.mem_singleton.mp q]
      exact ⟨⟨s1, by omega⟩, s3⟩
  · rintro acc S ⟨y, bs2, rfl, rfl, b2, hl, hs⟩
    rw [rangeD_len, Int.toNat_natCast] at b2 hl
    subst hl
    walk_at "ev0"
    exact h y bs2 ⟨by omega, by omega, fun s m => (hs s m).1, fun s m => (hs s m).2⟩ (by omega) (b2.up (by omega))
end Bo

/-! ### the program's sure states: what its defs are worth -/
namespace Bo
open PySem L2
end Bo

/-! ### what can be reached: the four sets of sure states, as predicates -/
namespace Bo
section
variable (E : Nat → Nat → Nat → Prop) (U : Nat → Nat → Prop) (T : Nat → Prop)
/-- some way leads there -/
inductive Rch : Nat → Prop
  | goal {s : Nat} : T s → Rch s
  | step {s k j : Nat} : U s k → E s k j → Rch j → Rch s
/-- all ways may lead there -/
inductive Lch : Nat → Prop
  | goal {s : Nat} : T s → Lch s
  | step {s k : Nat} (f : Nat → Nat) : U s k → (∀ k, U s k → E s k (f k)) → (∀ k, U s k → Lch (f k)) → Lch s
end
section
variable {E E' : Nat → Nat → Nat → Prop} {U U' V : Nat → Nat → Prop} {T T' : Nat → Prop} {n : Nat} {s : Nat}
theorem lch_of (h : ∃ k, U s k) (g : ∀ k, U s k → ∃ j, E s k j ∧ Lch E U T j) : Lch E U T s := by
  classical
  obtain ⟨k, hk⟩ := h
  let f : Nat → Nat := fun k => if q : ∃ j, E s k j ∧ Lch E U T j then q.choose else 0
  have hf : ∀ k, U s k → E s k (f k) ∧ Lch E U T (f k) := fun k hk => by
    have q := g k hk
    show E s k (if q : ∃ j, E s k j ∧ Lch E U T j then q.choose else 0) ∧ Lch E U T (if q : ∃ j, E s k j ∧ Lch E U T j then q.choose else 0)
    rw [dif_pos q]
    exact q.choose_spec
  exact .step f hk (fun k h => (hf k h).1) (fun k h => (hf k h).2)
/-- more targets -/
structure MoreT (U U' : Nat → Nat → Prop) (T T' : Nat → Prop) : Prop where
  t : ∀ s, T s → T' s
  u : ∀ s k, U s k → T' s ∨ U' s k
  v : ∀ s k, U' s k → U s k
namespace MoreT
variable (M : MoreT U U' T T')
include M
end MoreT
/-- more states allowed -/
structure MoreA (U U' : Nat → Nat → Prop) (T : Nat → Prop) : Prop where
  u : ∀ s k, U s k → U' s k
  v : ∀ s k, U' s k → U s k ∨ ((∀ k', ¬ U s k') ∧ ¬ T s)
namespace MoreA
variable (M : MoreA U U' T)
include M
end MoreA
/-- fewer choices -/
structure Fewer (E E' : Nat → Nat → Nat → Prop) (U U' : Nat → Nat → Prop) : Prop where
  u : ∀ s k, U' s k → U s k
  e : ∀ s k j, U' s k → (E' s k j ↔ E s k j)
  x : ∀ s k, U s k → ∃ k, U' s k
namespace Fewer
variable (M : Fewer E E' U U')
include M
end Fewer
/-- one choice in each state -/
structure One (U : Nat → Nat → Prop) (T : Nat → Prop) : Prop where
  u : ∀ s k k', U s k → U s k' → k = k'
  t : ∀ s k, U s k → ¬ T s
end
end Bo

/-! ### rounds of finding -/
namespace Bo
section
variable (ev : Bool) (n : Nat) (E : Nat → Nat → Nat → Prop) (U : Nat → Nat → Prop) (T : Nat → Prop)
/-- one joins what is found -/
def Jn (F : Nat → Prop) (i : Nat) : Prop := if ev = true then (∃ k, U i k) ∧ ∀ k, U i k → ∃ j, E i k j ∧ F j else ∃ k j, U i k ∧ E i k j ∧ F j
/-- what is found in the end -/
def Gl (i : Nat) : Prop := if ev = true then Lch E U T i else Rch E U T i
/-- what is found by f -/
def Fn (f : Nat → Option Nat) (j : Nat) : Prop := j < n ∧ (f j).isSome = true
structure LvI (f : Nat → Option Nat) (r : Nat) : Prop where
  sound : ∀ i, i < n → ∀ q, f i = some q → q ≤ r ∧ Gl ev E U T i
  goals : ∀ i, i < n → T i → (f i).isSome = true
  close : (∃ i, i < n ∧ f i = some r) ∨ ∀ i, i < n → f i = none → ¬ Jn ev E U (Fn n f) i
  low : ∀ i, i < n → ∀ q, f i = some q → (T i ∧ q = 0) ∨ Jn ev E U (fun j => j < n ∧ ∃ p, f j = some p ∧ p < q) i
end
section
variable {ev : Bool} {n : Nat} {E : Nat → Nat → Nat → Prop} {U : Nat → Nat → Prop} {T : Nat → Prop} {f : Nat → Option Nat} {r : Nat} {F : Nat → Prop} {i : Nat}
theorem jn_sound (h : ∀ j, F j → Gl ev E U T j) (q : Jn ev E U F i) : Gl ev E U T i := by
  unfold Jn at q
  unfold Gl at h ⊢
  split at q
  · rename_i c
    simp only [c, if_true] at h ⊢
    exact lch_of q.1 fun k u => (q.2 k u).imp fun j z => ⟨z.1, h j z.2⟩
  · rename_i c
    simp only [c] at h ⊢
    obtain ⟨k, j, u, e, z⟩ := q
    exact .step u e (h j z)
theorem jn_full (hT : ∀ i, T i → F i) (hU : ∀ s k, U s k → s < n) (h : ∀ i, i < n → ¬ F i → ¬ Jn ev E U F i) (q : Gl ev E U T i) : F i := by
  unfold Jn at h
  unfold Gl at q
  cases ev with
  | true =>
    simp only [if_true] at h q
    induction q with
    | goal t => exact hT _ t
    | @step s k f u e _ ih => exact Classical.byContradiction fun z => h s (hU _ _ u) z ⟨⟨k, u⟩, fun k u => ⟨f k, e k u, ih k u⟩⟩
  | false =>
    simp only [Bool.false_eq_true, if_false] at h q
    induction q with
    | goal t => exact hT _ t
    | @step s k j u e _ ih => exact Classical.byContradiction fun z => h s (hU _ _ u) z ⟨k, j, u, e, ih⟩
theorem fn_none (h : i < n) (q : f i = none) : ¬ Fn n f i := fun z => by
  have := z.2
  rw [q] at this
  cases this
theorem fn_of (h : i < n) (q : ¬ Fn n f i) : f i = none := by
  cases e : f i with
  | none => rfl
  | some a => exact absurd ⟨h, by rw [e]; rfl⟩ q
/-- in the end -/
theorem LvI.done (I : LvI ev n E U T f r) (hT : ∀ i, T i → i < n) (hU : ∀ s k, U s k → s < n) (h : ¬ ∃ i, i < n ∧ f i = some r) (hi : i < n) : (f i).isSome = true ↔ Gl ev E U T i := by
  have hc := I.close.resolve_left h
  constructor
  · intro z
    cases e : f i with
    | none => rw [e] at z; cases z
    | some q => exact (I.sound i hi q e).2
  · intro g
    exact (jn_full (F := Fn n f) (fun i t => ⟨hT i t, I.goals i (hT i t) t⟩) hU (fun i hi q => hc i hi (fn_of hi q)) g).2
theorem jn_mono {F F' : Nat → Prop} (h : ∀ j, F j → F' j) (q : Jn ev E U F i) : Jn ev E U F' i := by
  unfold Jn at q ⊢
  split at q
  · rename_i c
    rw [if_pos c]
    exact ⟨q.1, fun k u => let ⟨j, e, z⟩ := q.2 k u; ⟨j, e, h j z⟩⟩
  · rename_i c
    rw [if_neg c]
    obtain ⟨k, j, u, e, z⟩ := q
    exact ⟨k, j, u, e, h j z⟩
/-- a round -/
def nextF (g : Nat → Bool) (f : Nat → Option Nat) (r : Nat) : Nat → Option Nat := fun i => if g i = true then some (r + 1) else f i
theorem LvI.next (I : LvI ev n E U T f r) {g : Nat → Bool} (hg : ∀ i, i < n → (g i = true ↔ f i = none ∧ Jn ev E U (Fn n f) i)) : LvI ev n E U T (nextF g f r) (r + 1) := by
  have gl : ∀ j, Fn n f j → Gl ev E U T j := fun j z => by
    cases e : f j with
    | none => exact absurd z (fn_none z.1 e)
    | some q => exact (I.sound j z.1 q e).2
  have keep : ∀ j p, j < n → f j = some p → nextF g f r j = some p := fun j p hj e => by
    unfold nextF
    rw [if_neg, e]
    intro c
    rw [((hg j hj).mp c).1] at e
    cases e
  refine ⟨fun i hi q e => ?_, fun i hi t => ?_, ?_, fun i hi q e => ?_⟩
  · unfold nextF at e
    split at e
    · rename_i c
      cases e
      exact ⟨Nat.le_refl _, jn_sound gl ((hg i hi).mp c).2⟩
    · obtain ⟨h1, h2⟩ := I.sound i hi q e
      exact ⟨by omega, h2⟩
  · unfold nextF
    split
    · rfl
    · exact I.goals i hi t
  · by_cases c : ∃ i, i < n ∧ g i = true
    · obtain ⟨i, hi, c⟩ := c
      exact .inl ⟨i, hi, if_pos c⟩
    · have same : ∀ i, i < n → nextF g f r i = f i := fun i hi => if_neg fun z => c ⟨i, hi, z⟩
      refine .inr fun i hi e q => c ⟨i, hi, (hg i hi).mpr ⟨by rw [← same i hi]; exact e, ?_⟩⟩
      have ef : Fn n (nextF g f r) = Fn n f := by
        funext j
        unfold Fn
        refine propext ⟨fun z => ⟨z.1, ?_⟩, fun z => ⟨z.1, ?_⟩⟩
        · rw [← same j z.1]; exact z.2
        · rw [same j z.1]; exact z.2
      rw [ef] at q
      exact q
  · by_cases c : g i = true
    · have e' : nextF g f r i = some (r + 1) := if_pos c
      rw [e'] at e
      cases e
      refine .inr (jn_mono (fun j z => ?_) ((hg i hi).mp c).2)
      cases ej : f j with
      | none => exact absurd z (fn_none z.1 ej)
      | some p => exact ⟨z.1, p, keep j p z.1 ej, by have := (I.sound j z.1 p ej).1; omega⟩
    · have e' : nextF g f r i = f i := if_neg c
      rw [e'] at e
      rcases I.low i hi q e with z | z
      · exact .inl z
      · exact .inr (jn_mono (fun j ⟨hj, p, ep, lt⟩ => ⟨hj, p, keep j p hj ep, lt⟩) z)
end
end Bo

namespace Bo
open PySem L2
local macro_rules | `(tactic| walk_at "wv1") => `(tactic| (first
  | ((with_reducible refine w_var (d := ?wd) ?wh ?wq); (case wh => exact rfl))
  | with_reducible refine w_cons ?_
  | with_reducible refine w_nil ?_
  | with_reducible refine w_op ?_
  | with_reducible refine w_c ?_
  | with_reducible refine w_aName ?_
  | with_reducible refine w_seq ?_
  | with_reducible refine w_asg ?_
  | with_reducible refine w_toB ?_
  | with_reducible refine w_callP ?_
  | with_reducible refine w_tst ?_
  | with_reducible refine w_gIxT ?_
  | with_reducible refine w_call ?_
  | with_reducible refine w_ret ?_
  | with_reducible refine w_ifS ?_
  | with_reducible refine w_next ?_
  | ((with_reducible refine w_own (ds := ?wd) ?wh ?wq); (case wh => exact rfl))
  | with_reducible refine w_for ?_
  | with_reducible refine w_fr ?_
  | with_reducible refine w_lc ?_
  | with_reducible refine w_tup ?_
  | with_reducible refine w_iter ?_
  | with_reducible refine w_itFT ?_
  | with_reducible refine w_aCons ?_
  | with_reducible refine w_gIxL ?_
  | with_reducible refine w_tnot ?_
  | with_reducible refine w_tor ?_
  | with_reducible refine w_range1 ?_
  | with_reducible refine w_yes ?_
  | with_reducible refine w_itTT ?_
  | with_reducible refine w_iterT ?_
  | with_reducible refine w_lst ?_
  | with_reducible refine w_toI ?_
  | with_reducible refine w_ownS ?_
  | with_reducible refine w_aTup rfl ?_
  | with_reducible refine w_aNil ?_
  | ((with_reducible refine w_frz (ds := ?wd) ?wh ?wq); (case wh => exact rfl))
  | with_reducible refine w_itT ?_
  | with_reducible refine w_tand ?_
  | with_reducible refine w_gEqI ?_
  | with_reducible refine w_gNeI ?_
  | with_reducible refine w_gLenT ?_
  | with_reducible refine w_lstF ?_
  | with_reducible refine w_callB ?_
  | with_reducible refine w_app ?_
  | with_reducible refine w_setI ?_
  | with_reducible refine w_gNeD ?_
  | with_reducible refine w_gEqD ?_
  | with_reducible refine w_drop ?_
  | with_reducible refine w_gIB ?_
  | with_reducible refine w_gBools ?_
  | with_reducible refine w_and ?_
  | with_reducible refine w_isN ?_
  | with_reducible refine w_or ?_
  | with_reducible refine w_ixO ?_
  | with_reducible refine w_gI ?_
  | with_reducible refine w_gLenL ?_
  | with_reducible refine w_gTuple ?_
  | with_reducible refine w_gInts ?_
  | with_reducible refine w_un ?_
  | with_reducible refine w_if ?_
  | with_reducible refine w_chain ?_
  | ((with_reducible refine w_callS (ns := ?wd) ?wh ?wq); (case wh => exact rfl))
  | with_reducible refine w_sl ?_
  | with_reducible refine w_noPart ?_
  | with_reducible refine w_part ?_
  | with_reducible refine w_listRg ?_
  | with_reducible refine w_enumK ?_
  | with_reducible refine w_repF ?_
  | with_reducible refine w_gIC ?_
  | with_reducible refine w_gCat ?_
  | with_reducible refine w_gCatT ?_
  | with_reducible refine w_notN ?_
  | with_reducible refine w_listF ?_
  | with_reducible refine w_neg ?_
  | with_reducible refine w_not ?_
  | with_reducible refine w_tru ?_
  | with_reducible refine w_callL ?_
  | with_reducible refine w_consO ?_
  | with_reducible refine w_lenO ?_
  | with_reducible refine w_tupleO ?_
  | with_reducible refine w_listO ?_
  | with_reducible refine w_inO ?_
  | with_reducible refine w_truO ?_
  | with_reducible refine w_zipK ?_
  | with_reducible refine w_retN ?_
  | ((with_reducible refine w_aug (a := ?wd) ?wh ?wq); (case wh => exact rfl))
  | with_reducible refine w_gInL ?_
  | with_reducible refine w_gIntI ?_
  | with_reducible refine w_gRevL ?_
  | with_reducible refine w_gSlL ?_
  | with_reducible refine w_gSlT ?_
  | with_reducible refine w_itF ?_
  | with_reducible refine w_gList ?_
  | with_reducible refine w_gSortI ?_
  | with_reducible refine w_range2 ?_
  | ((with_reducible refine w_lcO (ds := ?wd) ?wh ?wq ?wr); (case wh => exact rfl); (case wq => exact rfl))
  | with_reducible refine w_aUnl rfl ?_
  | with_reducible refine w_brk ?_
  | with_reducible refine w_cnt ?_
  | with_reducible refine w_gIntB ?_
  | simp only [wipeS, backS, List.set_cons_zero, List.set_cons_succ, List.getElem?_cons_zero, List.getElem?_cons_succ, Option.join_some, Option.join_none, Bool.not_true, Bool.not_false]))
local macro_rules | `(tactic| walk_at "wv") => `(tactic| ((repeat (walk_at "wv1"; try dsimp only)); try simp only [List.set_cons_zero, List.set_cons_succ]))
local macro_rules | `(tactic| walk_at "st") => `(tactic| simp only [startS, List.map_cons, List.map_nil, List.length_cons, List.length_nil, Nat.reduceAdd, Nat.reduceSub, List.replicate_succ, List.replicate_zero, List.cons_append, List.nil_append])

section
open PySem L2
local macro_rules | `(tactic| walk_at "ev0") => `(tactic| simp only [okTo_bind, okTo_ok, okTo_noErr, okTo_when, R.bind_ok, seqF, vAsg, vVar, vC, vOp, vUn, vCall, vCons, vNil, vTup, vLst, vFr, vLstF, vTst, toB, toI, gI, gIC, gIB, gNeg, gInt, gLen, gEq, gNe, eqF, vAnd, vOr, vNot, tNotF, vYes, gTuple, gList, gRevL, wipeS, backS, okS, vIfS, vIf, vNext, vRet, vRetN, vDrop, vOwn, vFrz, frzS, aName, aTup, aCons, aNil, vFor, vScr, vRange1, vApp, ownD, vIxO, vSetI, gIxL, gIxT, vInO, vCallP, vCallB, vCallL, vConsO, vTupleO, vListO, vLenO, vLc, vLcO, vIter, vIterT, vEnumK, kdD, listD, tupleD, vListRg, vRepF, vAug, List.getElem?_cons_zero, List.getElem?_cons_succ, List.set_cons_zero, List.set_cons_succ, List.length_cons, List.length_nil, startS, List.map_cons, List.map_nil, List.replicate_succ, List.replicate_zero, List.cons_append, List.nil_append, denP, denB, denS, endP, endB, Nat.sub_self, Nat.reduceSub, Nat.reduceAdd, List.all_cons, List.all_nil, Bool.and_true, SV.mine, Bool.not_false, Option.join_some, true_and, and_true])
/-! ### lists of data, levels -/
/-! ### choices on the way -/
def EndsIn (m : Nat) (c : Cho) : Prop := c.2.length ≤ 1000 ∧ ∀ e ∈ c.2, 0 ≤ e.1 ∧ e.1 < (m : Int)
/-! ### one joins what is found -/

end
section
/-! ### rounds of finding, as the program makes them -/
open PySem L2
section
variable {n : Nat} {f g : Nat → Option Nat} {i j : Nat}
end
structure YOk (y : List (List Cho)) : Prop where
  len : y.length ≤ 20
  st : ∀ s ∈ y, s.length ≤ 1000
  cho : ∀ s ∈ y, ∀ c ∈ s, EndsIn y.length c
structure UOk (y : List (List Cho)) (U : List (List Nat)) : Prop where
  len : U.length = y.length
  lt : ∀ (i : Nat) s u, y[i]? = some s → U[i]? = some u → u.length ≤ 1000 ∧ ∀ x ∈ u, x < s.length
section
variable {y : List (List Cho)} {U : List (List Nat)} {lv : List (Option Nat)} {i k : Nat} {s : List Cho} {u : List Nat} {c : Cho}
end

end
section
/-! ### the four sets -/
open PySem L2
structure TOk (y : List (List Cho)) (tg : List Int) : Prop where
  mem : ∀ x ∈ tg, 0 ≤ x ∧ x < (y.length : Int)
  len : tg.length ≤ 1000

end
section
/-! ### attainable: choices are given up -/
open PySem L2
section
variable {lv : List (Option Nat)} {y : List (List Cho)} {U : List (List Nat)}
end

end
end Bo
/-! ### of lists and systems -/
namespace Bo
open PySem L2
theorem w_listF {fa : VE} {S : SS} {kA : List PyData × SS → Prop} (h : (fa S).okTo fun p => ∃ ds, itemsD p.1 = some ds ∧ kA (ds, p.2)) : (vListF fa S).okTo kA := by
  unfold vListF
  rw [okTo_bind]
  refine h.mono fun p ⟨ds, e, q⟩ => ?_
  rw [e]
  exact q
end Bo

/-! ### the mathematics of fractions (as in the older texts of ours) -/
namespace Bo
open PySem L2
/-! ### lowest terms -/
def rN (n d : Int) : Int := (if d < 0 then -n else n) / (Int.gcd n d : Int)
def rD (n d : Int) : Int := (d.natAbs : Int) / (Int.gcd n d : Int)
theorem gcd_pos {n d : Int} (h : d ≠ 0) : (0 : Int) < (Int.gcd n d : Int) := by
  have : 0 < Int.gcd n d := Int.gcd_pos_iff.mpr (.inr h)
  omega
theorem div_le_abs (a : Int) {g : Int} (hg : 0 < g) : (a / g).natAbs ≤ a.natAbs := by
  obtain ⟨k, rfl⟩ : ∃ k : Nat, g = k := ⟨g.toNat, by omega⟩
  exact Int.natAbs_ediv_le_natAbs a k
theorem rN_le {n d : Int} (h : d ≠ 0) : (rN n d).natAbs ≤ n.natAbs := by
  have hg := gcd_pos (n := n) h
  unfold rN
  refine Nat.le_trans (div_le_abs _ hg) ?_
  split <;> omega
theorem rD_le {n d : Int} (h : d ≠ 0) : (rD n d).natAbs ≤ d.natAbs := by
  have hg := gcd_pos (n := n) h
  unfold rD
  refine Nat.le_trans (div_le_abs _ hg) ?_
  omega
/-! ### Euclid's way as the law walks it -/
/-- behind i steps: the divisor is kept, the product falls -/
structure Eu (g : Nat) (P : Nat) (i : Nat) (a b : Int) : Prop where
  a0 : 0 ≤ a
  b0 : 0 < b
  gc : Int.gcd a b = g
  pr : 0 < i → a < b
  fall : a.toNat * b.toNat * 2 ^ (i - 1) ≤ P
theorem gcd_mod0 (a b : Int) : Int.gcd (b % a) a = Int.gcd a b := by
  have e : b % a = b - a * (b / a) := Int.emod_def b a
  refine Nat.dvd_antisymm ?_ ?_
  · have h1 := Int.gcd_dvd_left (a := b % a) (b := a)
    have h2 := Int.gcd_dvd_right (a := b % a) (b := a)
    have h3 : ((Int.gcd (b % a) a : Nat) : Int) ∣ b := by
      have h4 := Int.dvd_add h1 (Int.dvd_trans h2 (Int.dvd_mul_right a (b / a)))
      rw [Int.emod_add_mul_ediv] at h4
      exact h4
    exact Int.dvd_gcd h2 h3
  · have h1 := Int.gcd_dvd_left (a := a) (b := b)
    have h2 := Int.gcd_dvd_right (a := a) (b := b)
    have h3 : ((Int.gcd a b : Nat) : Int) ∣ b % a := by
      rw [e]
      exact Int.dvd_sub h2 (Int.dvd_trans h1 (Int.dvd_mul_right a _))
    exact Int.dvd_gcd h3 h1
theorem Eu.step {g P i : Nat} {a b : Int} (e : Eu g P i a b) (h : a ≠ 0) : Eu g P (i + 1) (b.fmod a) a := by
  obtain ⟨a0, b0, gc, pr, fall⟩ := e
  have ha : 0 < a := by omega
  have em : b.fmod a = b % a := Int.fmod_eq_emod_of_nonneg b (by omega)
  rw [em]
  have m0 := Int.emod_nonneg b h
  have m1 := Int.emod_lt_of_pos b ha
  refine ⟨m0, ha, ?_, fun _ => m1, ?_⟩
  · rw [← gc]
    exact gcd_mod0 a b
  · show (b % a).toNat * a.toNat * 2 ^ i ≤ P
    refine Nat.le_trans ?_ fall
    cases i with
    | zero =>
      show (b % a).toNat * a.toNat * 1 ≤ a.toNat * b.toNat * 1
      rw [Nat.mul_one, Nat.mul_one, Nat.mul_comm]
      have hle : b % a ≤ b := by
        by_cases hb : b < a
        · rw [Int.emod_eq_of_lt (by omega) hb]
          exact Int.le_refl _
        · omega
      exact Nat.mul_le_mul_left _ (by omega)
    | succ j =>
      have hab := pr (by omega)
      have hq : a + b % a ≤ b := by
        have h1 := Int.mul_ediv_add_emod b a
        have h2 : 1 ≤ b / a := Int.le_ediv_of_mul_le ha (by omega)
        have h3 : a * 1 ≤ a * (b / a) := Int.mul_le_mul_of_nonneg_left h2 (by omega)
        omega
      have h2 : 2 * (b % a).toNat ≤ b.toNat := by omega
      show (b % a).toNat * a.toNat * 2 ^ (j + 1) ≤ a.toNat * b.toNat * 2 ^ j
      rw [Nat.pow_succ, ← Nat.mul_assoc, Nat.mul_right_comm _ _ 2]
      refine Nat.mul_le_mul_right _ ?_
      rw [Nat.mul_comm ((b % a).toNat * a.toNat) 2, ← Nat.mul_assoc, Nat.mul_comm (2 * (b % a).toNat)]
      exact Nat.mul_le_mul_left _ h2
theorem Eu.done {g P i : Nat} {a b : Int} (e : Eu g P i a b) (h : P < 2 ^ (i - 1)) : a = 0 := by
  obtain ⟨a0, b0, gc, pr, fall⟩ := e
  by_cases ha : a = 0
  · exact ha
  · exfalso
    have h1 : 1 ≤ a.toNat * b.toNat := Nat.mul_pos (by omega) (by omega)
    have h2 := Nat.mul_le_mul_right (2 ^ (i - 1)) h1
    omega
theorem Eu.zero {g P i : Nat} {a b : Int} (e : Eu g P i a b) (h : a = 0) : b = (g : Int) := by
  obtain ⟨a0, b0, gc, pr, fall⟩ := e
  subst h
  rw [Int.gcd_zero_left] at gc
  omega

/-! ### fractions as rationals -/
theorem rN_rat {n d : Int} (h : d ≠ 0) : rN n d = (Rat.divInt n d).num := by
  rw [Rat.num_divInt, Int.gcd_comm]
  unfold rN
  by_cases c : d < 0
  · rw [if_pos c, Int.sign_eq_neg_one_of_neg c, Int.neg_one_mul]
  · rw [if_neg c, Int.sign_eq_one_of_pos (by omega), Int.one_mul]
theorem rD_rat {n d : Int} (h : d ≠ 0) : rD n d = ((Rat.divInt n d).den : Int) := by
  rw [Rat.den_divInt, if_neg h, Int.gcd_comm]
  unfold rD
  rw [Int.natCast_ediv]
end Bo

/-! ### fractions: what their defs are worth -/
namespace Bo
open PySem L2
noncomputable section
end
end Bo

/-! ### fractions: what their defs answer -/
namespace Bo
open PySem L2
theorem w_neg {a : Int} {kD : PyData → Prop} (q : kD (.int (-a))) : (gNeg (.int a)).okTo kD := q
theorem w_brk {S : SS} {kS : FL → Prop} (q : kS (.bk S)) : (vBrk S).okTo kS := q
theorem w_cnt {S : SS} {kS : FL → Prop} (q : kS (.ct S)) : (vCnt S).okTo kS := q
local macro_rules | `(tactic| walk_at "wv1") => `(tactic| (first
  | ((with_reducible refine w_var (d := ?wd) ?wh ?wq); (case wh => exact rfl))
  | with_reducible refine w_cons ?_
  | with_reducible refine w_nil ?_
  | with_reducible refine w_op ?_
  | with_reducible refine w_c ?_
  | with_reducible refine w_aName ?_
  | with_reducible refine w_seq ?_
  | with_reducible refine w_asg ?_
  | with_reducible refine w_toB ?_
  | with_reducible refine w_callP ?_
  | with_reducible refine w_tst ?_
  | with_reducible refine w_gIxT ?_
  | with_reducible refine w_call ?_
  | with_reducible refine w_ret ?_
  | with_reducible refine w_ifS ?_
  | with_reducible refine w_next ?_
  | ((with_reducible refine w_own (ds := ?wd) ?wh ?wq); (case wh => exact rfl))
  | with_reducible refine w_for ?_
  | with_reducible refine w_fr ?_
  | with_reducible refine w_lc ?_
  | with_reducible refine w_tup ?_
  | with_reducible refine w_iter ?_
  | with_reducible refine w_itFT ?_
  | with_reducible refine w_aCons ?_
  | with_reducible refine w_gIxL ?_
  | with_reducible refine w_tnot ?_
  | with_reducible refine w_tor ?_
  | with_reducible refine w_range1 ?_
  | with_reducible refine w_yes ?_
  | with_reducible refine w_itTT ?_
  | with_reducible refine w_iterT ?_
  | with_reducible refine w_lst ?_
  | with_reducible refine w_toI ?_
  | with_reducible refine w_ownS ?_
  | with_reducible refine w_aTup rfl ?_
  | with_reducible refine w_aNil ?_
  | ((with_reducible refine w_frz (ds := ?wd) ?wh ?wq); (case wh => exact rfl))
  | with_reducible refine w_itT ?_
  | with_reducible refine w_tand ?_
  | with_reducible refine w_gEqI ?_
  | with_reducible refine w_gNeI ?_
  | with_reducible refine w_gLenT ?_
  | with_reducible refine w_lstF ?_
  | with_reducible refine w_callB ?_
  | with_reducible refine w_app ?_
  | with_reducible refine w_setI ?_
  | with_reducible refine w_gNeD ?_
  | with_reducible refine w_gEqD ?_
  | with_reducible refine w_drop ?_
  | with_reducible refine w_gIB ?_
  | with_reducible refine w_gBools ?_
  | with_reducible refine w_and ?_
  | with_reducible refine w_isN ?_
  | with_reducible refine w_or ?_
  | with_reducible refine w_ixO ?_
  | with_reducible refine w_gI ?_
  | with_reducible refine w_gLenL ?_
  | with_reducible refine w_gTuple ?_
  | with_reducible refine w_gInts ?_
  | with_reducible refine w_un ?_
  | with_reducible refine w_if ?_
  | with_reducible refine w_chain ?_
  | ((with_reducible refine w_callS (ns := ?wd) ?wh ?wq); (case wh => exact rfl))
  | with_reducible refine w_sl ?_
  | with_reducible refine w_noPart ?_
  | with_reducible refine w_part ?_
  | with_reducible refine w_listRg ?_
  | with_reducible refine w_enumK ?_
  | with_reducible refine w_repF ?_
  | with_reducible refine w_gIC ?_
  | with_reducible refine w_gCat ?_
  | with_reducible refine w_gCatT ?_
  | with_reducible refine w_notN ?_
  | with_reducible refine w_listF ?_
  | with_reducible refine w_neg ?_
  | with_reducible refine w_not ?_
  | with_reducible refine w_tru ?_
  | with_reducible refine w_callL ?_
  | with_reducible refine w_consO ?_
  | with_reducible refine w_lenO ?_
  | with_reducible refine w_tupleO ?_
  | with_reducible refine w_listO ?_
  | with_reducible refine w_inO ?_
  | with_reducible refine w_truO ?_
  | with_reducible refine w_zipK ?_
  | with_reducible refine w_retN ?_
  | ((with_reducible refine w_aug (a := ?wd) ?wh ?wq); (case wh => exact rfl))
  | with_reducible refine w_gInL ?_
  | with_reducible refine w_gIntI ?_
  | with_reducible refine w_gRevL ?_
  | with_reducible refine w_gSlL ?_
  | with_reducible refine w_gSlT ?_
  | with_reducible refine w_itF ?_
  | with_reducible refine w_gList ?_
  | with_reducible refine w_gSortI ?_
  | with_reducible refine w_range2 ?_
  | ((with_reducible refine w_lcO (ds := ?wd) ?wh ?wq ?wr); (case wh => exact rfl); (case wq => exact rfl))
  | with_reducible refine w_aUnl rfl ?_
  | with_reducible refine w_brk ?_
  | with_reducible refine w_cnt ?_
  | with_reducible refine w_gIntB ?_
  | simp only [wipeS, backS, List.set_cons_zero, List.set_cons_succ, List.getElem?_cons_zero, List.getElem?_cons_succ, Option.join_some, Option.join_none, Bool.not_true, Bool.not_false]))
local macro_rules | `(tactic| walk_at "wv") => `(tactic| ((repeat (walk_at "wv1"; try dsimp only)); try simp only [List.set_cons_zero, List.set_cons_succ]))
local macro_rules | `(tactic| walk_at "st") => `(tactic| simp only [startS, List.map_cons, List.map_nil, List.length_cons, List.length_nil, Nat.reduceAdd, Nat.reduceSub, List.replicate_succ, List.replicate_zero, List.cons_append, List.nil_append])

end Bo

namespace Bo
open PySem L2
local macro_rules | `(tactic| walk_at "wv1") => `(tactic| (first
  | ((with_reducible refine w_var (d := ?wd) ?wh ?wq); (case wh => exact rfl))
  | with_reducible refine w_cons ?_
  | with_reducible refine w_nil ?_
  | with_reducible refine w_op ?_
  | with_reducible refine w_c ?_
  | with_reducible refine w_aName ?_
  | with_reducible refine w_seq ?_
  | with_reducible refine w_asg ?_
  | with_reducible refine w_toB ?_
  | with_reducible refine w_callP ?_
  | with_reducible refine w_tst ?_
  | with_reducible refine w_gIxT ?_
  | with_reducible refine w_call ?_
  | with_reducible refine w_ret ?_
  | with_reducible refine w_ifS ?_
  | with_reducible refine w_next ?_
  | ((with_reducible refine w_own (ds := ?wd) ?wh ?wq); (case wh => exact rfl))
  | with_reducible refine w_for ?_
  | with_reducible refine w_fr ?_
  | with_reducible refine w_lc ?_
  | with_reducible refine w_tup ?_
  | with_reducible refine w_iter ?_
  | with_reducible refine w_itFT ?_
  | with_reducible refine w_aCons ?_
  | with_reducible refine w_gIxL ?_
  | with_reducible refine w_tnot ?_
  | with_reducible refine w_tor ?_
  | with_reducible refine w_range1 ?_
  | with_reducible refine w_yes ?_
  | with_reducible refine w_itTT ?_
  | with_reducible refine w_iterT ?_
  | with_reducible refine w_lst ?_
  | with_reducible refine w_toI ?_
  | with_reducible refine w_ownS ?_
  | with_reducible refine w_aTup rfl ?_
  | with_reducible refine w_aNil ?_
  | ((with_reducible refine w_frz (ds := ?wd) ?wh ?wq); (case wh => exact rfl))
  | with_reducible refine w_itT ?_
  | with_reducible refine w_tand ?_
  | with_reducible refine w_gEqI ?_
  | with_reducible refine w_gNeI ?_
  | with_reducible refine w_gLenT ?_
  | with_reducible refine w_lstF ?_
  | with_reducible refine w_callB ?_
  | with_reducible refine w_app ?_
  | with_reducible refine w_setI ?_
  | with_reducible refine w_gNeD ?_
  | with_reducible refine w_gEqD ?_
  | with_reducible refine w_drop ?_
  | with_reducible refine w_gIB ?_
  | with_reducible refine w_gBools ?_
  | with_reducible refine w_and ?_
  | with_reducible refine w_isN ?_
  | with_reducible refine w_or ?_
  | with_reducible refine w_ixO ?_
  | with_reducible refine w_gI ?_
  | with_reducible refine w_gLenL ?_
  | with_reducible refine w_gTuple ?_
  | with_reducible refine w_gInts ?_
  | with_reducible refine w_un ?_
  | with_reducible refine w_if ?_
  | with_reducible refine w_chain ?_
  | ((with_reducible refine w_callS (ns := ?wd) ?wh ?wq); (case wh => exact rfl))
  | with_reducible refine w_sl ?_
  | with_reducible refine w_noPart ?_
  | with_reducible refine w_part ?_
  | with_reducible refine w_listRg ?_
  | with_reducible refine w_enumK ?_
  | with_reducible refine w_repF ?_
  | with_reducible refine w_gIC ?_
  | with_reducible refine w_gCat ?_
  | with_reducible refine w_gCatT ?_
  | with_reducible refine w_notN ?_
  | with_reducible refine w_listF ?_
  | with_reducible refine w_neg ?_
  | with_reducible refine w_not ?_
  | with_reducible refine w_tru ?_
  | with_reducible refine w_callL ?_
  | with_reducible refine w_consO ?_
  | with_reducible refine w_lenO ?_
  | with_reducible refine w_tupleO ?_
  | with_reducible refine w_listO ?_
  | with_reducible refine w_inO ?_
  | with_reducible refine w_truO ?_
  | with_reducible refine w_zipK ?_
  | with_reducible refine w_retN ?_
  | ((with_reducible refine w_aug (a := ?wd) ?wh ?wq); (case wh => exact rfl))
  | with_reducible refine w_gInL ?_
  | with_reducible refine w_gIntI ?_
  | with_reducible refine w_gRevL ?_
  | with_reducible refine w_gSlL ?_
  | with_reducible refine w_gSlT ?_
  | with_reducible refine w_itF ?_
  | with_reducible refine w_gList ?_
  | with_reducible refine w_gSortI ?_
  | with_reducible refine w_range2 ?_
  | ((with_reducible refine w_lcO (ds := ?wd) ?wh ?wq ?wr); (case wh => exact rfl); (case wq => exact rfl))
  | with_reducible refine w_aUnl rfl ?_
  | with_reducible refine w_brk ?_
  | with_reducible refine w_cnt ?_
  | with_reducible refine w_gIntB ?_
  | simp only [wipeS, backS, List.set_cons_zero, List.set_cons_succ, List.getElem?_cons_zero, List.getElem?_cons_succ, Option.join_some, Option.join_none, Bool.not_true, Bool.not_false]))
local macro_rules | `(tactic| walk_at "wv") => `(tactic| ((repeat (walk_at "wv1"; try dsimp only)); try simp only [List.set_cons_zero, List.set_cons_succ]))
local macro_rules | `(tactic| walk_at "st") => `(tactic| simp only [startS, List.map_cons, List.map_nil, List.length_cons, List.length_nil, Nat.reduceAdd, Nat.reduceSub, List.replicate_succ, List.replicate_zero, List.cons_append, List.nil_append])

section
/-! ### the sum of fractions (as in VfE, without k04's own) -/
open PySem L2
def Bq4 (q : Rat) : Prop := q.num.natAbs < 2 ^ 3000 ∧ q.den < 2 ^ 3000

end
end Bo
/-! ### solve: the worth of its defs, as gen2 reads them -/
namespace Bo
open PySem L2
noncomputable section
end
end Bo

/-! ### chains: the worth of the program's defs, as gen2 reads them -/
namespace Bo
open PySem L2
noncomputable section
end
end Bo

/-! ### fractions over one denominator: how great they can be -/
namespace Bo
/-- s times q is whole, and no greater than b -/
def Pd (s b : Nat) (q : Rat) : Prop := ∃ m : Int, q * (s : Rat) = (m : Rat) ∧ m.natAbs ≤ b
theorem Pd.zero (s b : Nat) : Pd s b 0 := ⟨0, by rw [Rat.zero_mul]; rfl, Nat.zero_le b⟩
theorem Pd.one : Pd 1 1 1 := ⟨1, by rw [Rat.one_mul]; rfl, Nat.le_refl 1⟩
theorem Pd.mono {s b c : Nat} {q : Rat} (h : Pd s b q) (l : b ≤ c) : Pd s c q :=
  let ⟨m, e, n⟩ := h
  ⟨m, e, Nat.le_trans n l⟩
theorem Pd.neg {s b : Nat} {q : Rat} (h : Pd s b q) : Pd s b (-q) := by
  obtain ⟨m, e, n⟩ := h
  refine ⟨-m, ?_, by omega⟩
  rw [Rat.neg_mul, e, Rat.intCast_neg]
theorem Pd.add {s b c : Nat} {q r : Rat} (h : Pd s b q) (g : Pd s c r) : Pd s (b + c) (q + r) := by
  obtain ⟨m, e, n⟩ := h
  obtain ⟨k, f, l⟩ := g
  refine ⟨m + k, ?_, by omega⟩
  rw [Rat.add_mul, e, f, Rat.intCast_add]
theorem Pd.mul {s t b c : Nat} {q r : Rat} (h : Pd s b q) (g : Pd t c r) : Pd (s * t) (b * c) (q * r) := by
  obtain ⟨m, e, n⟩ := h
  obtain ⟨k, f, l⟩ := g
  refine ⟨m * k, ?_, by rw [Int.natAbs_mul]; exact Nat.mul_le_mul n l⟩
  rw [Rat.natCast_mul, Rat.intCast_mul, ← e, ← f]
  grind
theorem Pd.of {m : Int} {s b : Nat} (hs : s ≠ 0) (h : m.natAbs ≤ b) : Pd s b (Rat.divInt m s) := by
  refine ⟨m, ?_, h⟩
  rw [Rat.divInt_eq_div, Rat.intCast_natCast]
  have : (s : Rat) ≠ 0 := by exact_mod_cast hs
  grind
theorem Pd.eq {s b : Nat} {q : Rat} (hs : s ≠ 0) (h : Pd s b q) : ∃ m : Int, q = Rat.divInt m s ∧ m.natAbs ≤ b := by
  obtain ⟨m, e, n⟩ := h
  refine ⟨m, ?_, n⟩
  rw [Rat.divInt_eq_div, Rat.intCast_natCast, ← e]
  have : (s : Rat) ≠ 0 := by exact_mod_cast hs
  grind
end Bo

namespace Bo
open PySem L2
local macro_rules | `(tactic| walk_at "wv1") => `(tactic| (first
  | ((with_reducible refine w_var (d := ?wd) ?wh ?wq); (case wh => exact rfl))
  | with_reducible refine w_cons ?_
  | with_reducible refine w_nil ?_
  | with_reducible refine w_op ?_
  | with_reducible refine w_c ?_
  | with_reducible refine w_aName ?_
  | with_reducible refine w_seq ?_
  | with_reducible refine w_asg ?_
  | with_reducible refine w_toB ?_
  | with_reducible refine w_callP ?_
  | with_reducible refine w_tst ?_
  | with_reducible refine w_gIxT ?_
  | with_reducible refine w_call ?_
  | with_reducible refine w_ret ?_
  | with_reducible refine w_ifS ?_
  | with_reducible refine w_next ?_
  | ((with_reducible refine w_own (ds := ?wd) ?wh ?wq); (case wh => exact rfl))
  | with_reducible refine w_for ?_
  | with_reducible refine w_fr ?_
  | with_reducible refine w_lc ?_
  | with_reducible refine w_tup ?_
  | with_reducible refine w_iter ?_
  | with_reducible refine w_itFT ?_
  | with_reducible refine w_aCons ?_
  | with_reducible refine w_gIxL ?_
  | with_reducible refine w_tnot ?_
  | with_reducible refine w_tor ?_
  | with_reducible refine w_range1 ?_
  | with_reducible refine w_yes ?_
  | with_reducible refine w_itTT ?_
  | with_reducible refine w_iterT ?_
  | with_reducible refine w_lst ?_
  | with_reducible refine w_toI ?_
  | with_reducible refine w_ownS ?_
  | with_reducible refine w_aTup rfl ?_
  | with_reducible refine w_aNil ?_
  | ((with_reducible refine w_frz (ds := ?wd) ?wh ?wq); (case wh => exact rfl))
  | with_reducible refine w_itT ?_
  | with_reducible refine w_tand ?_
  | with_reducible refine w_gEqI ?_
  | with_reducible refine w_gNeI ?_
  | with_reducible refine w_gLenT ?_
  | with_reducible refine w_lstF ?_
  | with_reducible refine w_callB ?_
  | with_reducible refine w_app ?_
  | with_reducible refine w_setI ?_
  | with_reducible refine w_gNeD ?_
  | with_reducible refine w_gEqD ?_
  | with_reducible refine w_drop ?_
  | with_reducible refine w_gIB ?_
  | with_reducible refine w_gBools ?_
  | with_reducible refine w_and ?_
  | with_reducible refine w_isN ?_
  | with_reducible refine w_or ?_
  | with_reducible refine w_ixO ?_
  | with_reducible refine w_gI ?_
  | with_reducible refine w_gLenL ?_
  | with_reducible refine w_gTuple ?_
  | with_reducible refine w_gInts ?_
  | with_reducible refine w_un ?_
  | with_reducible refine w_if ?_
  | with_reducible refine w_chain ?_
  | ((with_reducible refine w_callS (ns := ?wd) ?wh ?wq); (case wh => exact rfl))
  | with_reducible refine w_sl ?_
  | with_reducible refine w_noPart ?_
  | with_reducible refine w_part ?_
  | with_reducible refine w_listRg ?_
  | with_reducible refine w_enumK ?_
  | with_reducible refine w_repF ?_
  | with_reducible refine w_gIC ?_
  | with_reducible refine w_gCat ?_
  | with_reducible refine w_gCatT ?_
  | with_reducible refine w_notN ?_
  | with_reducible refine w_listF ?_
  | with_reducible refine w_neg ?_
  | with_reducible refine w_not ?_
  | with_reducible refine w_tru ?_
  | with_reducible refine w_callL ?_
  | with_reducible refine w_consO ?_
  | with_reducible refine w_lenO ?_
  | with_reducible refine w_tupleO ?_
  | with_reducible refine w_listO ?_
  | with_reducible refine w_inO ?_
  | with_reducible refine w_truO ?_
  | with_reducible refine w_zipK ?_
  | with_reducible refine w_retN ?_
  | ((with_reducible refine w_aug (a := ?wd) ?wh ?wq); (case wh => exact rfl))
  | with_reducible refine w_gInL ?_
  | with_reducible refine w_gIntI ?_
  | with_reducible refine w_gRevL ?_
  | with_reducible refine w_gSlL ?_
  | with_reducible refine w_gSlT ?_
  | with_reducible refine w_itF ?_
  | with_reducible refine w_gList ?_
  | with_reducible refine w_gSortI ?_
  | with_reducible refine w_range2 ?_
  | ((with_reducible refine w_lcO (ds := ?wd) ?wh ?wq ?wr); (case wh => exact rfl); (case wq => exact rfl))
  | with_reducible refine w_aUnl rfl ?_
  | with_reducible refine w_brk ?_
  | with_reducible refine w_cnt ?_
  | with_reducible refine w_gIntB ?_
  | simp only [wipeS, backS, List.set_cons_zero, List.set_cons_succ, List.getElem?_cons_zero, List.getElem?_cons_succ, Option.join_some, Option.join_none, Bool.not_true, Bool.not_false]))
local macro_rules | `(tactic| walk_at "wv") => `(tactic| ((repeat (walk_at "wv1"; try dsimp only)); try simp only [List.set_cons_zero, List.set_cons_succ]))
local macro_rules | `(tactic| walk_at "st") => `(tactic| simp only [startS, List.map_cons, List.map_nil, List.length_cons, List.length_nil, Nat.reduceAdd, Nat.reduceSub, List.replicate_succ, List.replicate_zero, List.cons_append, List.nil_append])

section
/-! ### the law's products and sums of fractions -/
open PySem L2
def Bq3 (q : Rat) : Prop := q.num.natAbs < 2 ^ 400 ∧ q.den < 2 ^ 400
theorem Pd.small {s b : Nat} {q : Rat} (hs : s ≠ 0) (h : Pd s b q) : q.num.natAbs ≤ b ∧ q.den ≤ s := by
  obtain ⟨m, rfl, n⟩ := h.eq hs
  have hs' : (s : Int) ≠ 0 := by omega
  have h1 := rN_le (n := m) hs'
  have h2 := rD_le (n := m) hs'
  rw [rN_rat hs'] at h1
  rw [rD_rat hs', Int.natAbs_natCast, Int.natAbs_natCast] at h2
  exact ⟨by omega, h2⟩
theorem Pd.b3 {s b : Nat} {q : Rat} (hs : s ≠ 0) (h : Pd s b q) (h1 : b < 2 ^ 400) (h2 : s < 2 ^ 400) : Bq3 q :=
  let ⟨x, y⟩ := h.small hs
  ⟨Nat.lt_of_le_of_lt x h1, Nat.lt_of_le_of_lt y h2⟩
/-! data that can be compared -/
def Shp (n : Nat) (d : PyData) : Prop := d.canLay0 = true ∧ d.depth ≤ n
theorem Shp.ok {n : Nat} {d : PyData} (h : Shp n d) (hn : n ≤ 64) : SeqAt.shaped d = true := by
  unfold SeqAt.shaped
  rw [h.1, decide_eq_true (Nat.le_trans h.2 hn)]
  rfl
theorem Shp.same {n : Nat} {d : PyData} (h : Shp n d) : PyData.eqv d d = true := SeqAt.eqv_refl d h.1

end
end Bo
/-! ### lists by place; members -/
namespace Bo
open PySem L2
end Bo

namespace Bo
open PySem L2
local macro_rules | `(tactic| walk_at "wv1") => `(tactic| (first
  | ((with_reducible refine w_var (d := ?wd) ?wh ?wq); (case wh => exact rfl))
  | with_reducible refine w_cons ?_
  | with_reducible refine w_nil ?_
  | with_reducible refine w_op ?_
  | with_reducible refine w_c ?_
  | with_reducible refine w_aName ?_
  | with_reducible refine w_seq ?_
  | with_reducible refine w_asg ?_
  | with_reducible refine w_toB ?_
  | with_reducible refine w_callP ?_
  | with_reducible refine w_tst ?_
  | with_reducible refine w_gIxT ?_
  | with_reducible refine w_call ?_
  | with_reducible refine w_ret ?_
  | with_reducible refine w_ifS ?_
  | with_reducible refine w_next ?_
  | ((with_reducible refine w_own (ds := ?wd) ?wh ?wq); (case wh => exact rfl))
  | with_reducible refine w_for ?_
  | with_reducible refine w_fr ?_
  | with_reducible refine w_lc ?_
  | with_reducible refine w_tup ?_
  | with_reducible refine w_iter ?_
  | with_reducible refine w_itFT ?_
  | with_reducible refine w_aCons ?_
  | with_reducible refine w_gIxL ?_
  | with_reducible refine w_tnot ?_
  | with_reducible refine w_tor ?_
  | with_reducible refine w_range1 ?_
  | with_reducible refine w_yes ?_
  | with_reducible refine w_itTT ?_
  | with_reducible refine w_iterT ?_
  | with_reducible refine w_lst ?_
  | with_reducible refine w_toI ?_
  | with_reducible refine w_ownS ?_
  | with_reducible refine w_aTup rfl ?_
  | with_reducible refine w_aNil ?_
  | ((with_reducible refine w_frz (ds := ?wd) ?wh ?wq); (case wh => exact rfl))
  | with_reducible refine w_itT ?_
  | with_reducible refine w_tand ?_
  | with_reducible refine w_gEqI ?_
  | with_reducible refine w_gNeI ?_
  | with_reducible refine w_gLenT ?_
  | with_reducible refine w_lstF ?_
  | with_reducible refine w_callB ?_
  | with_reducible refine w_app ?_
  | with_reducible refine w_setI ?_
  | with_reducible refine w_gNeD ?_
  | with_reducible refine w_gEqD ?_
  | with_reducible refine w_drop ?_
  | with_reducible refine w_gIB ?_
  | with_reducible refine w_gBools ?_
  | with_reducible refine w_and ?_
  | with_reducible refine w_isN ?_
  | with_reducible refine w_or ?_
  | with_reducible refine w_ixO ?_
  | with_reducible refine w_gI ?_
  | with_reducible refine w_gLenL ?_
  | with_reducible refine w_gTuple ?_
  | with_reducible refine w_gInts ?_
  | with_reducible refine w_un ?_
  | with_reducible refine w_if ?_
  | with_reducible refine w_chain ?_
  | ((with_reducible refine w_callS (ns := ?wd) ?wh ?wq); (case wh => exact rfl))
  | with_reducible refine w_sl ?_
  | with_reducible refine w_noPart ?_
  | with_reducible refine w_part ?_
  | with_reducible refine w_listRg ?_
  | with_reducible refine w_enumK ?_
  | with_reducible refine w_repF ?_
  | with_reducible refine w_gIC ?_
  | with_reducible refine w_gCat ?_
  | with_reducible refine w_gCatT ?_
  | with_reducible refine w_notN ?_
  | with_reducible refine w_listF ?_
  | with_reducible refine w_neg ?_
  | with_reducible refine w_not ?_
  | with_reducible refine w_tru ?_
  | with_reducible refine w_callL ?_
  | with_reducible refine w_consO ?_
  | with_reducible refine w_lenO ?_
  | with_reducible refine w_tupleO ?_
  | with_reducible refine w_listO ?_
  | with_reducible refine w_inO ?_
  | with_reducible refine w_truO ?_
  | with_reducible refine w_zipK ?_
  | with_reducible refine w_retN ?_
  | ((with_reducible refine w_aug (a := ?wd) ?wh ?wq); (case wh => exact rfl))
  | with_reducible refine w_gInL ?_
  | with_reducible refine w_gIntI ?_
  | with_reducible refine w_gRevL ?_
  | with_reducible refine w_gSlL ?_
  | with_reducible refine w_gSlT ?_
  | with_reducible refine w_itF ?_
  | with_reducible refine w_gList ?_
  | with_reducible refine w_gSortI ?_
  | with_reducible refine w_range2 ?_
  | ((with_reducible refine w_lcO (ds := ?wd) ?wh ?wq ?wr); (case wh => exact rfl); (case wq => exact rfl))
  | with_reducible refine w_aUnl rfl ?_
  | with_reducible refine w_brk ?_
  | with_reducible refine w_cnt ?_
  | with_reducible refine w_gIntB ?_
  | simp only [wipeS, backS, List.set_cons_zero, List.set_cons_succ, List.getElem?_cons_zero, List.getElem?_cons_succ, Option.join_some, Option.join_none, Bool.not_true, Bool.not_false]))
local macro_rules | `(tactic| walk_at "wv") => `(tactic| ((repeat (walk_at "wv1"; try dsimp only)); try simp only [List.set_cons_zero, List.set_cons_succ]))
local macro_rules | `(tactic| walk_at "st") => `(tactic| simp only [startS, List.map_cons, List.map_nil, List.length_cons, List.length_nil, Nat.reduceAdd, Nat.reduceSub, List.replicate_succ, List.replicate_zero, List.cons_append, List.nil_append])

section
/-! ### chains: what the program's defs answer -/
open PySem L2
def wsum (es : List (Int × Int)) : Int := (es.map (·.2)).sum
def cAt (y : List (List Cho)) (i b : Nat) : Cho := (y.getD i []).getD b (0, [])
def PolOk (y : List (List Cho)) (pol : List Int) : Prop := pol.length = y.length ∧ ∀ (i : Nat) s r, y[i]? = some s → pol[i]? = some r → 0 ≤ r ∧ r < (s.length : Int)
theorem PolOk.at_ {y : List (List Cho)} {pol : List Int} (h : PolOk y pol) {i : Nat} (hi : i < y.length) : ∃ b : Nat, pol[i]? = some (b : Int) ∧ y[i]? = some (y.getD i []) ∧ (y.getD i [])[b]? = some (cAt y i b) ∧ (pol.getD i 0).toNat = b := by
  have e1 : y[i]? = some (y.getD i []) := by rw [List.getD_eq_getElem?_getD, List.getElem?_eq_getElem hi]; rfl
  have e2 : pol[i]? = some (pol.getD i 0) := by rw [List.getD_eq_getElem?_getD, List.getElem?_eq_getElem (show i < pol.length by have := h.1; omega)]; rfl
  obtain ⟨h1, h2⟩ := h.2 i _ _ e1 e2
  refine ⟨(pol.getD i 0).toNat, by rw [e2]; congr 1; omega, e1, ?_, rfl⟩
  unfold cAt
  rw [List.getD_eq_getElem?_getD (l := y.getD i []), List.getElem?_eq_getElem (show (pol.getD i 0).toNat < (y.getD i []).length by omega)]
  rfl

end
section
/-! ### chains: the rows of the equations, as the program makes them -/
open PySem L2
theorem Pd.b4 {s b : Nat} {q : Rat} (hs : s ≠ 0) (h : Pd s b q) (h1 : b < 2 ^ 3000) (h2 : s < 2 ^ 3000) : Bq4 q :=
  let ⟨x, y⟩ := h.small hs
  ⟨Nat.lt_of_le_of_lt x h1, Nat.lt_of_le_of_lt y h2⟩
/-- ends that are looked at -/
structure EsOk (n : Nat) (es : List (Int × Int)) : Prop where
  ne : es ≠ []
  len : es.length ≤ 20
  ends : ∀ e ∈ es, (0 ≤ e.1 ∧ e.1 < (n : Int)) ∧ 1 ≤ e.2 ∧ e.2 ≤ 1000
  rise : es.Pairwise fun x y => x.1 < y.1
theorem wsum_bd : ∀ {es : List (Int × Int)}, (∀ e ∈ es, 1 ≤ e.2 ∧ e.2 ≤ 1000) → (es.length : Int) ≤ wsum es ∧ wsum es ≤ 1000 * (es.length : Int)
  | [], _ => ⟨Int.le_refl _, Int.le_refl _⟩
  | e :: es, h => by
    obtain ⟨h1, h2⟩ := wsum_bd (es := es) fun x hx => h x (List.mem_cons_of_mem _ hx)
    obtain ⟨g1, g2⟩ := h e List.mem_cons_self
    have : wsum (e :: es) = e.2 + wsum es := rfl
    rw [this, List.length_cons]
    omega
theorem EsOk.pos {n : Nat} {es : List (Int × Int)} (h : EsOk n es) : 1 ≤ wsum es ∧ wsum es ≤ 20000 := by
  have := wsum_bd fun e he => (h.ends e he).2
  have := List.length_pos_iff.mpr h.ne
  have := h.len
  omega

end
end Bo
/-! ### dict comprehensions -/
namespace Bo
open PySem L2
section
variable {K : PySem.W.Frag} {n : Nat} {C : Ct K n} {σ : L2.St} {H B : Hp} {S : SS}
section
variable {D : Addr} {ob : HO}
end
end
end Bo

/-! ### comprehensions over the values of a dict -/
namespace Bo
open PySem L2
section
variable {K : PySem.W.Frag} {n : Nat} {C : Ct K n} {σ : L2.St} {H B : Hp} {S : SS}
/-- a walk that the state vouches for -/
structure WalkR (C : Ct K n) (B0 : Hp) (J : It) (ds : List PyData) : Prop where
  go : ∀ (i : Nat) σ H B S, Rep C σ H B S → Same B0 B → i < ds.length → J.go i H
  stop : ∀ σ H B S, Rep C σ H B S → Same B0 B → J.stop ds.length H
  yld : ∀ (i : Nat) (H H' : Hp) (x : V) (d : PyData) σ B S, Rep C σ H B S → Same B0 B → ds[i]? = some d → J.yld i H x H' → H' = H ∧ Da K B x d
theorem Rep0.forget (R : Rep0 C σ H B S) {i : Nat} (hi : n ≤ i) : Rep0 C σ H B (S.set i none) := by
  have at_ : ∀ {j : Nat} {s : SV}, (S.set i none)[j]? = some (some s) → S[j]? = some (some s) := fun {j s} e => by
    by_cases q : i = j
    · subst q
      rw [List.getElem?_set] at e
      split at e
      · split at e <;> cases e
      · exact e
    · rwa [List.getElem?_set_ne q] at e
  refine ⟨R.base, by rw [List.length_set]; exact R.len, fun j s e => R.slot j s (at_ e), fun j k s u a e1 e2 => R.dis j k s u a (at_ e1) (at_ e2), fun j s a e => R.ownf j s a (at_ e), fun j a e => ?_⟩
  obtain ⟨b1, s, b2, b3⟩ := R.box j a e
  refine ⟨b1, s, ?_, b3⟩
  have := (List.getElem?_eq_some_iff.mp e).1
  have h := C.hbx
  rw [List.getElem?_set_ne (by omega)]
  exact b2
theorem Rep.forget (R : Rep C σ H B S) {i : Nat} (hi : n ≤ i) : Rep C σ H B (S.set i none) := by
  have at_ : ∀ {j : Nat} {s : SV}, (S.set i none)[j]? = some (some s) → S[j]? = some (some s) := fun {j s} e => by
    by_cases q : i = j
    · subst q
      rw [List.getElem?_set] at e
      split at e
      · split at e <;> cases e
      · exact e
    · rwa [List.getElem?_set_ne q] at e
  obtain ⟨F, R⟩ := R
  exact ⟨F, R.sd, R.rep.forget hi, fun j k s u e1 e2 => R.one j k s u (at_ e1) (at_ e2), fun j nm fs e => R.ob j nm fs (at_ e)⟩
/-- a slot lets its own go -/
theorem RepF.unslot {F : Hp} (R : RepF C F σ H B S) {i : Nat} {a : Addr} {s : SV} (q1 : S[i]? = some (some s)) (m : s.mine = true) (q2 : σ[i]? = some (some (.ref a))) (hi : n ≤ i) : RepF C F σ H B (S.set i none) ∧ Loose0 (C.ext F) σ (S.set i none) B a := by
  have at_ : ∀ {j : Nat} {s : SV}, (S.set i none)[j]? = some (some s) → S[j]? = some (some s) := fun {j s} e => by
    by_cases q : i = j
    · subst q
      rw [List.getElem?_set] at e
      split at e
      · split at e <;> cases e
      · exact e
    · rwa [List.getElem?_set_ne q] at e
  refine ⟨⟨R.sd, R.rep.forget hi, fun j k s u e1 e2 => R.one j k s u (at_ e1) (at_ e2), fun j nm fs e => R.ob j nm fs (at_ e)⟩, ?_, ?_, fun j u e m' z => ?_⟩
  · obtain ⟨a', o, e1, e2, e3⟩ := R.rep.own_at q1 m
    rw [q2] at e1
    cases e1
    exact e3
  · rcases R.rep.ownf i _ a q1 m q2 with z | z
    · exact z
    · have := (List.getElem?_eq_some_iff.mp z).1
      have := C.hbx
      have : (C.ext F).bx.length = C.bx.length := rfl
      omega
  · by_cases q : i = j
    · subst q
      rw [List.getElem?_set] at e
      split at e
      · split at e <;> cases e
      · rename_i z
        exact z rfl
    · rw [List.getElem?_set_ne q] at e
      exact q (R.rep.dis i j _ u a q1 e m m' q2 z)
theorem Rep.unslot (R : Rep C σ H B S) {i : Nat} {a : Addr} {s : SV} (q1 : S[i]? = some (some s)) (m : s.mine = true) (q2 : σ[i]? = some (some (.ref a))) (hi : n ≤ i) : Loose C σ (S.set i none) H B a := by
  obtain ⟨F, R⟩ := R
  obtain ⟨h1, h2⟩ := R.unslot q1 m q2 hi
  exact ⟨F, h1, h2⟩
theorem Rep.free (R : Rep C σ H B S) {i : Nat} {a : Addr} {s : SV} (q1 : S[i]? = some (some s)) (m : s.mine = true) (q2 : σ[i]? = some (some (.ref a))) (hi : n ≤ i) : B a = none ∧ C.H0 a = none ∧ C.B0 a = none ∧ some a ∉ C.bx := by
  have L := R.unslot q1 m q2 hi
  refine ⟨L.b, L.h0, ?_, fun z => ?_⟩
  · cases q : C.B0 a with
    | none => rfl
    | some o =>
      have := L.b
      rw [R.base.b0 a o q] at this
      cases this
  · obtain ⟨j, hj⟩ := List.mem_iff_getElem?.mp z
    obtain ⟨b1, s, b2, b3⟩ := R.box j a hj
    have := R.dis i j _ s a q1 b2 m b3 q2 b1
    have := (List.getElem?_eq_some_iff.mp hj).1
    have := C.hbx
    omega
end
end Bo

/-! ### defs that raise: their worth tells the error -/
namespace Bo
open PySem L2
section
variable {X : Cx}
theorem ps_nox {st : Stmt} {t : TS} (h : PS X.nox st t) : PS X st t := ⟨fun pins s σ H D I hw =>
  wpAny_mono (h.run pins s σ H D (I.wish _) hw) (fun _ _ q => q.unwish) fun _ _ z => False.elim z⟩
end
/-- where the classes of errors stand, the name of their field -/
structure Cls where
  at_ : String → Option Addr
  fld : String → Str
/-- the error's own dict -/
def XD (L : Cls) (e : Exc) (v : V) (d : Option Addr) (H : Hp) : Prop := match e.arg with
  | none => d = none
  | some _ => ∃ dd, d = some dd ∧ H dd = some (.xd [(L.fld e.cls, v)])
def R.ends {α : Type} (x : R α) (k : α → Prop) (ke : Exc → Prop) : Prop := match x with
  | .ok a => k a
  | .err e => ke e
  | .bad => False
theorem R.ends.mono {α : Type} {x : R α} {k k' : α → Prop} {ke ke' : Exc → Prop} (h : x.ends k ke) (m : ∀ a, k a → k' a) (me : ∀ e, ke e → ke' e) : x.ends k' ke' := by
  cases x with
  | ok a => exact m a h
  | err e => exact me e h
  | bad => exact h
section
variable {K : PySem.W.Frag} {n : Nat} {C : Ct K n} {σ : L2.St} {H B : Hp} {S : SS}
/-- what is told of an error that leaves -/
def Leaves (K : PySem.W.Frag) (L : Cls) (H B : Hp) (E : XK) (e : Exc) : Prop := ∀ c d v H' B', L.at_ e.cls = some c → Same H H' → Same B B' → Same B' H' → Frz H B B' → (∀ a, e.arg = some a → Da K B' v a) → XD L e v d H' → E (.ref c) d H'
/-- a def that changes nothing, and may raise -/
def spX (K : PySem.W.Frag) (L : Cls) (m : Nat) (den : List PyData → R PyData) : Sp := fun vs H Q E => ∃ (ds : List PyData) (B : Hp), DaAll K B vs ds ∧ Same B H ∧ ds.length = m ∧
  (den ds).ends (fun z => ∀ v H' B', Same H H' → Same B B' → Same B' H' → Frz H B B' → Da K B' v z → Q v H') (Leaves K L H B E)
/-- what leaves meets the wish -/
def LinkE (C : Ct K n) (L : Cls) (W : WX) : Prop := ∀ e v d σ H, C.er e v H → XD L e v d H → ∀ c, L.at_ e.cls = some c → W (.ref c) d σ H
/-- .. of a def that is called on no object -/
structure Link (C : Ct K n) (L : Cls) (W : WX) : Prop where
  no : C.ob = none
  out : LinkE C L W
/-- behind a call that changed nothing of ours: the base -/
theorem Base.after {H' B' : Hp} (R : Rep C σ H B S) (sH : Same H H') (sB : Same B B') (bh : Same B' H') (fz : Frz H B B') : Base C H' B' := (R.after sH sB bh fz).base
/-! raise X(..) -/
/-- an error's own maker: self.f = v -/
def spIni (K : PySem.W.Frag) (f : Str) : Sp := fun vs H Q _ => ∃ (a C : Addr) (v : V), vs = [.ref a, v] ∧ H a = some (exo a C none) ∧ OexC K C ∧ PySem.W.findIn K (.ref C) f = some none ∧
  ∀ dx, H dx = none → dx ≠ a → Q .non (upd (upd H dx (exd dx [(f, v)])) a (exo a C (some dx)))
def vRaise (cls : String) (fa : VA) : VS := fun S => (fa S).bind fun p => match p.1 with
  | [d] => .err ⟨cls, some d, none⟩
  | _ => .bad
theorem upd_del {H : Hp} {a dx : Addr} {o1 o2 o3 o4 : HO} (ha : H a = none) (ne : dx ≠ a) : upd (del (upd (upd (upd H a o1) dx o2) a o3) a) dx o4 = upd H dx o4 := by
  funext b
  by_cases e : b = dx
  · subst e
    rw [upd_same, upd_same]
  · rw [upd_ne e, upd_ne e]
    by_cases e2 : b = a
    · subst e2
      rw [del_same, ha]
    · rw [del_ne e2, upd_ne e2, upd_ne e, upd_ne e2]
theorem st_raise {cls : String} {L : Cls} {W : WX} {c : Addr} {f : Str} {ta : TA} {fa : VA} (lk : Link C L W) (hc : L.at_ cls = some c) (hf : L.fld cls = f) (T : OexC K c) (nf : PySem.W.findIn K (.ref c) f = some none) (ha : SA C ta fa) :
    SSt C (fun _ σ H => tMkO c (spIni K f) [] ta σ H fun cl d H' => W cl d σ H') (vRaise cls fa) := by
  intro σ H B S D R h
  replace h := post_bind.mp h
  refine ha σ H B S _ R (h.mono fun p h1 vs H1 B1 R1 e1 d1 => ?_)
  obtain ⟨ds, S1⟩ := p
  dsimp only at h1 d1 R1
  split at h1
  · rename_i d
    cases d1 with
    | cons dv t =>
      rename_i v vs'
      cases t
      refine ⟨(by show 1 ≤ 1000; decide), fun a ha => ?_⟩
      refine ⟨a, c, v, by simp, upd_same, T, nf, fun dx hd ne => ?_⟩
      have hd1 : H1 dx = none := by
        rw [upd_ne ne] at hd
        exact hd
      refine ⟨rfl, dx, [(f, v)], upd_same, ?_, hd1, ?_⟩
      · rw [upd_ne ne, upd_same]
      · rw [upd_del ha ne]
        have R2 := R1.loose (o := .xd [(f, v)]) hd1
        refine lk.out ⟨cls, some d, none⟩ v (some dx) σ _ (h1 _ B1 v R2.base (obT_no lk.no) fun a e => ?_) ⟨dx, rfl, ?_⟩ c hc
        · cases e
          exact dv
        · rw [upd_same, hf]
  · exact h1.elim
/-! a def by its body -/
def erX (L : Cls) (E : XK) : Exc → V → Hp → Prop := fun e v H => ∀ d, XD L e v d H → ∀ c, L.at_ e.cls = some c → E (.ref c) d H
theorem link_erX {H B : Hp} {L : Cls} {E : XK} : Link (ct0 (K := K) H B (erX L E)) L (fun cls d _ H => E cls d H) := ⟨rfl, fun e v d σ H' h xd c hc => h d xd c hc⟩
theorem len_X {L : Cls} {m : Nat} {den : List PyData → R PyData} {vs : List V} {Q : VK} {E : XK} (h : spX K L m den vs H Q E) : vs.length = m := by
  obtain ⟨ds, B, d, _, e, _⟩ := h
  rw [daa_len d, e]
theorem out_X {L : Cls} {E : XK} {e : Exc} (h : Leaves K L H B E e) : (ct0 (K := K) H B (erX L E)).Out e := fun H' B' v b _ da d xd c hc =>
  h c d v H' B' hc (fun a o z => b.keep a o (by simp [ct0]) z) b.b0 b.bh (fun a o z => b.fr a o z) da xd
theorem run_X {m : Nat} {N : List Str} {f : VS} {t : TS} {vs : List V} {Q : VK} {E : XK} {L : Cls} (s : ∀ C : Ct K 0, Link C L (fun cls d _ H => E cls d H) → SSt C t f) (h : spX K L m (denP N.length f) vs H Q E) : t { nx := fun _ H' => Q .non H', rt := Q } (L2.start N vs) H := by
  obtain ⟨ds, B, d, bh, _, h⟩ := h
  have R := rep_start (N := N) (er := erX L E) d bh
  refine s _ link_erX _ H B _ _ R ?_
  unfold denP endP at h
  cases q : f (startS N.length ds) with
  | bad =>
    rw [q] at h
    exact h.elim
  | err e =>
    rw [q] at h
    exact out_X h
  | ok fl =>
    rw [q] at h
    show FlPost _ _ _ fl
    cases fl with
    | nx S => exact fun σ' H' B' R' e => h .non H' B' (fun a o z => R'.base.keep a o (by simp [ct0]) z) e R'.base.bh (fun a o z => R'.base.fr a o z) .non
    | rt d S => exact fun v σ' H' B' R' e dv => h v H' B' (fun a o z => R'.base.keep a o (by simp [ct0]) z) e R'.base.bh (fun a o z => R'.base.fr a o z) dv
    | bk S => exact h.elim
    | ct S => exact h.elim
end
end Bo

/-! ### objects: their fields, read and stored -/
namespace Bo
open PySem L2
/-! names of fields -/
def putFD (f : Str) (x : FV) : List (Str × FV) → List (Str × FV)
  | [] => [(f, x)]
  | p :: r => if p.1 = f then (p.1, x) :: r else p :: putFD f x r
def fIx (f : Str) : List Str → Nat
  | [] => 0
  | g :: r => if g = f then 0 else fIx f r + 1
theorem putF_cons (f g : Str) (y v : V) (r : List (Str × V)) : putF f y ((g, v) :: r) = if g = f then (g, y) :: r else (g, v) :: putF f y r := rfl
theorem putF_get (f : Str) (y : V) : ∀ (us : List (Str × V)) (i : Nat), (putF f y us)[i]? = if i = fIx f (us.map Prod.fst) then some (f, y) else us[i]?
  | [], 0 => rfl
  | [], i + 1 => rfl
  | (g, v) :: r, i => by
    rw [putF_cons, List.map_cons]
    unfold fIx
    by_cases e : g = f
    · subst e
      rw [if_pos rfl, if_pos rfl]
      cases i with
      | zero => rfl
      | succ i => rfl
    · rw [if_neg e, if_neg e]
      cases i with
      | zero => rw [if_neg (by omega)]; rfl
      | succ i =>
        rw [List.getElem?_cons_succ, putF_get f y r i, List.getElem?_cons_succ]
        by_cases c : i = fIx f (r.map Prod.fst)
        · rw [if_pos c, if_pos (by omega)]
        · rw [if_neg c, if_neg (by omega)]
theorem putFD_get (f : Str) (x : FV) : ∀ (fs : List (Str × FV)) (i : Nat), (putFD f x fs)[i]? = if i = fIx f (fs.map Prod.fst) then some (f, x) else fs[i]?
  | [], 0 => rfl
  | [], i + 1 => rfl
  | (g, v) :: r, i => by
    unfold putFD
    rw [List.map_cons]
    unfold fIx
    by_cases e : g = f
    · subst e
      rw [if_pos rfl, if_pos rfl]
      cases i with
      | zero => rfl
      | succ i => rfl
    · rw [if_neg e, if_neg e]
      cases i with
      | zero => rw [if_neg (by omega)]; rfl
      | succ i =>
        rw [List.getElem?_cons_succ, putFD_get f x r i, List.getElem?_cons_succ]
        by_cases c : i = fIx f (r.map Prod.fst)
        · rw [if_pos c, if_pos (by omega)]
        · rw [if_neg c, if_neg (by omega)]
theorem put_names (f : Str) (y : V) (x : FV) : ∀ {us : List (Str × V)} {fs : List (Str × FV)}, us.map Prod.fst = fs.map Prod.fst → (putF f y us).map Prod.fst = (putFD f x fs).map Prod.fst
  | [], [], _ => rfl
  | (g, v) :: r, (g', w) :: r', e => by
    rw [List.map_cons, List.map_cons] at e
    injection e with e1 e2
    have e1 : g = g' := e1
    subst e1
    rw [putF_cons]
    unfold putFD
    by_cases c : g = f
    · rw [if_pos c, if_pos c, List.map_cons, List.map_cons, e2]
    · rw [if_neg c, if_neg c, List.map_cons, List.map_cons, put_names f y x e2]
theorem putF_id {f : Str} {y : V} : ∀ {us : List (Str × V)}, us.lookup f = some y → putF f y us = us
  | [], h => by cases h
  | (g, v) :: r, h => by
    rw [putF_cons]
    by_cases c : g = f
    · subst c
      rw [List.lookup_cons_self] at h
      cases h
      rw [if_pos rfl]
    · rw [if_neg c]
      rw [List.lookup_cons, show (f == g) = false from beq_false_of_ne (Ne.symm c)] at h
      rw [putF_id h]
/-- a field's place -/
theorem look_fs {f : Str} {x : FV} : ∀ {us : List (Str × V)} {fs : List (Str × FV)}, us.map Prod.fst = fs.map Prod.fst → fs.lookup f = some x → ∃ v, us[fIx f (fs.map Prod.fst)]? = some (f, v) ∧ fs[fIx f (fs.map Prod.fst)]? = some (f, x) ∧ us.lookup f = some v
  | [], [], _, h => by cases h
  | (g, v) :: r, (g', w) :: r', e, h => by
    rw [List.map_cons, List.map_cons] at e
    injection e with e1 e2
    have e1 : g = g' := e1
    subst e1
    rw [List.map_cons]
    unfold fIx
    by_cases c : g = f
    · subst c
      rw [List.lookup_cons_self] at h
      cases h
      rw [if_pos rfl]
      exact ⟨v, rfl, rfl, List.lookup_cons_self⟩
    · rw [if_neg c]
      rw [List.lookup_cons, show (f == g) = false from beq_false_of_ne (Ne.symm c)] at h
      obtain ⟨u, h1, h2, h3⟩ := look_fs e2 h
      refine ⟨u, h1, h2, ?_⟩
      rw [List.lookup_cons, show (f == g) = false from beq_false_of_ne (Ne.symm c)]
      exact h3
theorem look_none {f : Str} : ∀ {us : List (Str × V)} {fs : List (Str × FV)}, us.map Prod.fst = fs.map Prod.fst → fs.lookup f = none → us.lookup f = none
  | [], [], _, h => rfl
  | (g, v) :: r, (g', w) :: r', e, h => by
    rw [List.map_cons, List.map_cons] at e
    injection e with e1 e2
    have e1 : g = g' := e1
    subst e1
    rw [List.lookup_cons] at h ⊢
    by_cases c : f = g
    · subst c
      rw [show (f == f) = true from beq_self_eq_true f] at h
      cases h
    · rw [show (f == g) = false from beq_false_of_ne c] at h ⊢
      exact look_none e2 h
section
variable {K : PySem.W.Frag} {h F B : Hp} {a : Addr} {nm : Str} {fs : List (Str × FV)}
theorem FR.up {g : Hp} {v : V} {x : FV} (r : FR K g B v x) (e : ∀ p o, g p = some o → h p = some o) : FR K h B v x := by
  cases x with
  | dat d => exact r
  | own ds =>
    obtain ⟨p, vs, q1, q2, q3⟩ := r
    exact ⟨p, vs, q1, e _ _ q2, q3⟩
  | dic ds =>
    obtain ⟨p, vs, q1, q2, q3⟩ := r
    exact ⟨p, vs, q1, e _ _ q2, q3⟩
theorem ObAt.ins {c : Addr} (o : ObAt K h B a nm fs) (hc : PySem.W.nsIn K mainGlobals nm = some (some (.ref c))) : ∃ dx us, h a = some (.ins c dx us) ∧ us.map Prod.fst = fs.map Prod.fst := by
  obtain ⟨c', dx, us, g, q1, q2, q3, _⟩ := o.at_
  rw [hc] at q1
  cases q1
  exact ⟨dx, us, q2, q3⟩
theorem ObAt.read {c : Addr} {f : Str} {x : FV} (o : ObAt K h B a nm fs) (hc : PySem.W.nsIn K mainGlobals nm = some (some (.ref c))) (e : fs.lookup f = some x) : ∃ dx us v, h a = some (.ins c dx us) ∧ us.lookup f = some v ∧ FR K h B v x := by
  obtain ⟨c', dx, us, g, q1, q2, q3, q4, q5⟩ := o.at_
  rw [hc] at q1
  cases q1
  obtain ⟨v, h1, h2, h3⟩ := look_fs q3 e
  exact ⟨dx, us, v, q2, h3, (q5 _ _ _ h1 h2).up (q4.sub _)⟩
/-- a field is stored -/
theorem ob_put {c dx : Addr} {us : List (Str × V)} {g : Nat → Hp} (hc : PySem.W.nsIn K mainGlobals nm = some (some (.ref c))) (nms : us.map Prod.fst = fs.map Prod.fst) (P : Parts F a g) (fr : ∀ (i : Nat) u f, us[i]? = some u → fs[i]? = some f → FR K (g i) B u.2 f.2)
    {F' gn : Hp} {f : Str} {y : V} {x : FV} (ha : F' a = some (.ins c dx (putF f y us))) (old : ∀ i p o, i ≠ fIx f (fs.map Prod.fst) → g i p = some o → F' p = some o ∧ gn p = none) (sub : ∀ p o, gn p = some o → F' p = some o ∧ p ≠ a) (r : FR K gn B y x) :
    ObAt K F' B a nm (putFD f x fs) := by
  have part : ∀ i p o, (if i = fIx f (fs.map Prod.fst) then gn else g i) p = some o → (i = fIx f (fs.map Prod.fst) ∧ gn p = some o) ∨ (i ≠ fIx f (fs.map Prod.fst) ∧ g i p = some o) := fun i p o z => by
    by_cases e : i = fIx f (fs.map Prod.fst)
    · rw [if_pos e] at z
      exact .inl ⟨e, z⟩
    · rw [if_neg e] at z
      exact .inr ⟨e, z⟩
  refine ⟨c, dx, putF f y us, fun i => if i = fIx f (fs.map Prod.fst) then gn else g i, hc, ha, put_names f y x nms, ⟨fun i p o z => ?_, fun i j p o q z1 z2 => ?_, fun i => ?_⟩, fun i u w h1 h2 => ?_⟩
  · rcases part i p o z with ⟨_, z⟩ | ⟨e, z⟩
    · exact (sub p o z).1
    · exact (old i p o e z).1
  · rcases part i p o z1 with ⟨e1, z1⟩ | ⟨e1, z1⟩ <;> rcases part j p q z2 with ⟨e2, z2⟩ | ⟨e2, z2⟩
    · rw [e1, e2]
    · rw [(old j p q e2 z2).2] at z1
      cases z1
    · rw [(old i p o e1 z1).2] at z2
      cases z2
    · exact P.dis i j p o q z1 z2
  · cases z : (if i = fIx f (fs.map Prod.fst) then gn else g i) a with
    | none => rfl
    | some o =>
      rcases part i a o z with ⟨_, z⟩ | ⟨e, z⟩
      · exact absurd rfl (sub a o z).2
      · rw [P.na i] at z
        cases z
  · rw [putF_get, nms] at h1
    rw [putFD_get] at h2
    by_cases e : i = fIx f (fs.map Prod.fst)
    · rw [if_pos e] at h1 h2
      cases h1
      cases h2
      dsimp only
      rw [if_pos e]
      exact r
    · rw [if_neg e] at h1 h2
      dsimp only
      rw [if_neg e]
      exact fr i u w h1 h2
/-- .. data -/
theorem ObAt.putDat {c : Addr} (o : ObAt K F B a nm fs) (hc : PySem.W.nsIn K mainGlobals nm = some (some (.ref c))) {f : Str} {y : V} {d : PyData} (dy : Da K B y d) :
    ∃ dx us, F a = some (.ins c dx us) ∧ us.length = fs.length ∧ ObAt K (upd F a (.ins c dx (putF f y us))) B a nm (putFD f (.dat d) fs) := by
  obtain ⟨c', dx, us, g, q1, q2, q3, q4, q5⟩ := o.at_
  rw [hc] at q1
  cases q1
  refine ⟨dx, us, q2, by have := congrArg List.length q3; simpa using this, ob_put (gn := fun _ => none) hc q3 q4 q5 upd_same (fun i p o _ z => ⟨?_, rfl⟩) (fun p o z => nomatch z) dy⟩
  rw [upd_ne]
  · exact q4.sub i p o z
  · rintro rfl
    rw [q4.na i] at z
    cases z
/-- .. a new thing of its own -/
theorem ObAt.putNew {c p : Addr} {u : HO} (o : ObAt K F B a nm fs) (hc : PySem.W.nsIn K mainGlobals nm = some (some (.ref c))) {f : Str} {x : FV} (hp : F p = none) (r : FR K (upd (fun _ => none) p u) B (.ref p) x) :
    ∃ dx us, F a = some (.ins c dx us) ∧ us.length = fs.length ∧ ObAt K (upd (upd F p u) a (.ins c dx (putF f (.ref p) us))) B a nm (putFD f x fs) := by
  obtain ⟨c', dx, us, g, q1, q2, q3, q4, q5⟩ := o.at_
  rw [hc] at q1
  cases q1
  have pa : p ≠ a := by
    rintro rfl
    rw [hp] at q2
    cases q2
  refine ⟨dx, us, q2, by have := congrArg List.length q3; simpa using this, ob_put (gn := upd (fun _ => none) p u) hc q3 q4 q5 upd_same (fun i q o _ z => ?_) (fun q o z => ?_) r⟩
  · have zF := q4.sub i q o z
    have qa : q ≠ a := by
      rintro rfl
      rw [q4.na i] at z
      cases z
    have qp : q ≠ p := ne_of_none zF hp
    rw [upd_ne qa, upd_ne qp, upd_ne qp]
    exact ⟨zF, rfl⟩
  · by_cases e : q = p
    · subst e
      rw [upd_same] at z
      cases z
      rw [upd_ne pa, upd_same]
      exact ⟨rfl, pa⟩
    · rw [upd_ne e] at z
      cases z
/-- .. what stands there is changed -/
theorem ObAt.change {c p : Addr} {u : HO} (o : ObAt K F B a nm fs) {f : Str} {x x' : FV} (e : fs.lookup f = some x) (hx : ∀ g v, FR K g B v x → ∃ q w, v = .ref q ∧ g q = some w) (hp : ∃ c dx us, F a = some (.ins c dx us) ∧ us.lookup f = some (.ref p)) (r : FR K (upd (fun _ => none) p u) B (.ref p) x') :
    F p ≠ none ∧ ObAt K (upd F p u) B a nm (putFD f x' fs) := by
  obtain ⟨c', dx, us, g, q1, q2, q3, q4, q5⟩ := o.at_
  obtain ⟨_, _, us', h1, h2⟩ := hp
  rw [q2] at h1
  cases h1
  obtain ⟨v, z1, z2, z3⟩ := look_fs q3 e
  rw [h2] at z3
  cases z3
  obtain ⟨q, w, e1, gp⟩ := hx _ _ (q5 _ _ _ z1 z2)
  cases e1
  have pa : p ≠ a := by
    rintro rfl
    rw [q4.na] at gp
    cases gp
  have Fp := q4.sub _ _ _ gp
  refine ⟨(by rw [Fp]; exact fun z => (nomatch z)), ob_put (gn := upd (fun _ => none) p u) q1 q3 q4 q5 (y := .ref p) (by rw [upd_ne (Ne.symm pa), putF_id h2]; exact q2) (fun i q o ni z => ?_) (fun q o z => ?_) r⟩
  · have qp : q ≠ p := by
      rintro rfl
      exact ni (q4.dis _ _ _ _ _ z gp)
    rw [upd_ne qp, upd_ne qp]
    exact ⟨q4.sub i q o z, rfl⟩
  · by_cases e : q = p
    · subst e
      rw [upd_same] at z ⊢
      exact ⟨z, pa⟩
    · rw [upd_ne e] at z
      cases z
end
/-! ### cells laid among the object's -/
section
variable {K : PySem.W.Frag} {n : Nat} {C : Ct K n} {σ : L2.St} {H B F : Hp} {S : SS}
theorem Rep0.lay (R : Rep0 (C.ext F) σ H B S) {p : Addr} (hb : B p = none) (nb : some p ∉ C.bx) (no : ∀ (j : Nat) u, S[j]? = some (some u) → u.mine = true → σ[j]? ≠ some (some (.ref p))) (o : HO) : Rep0 (C.ext (upd F p o)) σ (upd H p o) B S := by
  have e0 : ∀ q, q ≠ p → (C.ext (upd F p o)).H0 q = (C.ext F).H0 q := fun q e => by
    show (match upd F p o q with | some o => some o | none => C.H0 q) = (match F q with | some o => some o | none => C.H0 q)
    rw [upd_ne e]
  have ep : (C.ext (upd F p o)).H0 p = some o := ext_F upd_same
  refine ⟨⟨fun q u nq z => ?_, R.base.b0, fun q u z => ?_, fun q u z => ?_⟩, R.len, fun i s h => ?_, R.dis, fun i s q h m e => ?_, R.box⟩
  · by_cases e : q = p
    · subst e
      rw [ep] at z
      rw [upd_same]
      exact z
    · rw [e0 q e] at z
      rw [upd_ne e]
      exact R.base.keep q u nq z
  · rw [upd_ne (ne_of_none z hb)]
    exact R.base.bh q u z
  · have e := ne_of_none z hb
    exact (R.base.fr q u z).imp_right fun z => by rw [e0 q e]; exact z
  · obtain ⟨v, hv, r⟩ := R.slot i s h
    refine ⟨v, hv, ?_⟩
    have keep : ∀ q, s.mine = true → v = .ref q → q ≠ p := fun q m e => by
      subst e
      rintro rfl
      exact no i s h m hv
    cases s with
    | dat d => exact r
    | scr ns => exact r
    | obj nm fs => exact r
    | own ds =>
      obtain ⟨q, vs, q1, q2, q3⟩ := r
      exact ⟨q, vs, q1, by rw [upd_ne (keep q rfl q1)]; exact q2, q3⟩
    | dic ds =>
      obtain ⟨q, vs, q1, q2, q3⟩ := r
      exact ⟨q, vs, q1, by rw [upd_ne (keep q rfl q1)]; exact q2, q3⟩
  · refine (R.ownf i s q h m e).imp_left fun z => ?_
    rw [e0]
    · exact z
    · rintro rfl
      exact no i s h m e
theorem side_lay (sd : Side C F) {p : Addr} (h0 : C.H0 p = none) (hB0 : C.B0 p = none) (nb : some p ∉ C.bx) (o : HO) : Side C (upd F p o) := fun q u z => by
  by_cases e : q = p
  · subst e
    exact ⟨h0, hB0, nb⟩
  · rw [upd_ne e] at z
    exact sd q u z
/-- .. where one stands -/
theorem lay_in (sd : Side C F) (R : Rep0 (C.ext F) σ H B S) {p : Addr} {o0 : HO} (hp : F p = some o0) (o : HO) : Side C (upd F p o) ∧ Rep0 (C.ext (upd F p o)) σ (upd H p o) B S := by
  obtain ⟨h0, hB0, nb⟩ := sd p o0 hp
  refine ⟨side_lay sd h0 hB0 nb o, R.lay ?_ nb (fun j u h m e => ?_) o⟩
  · cases e : B p with
    | none => rfl
    | some u =>
      rcases R.base.fr p u e with z | z
      · have z : C.B0 p = some u := z
        rw [hB0] at z
        cases z
      · rw [ext_F hp] at z
        cases z
  · rcases R.ownf j u p h m e with z | z
    · rw [ext_F hp] at z
      cases z
    · exact nb (List.mem_of_getElem? z)
/-- .. at a loose place -/
theorem lay_new (sd : Side C F) (R : Rep0 (C.ext F) σ H B S) {p : Addr} (L : Loose0 (C.ext F) σ S B p) (o : HO) : Side C (upd F p o) ∧ Rep0 (C.ext (upd F p o)) σ (upd H p o) B S := by
  have nb : some p ∉ C.bx := fun z => by
    obtain ⟨j, hj⟩ := List.mem_iff_getElem?.mp z
    obtain ⟨b1, s, b2, b3⟩ := R.box j p hj
    exact L.no j s b2 b3 b1
  refine ⟨side_lay sd (ext_none L.h0).1 ?_ nb o, R.lay L.b nb L.no o⟩
  cases q : C.B0 p with
  | none => rfl
  | some u =>
    have z := R.base.b0 p u q
    rw [L.b] at z
    cases z
/-- the object's slot: as it is now -/
theorem Rep0.swap (R : Rep0 C σ H B S) {i : Nat} {nm : Str} {fs fs' : List (Str × FV)} (h : S[i]? = some (some (.obj nm fs))) : Rep0 C σ H B (S.set i (some (.obj nm fs'))) := by
  have hl : i < S.length := (List.getElem?_eq_some_iff.mp h).1
  have at_ : ∀ (j : Nat) u, (S.set i (some (.obj nm fs')))[j]? = some (some u) → (j = i ∧ u = .obj nm fs') ∨ (j ≠ i ∧ S[j]? = some (some u)) := fun j u z => by
    by_cases e : j = i
    · subst e
      rw [List.getElem?_set_self hl] at z
      cases z
      exact .inl ⟨rfl, rfl⟩
    · rw [List.getElem?_set_ne (Ne.symm e)] at z
      exact .inr ⟨e, z⟩
  have old : ∀ (j : Nat) u, (S.set i (some (.obj nm fs')))[j]? = some (some u) → u.mine = true → S[j]? = some (some u) := fun j u z m => by
    rcases at_ j u z with ⟨_, rfl⟩ | ⟨_, z⟩
    · cases m
    · exact z
  refine ⟨R.base, by rw [List.length_set]; exact R.len, fun j u z => ?_, fun j k s u q z1 z2 m1 m2 => R.dis j k s u q (old j s z1 m1) (old k u z2 m2) m1 m2, fun j s q z m e => R.ownf j s q (old j s z m) m e, fun j q z => ?_⟩
  · rcases at_ j u z with ⟨rfl, rfl⟩ | ⟨_, z⟩
    · obtain ⟨v, hv, _⟩ := R.slot j _ h
      exact ⟨v, hv, trivial⟩
    · exact R.slot j u z
  · obtain ⟨b1, s, b2, b3⟩ := R.box j q z
    refine ⟨b1, s, ?_, b3⟩
    rw [List.getElem?_set_ne]
    · exact b2
    · rintro rfl
      rw [h] at b2
      cases b2
      cases b3
theorem RepF.now (R : RepF C F σ H B S) {i : Nat} {nm : Str} {fs fs' : List (Str × FV)} {a : Addr} (h : S[i]? = some (some (.obj nm fs))) (hv : σ[i]? = some (some (.ref a))) (tag : ∀ q, C.ob = some q → q = (a, nm)) {F' H' B' : Hp} (sd : Side C F') (R' : Rep0 (C.ext F') σ H' B' S) (o : ObAt K F' B' a nm fs') :
    RepF C F' σ H' B' (S.set i (some (.obj nm fs'))) := by
  have hl : i < S.length := (List.getElem?_eq_some_iff.mp h).1
  have is_i : ∀ (j : Nat) u, (S.set i (some (.obj nm fs')))[j]? = some (some u) → u.isObj = true → j = i := fun j u z m => by
    by_cases e : j = i
    · exact e
    · rw [List.getElem?_set_ne (Ne.symm e)] at z
      exact R.one j i u _ z h m rfl
  refine ⟨sd, R'.swap h, fun j k s u h1 h2 m1 m2 => by rw [is_i j s h1 m1, is_i k u h2 m2], fun j nm' fs2 z => ?_⟩
  have e := is_i j _ z rfl
  subst e
  rw [List.getElem?_set_self hl] at z
  cases z
  exact ⟨a, hv, tag, o⟩
/-! ### reading -/
def objD (nm : Str) (S : SS) (i : Nat) : R (List (Str × FV)) := match S[i]? with
  | some (some (.obj x fs)) => if x = nm then .ok fs else .bad
  | _ => .bad
theorem obj_of {nm : Str} {i : Nat} {k : List (Str × FV) → Prop} (R : RepF C F σ H B S) (h : Post C (objD nm S i) k) : ∃ fs a, S[i]? = some (some (.obj nm fs)) ∧ σ[i]? = some (some (.ref a)) ∧ (∀ q, C.ob = some q → q = (a, nm)) ∧ ObAt K F B a nm fs ∧ k fs := by
  unfold objD at h
  split at h
  · rename_i x fs e
    by_cases c : x = nm
    · subst c
      rw [if_pos rfl] at h
      obtain ⟨a, h1, h2, h3⟩ := R.ob i _ _ e
      exact ⟨fs, a, e, h1, h2, h3, h⟩
    · rw [if_neg c] at h
      exact h.elim
  · exact h.elim
/-- what a class is known for -/
structure ClsK (K : PySem.W.Frag) (nm : Str) (c : Addr) : Prop where
  at_ : PySem.W.nsIn K mainGlobals nm = some (some (.ref c))
  cls : L2.Cls K c
def fldD (fs : List (Str × FV)) (f : Str) : R PyData := match fs.lookup f with
  | some (.dat d) => .ok d
  | _ => .bad
def fldO (fs : List (Str × FV)) (f : Str) : R (List PyData) := match fs.lookup f with
  | some (.own ds) => .ok ds
  | _ => .bad
variable {nm f : Str} {c : Addr} {i : Nat}
theorem RepF.dat_of {d : PyData} {fs : List (Str × FV)} {a : Addr} (R : RepF C F σ H B S) (k : ClsK K nm c) (o : ObAt K F B a nm fs) (e : fs.lookup f = some (.dat d)) : ∃ dx us v, H a = some (.ins c dx us) ∧ us.lookup f = some v ∧ Da K B v d := by
  obtain ⟨dx, us, v, h1, h2, h3⟩ := o.read k.at_ e
  exact ⟨dx, us, v, (R.cell h1).1, h2, h3⟩
theorem RepF.own_of {ds : List PyData} {fs : List (Str × FV)} {a : Addr} (R : RepF C F σ H B S) (k : ClsK K nm c) (o : ObAt K F B a nm fs) (e : fs.lookup f = some (.own ds)) : ∃ dx us p vs, F a = some (.ins c dx us) ∧ H a = some (.ins c dx us) ∧ us.lookup f = some (.ref p) ∧ F p = some (.lst vs) ∧ H p = some (.lst vs) ∧ DaAll K B vs ds := by
  obtain ⟨dx, us, v, h1, h2, p, vs, rfl, h3, h4⟩ := o.read k.at_ e
  exact ⟨dx, us, p, vs, h1, (R.cell h1).1, h2, h3, (R.cell h3).1, h4⟩
/-- x.f -/
def vFld (nm : Str) (i : Nat) (f : Str) : VE := fun S => (objD nm S i).bind fun fs => (fldD fs f).bind fun d => .ok (d, S)
theorem post_fldD {fs : List (Str × FV)} {k : PyData → Prop} (h : Post C (fldD fs f) k) : ∃ d, fs.lookup f = some (.dat d) ∧ k d := by
  unfold fldD at h
  split at h
  · rename_i d e
    exact ⟨d, e, h⟩
  · exact h.elim
theorem post_fldO {fs : List (Str × FV)} {k : List PyData → Prop} (h : Post C (fldO fs f) k) : ∃ d, fs.lookup f = some (.own d) ∧ k d := by
  unfold fldO at h
  split at h
  · rename_i d e
    exact ⟨d, e, h⟩
  · exact h.elim
theorem s_fld (k : ClsK K nm c) (na : NoAttr K c f) : SE C (tFld K (tVar i) f) (vFld nm i f) := by
  rintro σ H B S Q ⟨F, R⟩ h
  obtain ⟨fs, a, q1, q2, q3, q4, h⟩ := obj_of R (post_bind.mp h)
  obtain ⟨d, e, h⟩ := post_fldD (post_bind.mp h)
  obtain ⟨dx, us, v, h1, h2, h3⟩ := R.dat_of k q4 e
  exact ⟨_, q2, a, c, dx, us, v, rfl, h1, k.cls, na, h2, h v H B ⟨F, R⟩ (Same.refl _) h3⟩
/-- len(x.f) -/
def vLenF (nm : Str) (i : Nat) (f : Str) : VE := fun S => (objD nm S i).bind fun fs => (fldO fs f).bind fun ds => .ok (.int ds.length, S)
theorem s_lenF (k : ClsK K nm c) (na : NoAttr K c f) : SE C (tCB (fun xs H Q => ∃ p ys, xs = [.ref p] ∧ (SqL K H p ys ∨ SqT K H p ys) ∧ Q (.int ys.length) H) (tCons (tFld K (tVar i) f) tNil)) (vLenF nm i f) := by
  rintro σ H B S Q ⟨F, R⟩ h
  obtain ⟨fs, a, q1, q2, q3, q4, h⟩ := obj_of R (post_bind.mp h)
  obtain ⟨ds, e, h⟩ := post_fldO (post_bind.mp h)
  obtain ⟨dx, us, p, vs, h0, h1, h2, h3, h4, h5⟩ := R.own_of k q4 e
  exact ⟨_, q2, a, c, dx, us, _, rfl, h1, k.cls, na, h2, p, vs, rfl, .inl (SqL.of h4), by rw [daa_len h5]; exact h _ H B ⟨F, R⟩ (Same.refl _) (.int _)⟩
/-- if x.f -/
def vTruF (nm : Str) (i : Nat) (f : Str) : VT := fun S => (objD nm S i).bind fun fs => (fldO fs f).bind fun ds => .ok (!ds.isEmpty, S)
theorem s_truF (k : ClsK K nm c) (na : NoAttr K c f) : ST C (fun σ H Q => tFld K (tVar i) f σ H fun x H' => ∃ k, TruV K x H' k ∧ Q k H') (vTruF nm i f) := by
  rintro σ H B S Q ⟨F, R⟩ h
  obtain ⟨fs, a, q1, q2, q3, q4, h⟩ := obj_of R (post_bind.mp h)
  obtain ⟨ds, e, h⟩ := post_fldO (post_bind.mp h)
  obtain ⟨dx, us, p, vs, h0, h1, h2, h3, h4, h5⟩ := R.own_of k q4 e
  exact ⟨_, q2, a, c, dx, us, _, rfl, h1, k.cls, na, h2, _, .inl ⟨vs, SqL.of h4, rfl⟩, by rw [← empty_da h5]; exact h H B ⟨F, R⟩ (Same.refl _)⟩
/-- x.f[k] of a list: k leaves the object as it is -/
def QE (C : Ct K n) (t : TE) (f : SS → R PyData) : Prop := ∀ (σ : L2.St) (F H B : Hp) (S : SS) (Q : VK), RepF C F σ H B S →
  Post C (f S) (fun d => ∀ v H' B', RepF C F σ H' B' S → Same B B' → Da K B' v d → Q v H') → t σ H Q
def QA (C : Ct K n) (t : TA) (f : SS → R (List PyData)) : Prop := ∀ (σ : L2.St) (F H B : Hp) (S : SS) (Q : List V → Hp → Prop), RepF C F σ H B S →
  Post C (f S) (fun d => ∀ v H' B', RepF C F σ H' B' S → Same B B' → DaAll K B' v d → Q v H') → t σ H Q
def datD (S : SS) (i : Nat) : R PyData := match S[i]? with
  | some (some (.dat d)) => .ok d
  | _ => .bad
def qVar (i : Nat) : SS → R PyData := fun S => datD S i
theorem q_var {i : Nat} : QE C (tVar i) (qVar i) := fun σ F H B S Q R h => by
  replace h : Post C (datD S i) _ := h
  unfold datD at h
  split at h
  · rename_i d e
    obtain ⟨v, hv, dv⟩ := R.rep.slot i _ e
    exact ⟨v, hv, h v H B R (Same.refl _) dv⟩
  · exact h.elim
def qFld (nm : Str) (i : Nat) (f : Str) : SS → R PyData := fun S => (objD nm S i).bind fun fs => fldD fs f
theorem q_fld (k : ClsK K nm c) (na : NoAttr K c f) : QE C (tFld K (tVar i) f) (qFld nm i f) := by
  rintro σ F H B S Q R h
  obtain ⟨fs, a, q1, q2, q3, q4, h⟩ := obj_of R (post_bind.mp h)
  obtain ⟨d, e, h⟩ := post_fldD h
  obtain ⟨dx, us, v, h1, h2, h3⟩ := R.dat_of k q4 e
  exact ⟨_, q2, a, c, dx, us, v, rfl, h1, k.cls, na, h2, h v H B R (Same.refl _) h3⟩
def qNil : SS → R (List PyData) := fun _ => .ok []
def qCons (g : SS → R PyData) (fa : SS → R (List PyData)) : SS → R (List PyData) := fun S => (g S).bind fun d => (fa S).bind fun ds => .ok (d :: ds)
def qTup (fa : SS → R (List PyData)) : SS → R PyData := fun S => (fa S).bind fun ds => R.when (ds.length ≤ 100000) (.ok (.tuple ds))
theorem q_nil : QA C tNil qNil := fun σ F H B S Q R h => h [] H B R (Same.refl _) .nil
theorem q_cons {t : TE} {ta : TA} {g : SS → R PyData} {fa : SS → R (List PyData)} (h1 : QE C t g) (h2 : QA C ta fa) : QA C (tCons t ta) (qCons g fa) := fun σ F H B S Q R h => by
  replace h := post_bind.mp h
  refine h1 σ F H B S _ R (h.mono fun d h v H1 B1 R1 e1 d1 => ?_)
  replace h := post_bind.mp h
  exact h2 σ F H1 B1 S _ R1 (h.mono fun ds h vs H2 B2 R2 e2 d2 => h (v :: vs) H2 B2 R2 (e1.trans e2) (.cons (da_mono e2 d1) d2))
theorem q_tup {ta : TA} {fa : SS → R (List PyData)} (ha : QA C ta fa) : QE C (tTup ta) (qTup fa) := fun σ F H B S Q R h => by
  replace h := post_bind.mp h
  refine ha σ F H B S _ R (h.mono fun ds h vs H1 B1 R1 e1 d1 => ?_)
  obtain ⟨k, h⟩ := post_when.mp h
  refine ⟨line_le (by rw [daa_len d1]; exact k), fun p hp => ?_⟩
  obtain ⟨R2, e2⟩ := R1.rep.laid (o := .tup vs) hp
  exact h _ _ _ ⟨R1.sd, R2, R1.one, R1.obB e2⟩ (e1.trans e2) (.tup (SqT.of upd_same) (daa_mono e2 d1))
end
end Bo

/-! ### objects: fields stored, lists of fields changed -/
namespace Bo
open PySem L2
section
variable {K : PySem.W.Frag} {n : Nat} {C : Ct K n} {σ : L2.St} {H B F : Hp} {S : SS} {nm f : Str} {c : Addr} {i : Nat}
theorem upd_id {H : Hp} {p : Addr} {o : HO} (h : H p = some o) : upd H p o = H := by
  funext q
  by_cases e : q = p
  · subst e
    rw [upd_same, h]
  · rw [upd_ne e]
/-- x.f = e -/
def vSetF (nm : Str) (i : Nat) (f : Str) (fe : VE) : VS := fun S => (fe S).bind fun p => (objD nm p.2 i).bind fun fs => R.when (fs.length < 1000) (.ok (.nx (p.2.set i (some (.obj nm (putFD f (.dat p.1) fs))))))
theorem st_setF {te : TE} {fe : VE} (k : ClsK K nm c) (na : NoAttr K c f) (he : SE C te fe) : SSt C (sFld K (tVar i) te f) (vSetF nm i f fe) := by
  intro σ H B S D R h
  replace h := post_bind.mp h
  refine he σ H B S _ R (h.mono fun p h1 v H1 B1 R1 e1 d1 => ?_)
  obtain ⟨F, R1⟩ := R1
  obtain ⟨fs, a, q1, q2, q3, q4, h1⟩ := obj_of R1 (post_bind.mp h1)
  obtain ⟨l, h1⟩ := post_when.mp h1
  obtain ⟨dx, us, w1, w2, o⟩ := q4.putDat (f := f) k.at_ d1
  refine ⟨_, q2, a, c, dx, us, rfl, (R1.cell w1).1, k.cls, na, by omega, ?_⟩
  obtain ⟨sd, R2⟩ := lay_in R1.sd R1.rep w1 (.ins c dx (putF f v us))
  exact h1 σ _ B1 ⟨_, R1.now q1 q2 q3 sd R2 o⟩ e1
/-- x.f = a new list -/
def vSetFO (nm : Str) (i : Nat) (f : Str) (fe : VF) : VS := fun S => (fe S).bind fun p => (objD nm p.2 i).bind fun fs => R.when (fs.length < 1000) (.ok (.nx (p.2.set i (some (.obj nm (putFD f (.own p.1) fs))))))
theorem st_setFO {te : TE} {fe : VF} (k : ClsK K nm c) (na : NoAttr K c f) (he : SEF C te fe) : SSt C (sFld K (tVar i) te f) (vSetFO nm i f fe) := by
  intro σ H B S D R h
  replace h := post_bind.mp h
  refine he σ H B S _ R (h.mono fun p h1 pa vs H1 B1 _ e1 hp L d1 => ?_)
  obtain ⟨F, R1, L⟩ := L
  obtain ⟨fs, a, q1, q2, q3, q4, h1⟩ := obj_of R1 (post_bind.mp h1)
  obtain ⟨l, h1⟩ := post_when.mp h1
  have hF := (ext_none L.h0).2
  obtain ⟨dx, us, w1, w2, o⟩ := q4.putNew (p := pa) (u := .lst vs) (x := .own p.1) (f := f) k.at_ hF ⟨pa, vs, rfl, upd_same, d1⟩
  refine ⟨_, q2, a, c, dx, us, rfl, (R1.cell w1).1, k.cls, na, by omega, ?_⟩
  obtain ⟨sd, R2⟩ := lay_new R1.sd R1.rep L (.lst vs)
  rw [upd_id hp] at R2
  obtain ⟨sd, R3⟩ := lay_in sd R2 (p := a) (o0 := .ins c dx us) (by rw [upd_ne (ne_of_none w1 hF)]; exact w1) (.ins c dx (putF f (.ref pa) us))
  exact h1 σ _ B1 ⟨_, R1.now q1 q2 q3 sd R3 o⟩ e1
/-- x.f = {} -/
def vSetFD (nm : Str) (i : Nat) (f : Str) : VS := fun S => (objD nm S i).bind fun fs => R.when (fs.length < 1000) (.ok (.nx (S.set i (some (.obj nm (putFD f (.dic []) fs))))))
theorem st_setFD (k : ClsK K nm c) (na : NoAttr K c f) : SSt C (sFld K (tVar i) tDNewK f) (vSetFD nm i f) := by
  intro σ H B S D R h pa hp
  obtain ⟨_, L⟩ := R.newLoose (o := .dK []) hp
  obtain ⟨F, R1, L⟩ := L
  obtain ⟨fs, a, q1, q2, q3, q4, h1⟩ := obj_of R1 (post_bind.mp h)
  obtain ⟨l, h1⟩ := post_when.mp h1
  have hF := (ext_none L.h0).2
  obtain ⟨dx, us, w1, w2, o⟩ := q4.putNew (p := pa) (u := .dK []) (x := .dic []) (f := f) k.at_ hF ⟨pa, [], rfl, upd_same, .nil⟩
  refine ⟨_, q2, a, c, dx, us, rfl, (R1.cell w1).1, k.cls, na, by omega, ?_⟩
  obtain ⟨sd, R2⟩ := lay_new R1.sd R1.rep L (.dK [])
  rw [upd_id upd_same] at R2
  obtain ⟨sd, R3⟩ := lay_in sd R2 (p := a) (o0 := .ins c dx us) (by rw [upd_ne (ne_of_none w1 hF)]; exact w1) (.ins c dx (putF f (.ref pa) us))
  exact h1 σ _ B ⟨_, R1.now q1 q2 q3 sd R3 o⟩ (Same.refl _)
/-- the list of a field is another now -/
theorem RepF.other {fs : List (Str × FV)} {a p dx : Addr} {us : List (Str × V)} {ds ds' : List PyData} {vs vs' : List V} (R : RepF C F σ H B S) (k : ClsK K nm c) (q1 : S[i]? = some (some (.obj nm fs))) (q2 : σ[i]? = some (some (.ref a))) (q3 : ∀ q, C.ob = some q → q = (a, nm)) (q4 : ObAt K F B a nm fs)
    (e : fs.lookup f = some (.own ds)) (h0 : F a = some (.ins c dx us)) (h2 : us.lookup f = some (.ref p)) (h3 : F p = some (.lst vs)) (d : DaAll K B vs' ds') : RepF C (upd F p (.lst vs')) σ (upd H p (.lst vs')) B (S.set i (some (.obj nm (putFD f (.own ds') fs)))) := by
  obtain ⟨_, o⟩ := ObAt.change (c := c) (p := p) (u := .lst vs') q4 e (fun g v ⟨p, vs, e, w, _⟩ => ⟨p, _, e, w⟩) ⟨c, dx, us, h0, h2⟩ (x' := .own ds') ⟨p, vs', rfl, upd_same, d⟩
  obtain ⟨sd, R2⟩ := lay_in R.sd R.rep h3 (.lst vs')
  exact R.now q1 q2 q3 sd R2 o
/-- x.f.append(e) -/
def vAppF (nm : Str) (i : Nat) (f : Str) (fe : SS → R PyData) : VE := fun S => (objD nm S i).bind fun fs => (fldO fs f).bind fun ds => (fe S).bind fun d => R.when (ds.length < 100000) (.ok (.none, S.set i (some (.obj nm (putFD f (.own (ds ++ [d])) fs)))))
theorem s_appF {te : TE} {fe : SS → R PyData} (k : ClsK K nm c) (na : NoAttr K c f) (he : QE C te fe) : SE C (tBM K "list" rAppend (tFld K (tVar i) f) (tCons te tNil)) (vAppF nm i f fe) := by
  rintro σ H B S Q ⟨F, R⟩ h
  obtain ⟨fs, a, q1, q2, q3, q4, h⟩ := obj_of R (post_bind.mp h)
  obtain ⟨ds, e, h⟩ := post_fldO (post_bind.mp h)
  obtain ⟨dx, us, p, vs, h0, h1, h2, h3, h4, h5⟩ := R.own_of k q4 e
  refine ⟨_, q2, a, c, dx, us, _, rfl, h1, k.cls, na, h2, .inl ⟨rfl, _, SqL.of h4⟩, ?_⟩
  replace h := post_bind.mp h
  refine he σ F H B S _ R (h.mono fun d h v H1 B1 R1 e1 d1 => ?_)
  obtain ⟨l, h⟩ := post_when.mp h
  refine ⟨_, vs, v, rfl, rfl, (R1.cell h3).1, Nat.lt_of_lt_of_le (by rw [daa_len h5]; exact l) (by decide), ?_⟩
  exact h _ _ B1 ⟨_, R1.other (vs' := vs ++ [v]) k q1 q2 q3 (q4.mono e1) e h0 h2 h3 (daa_app (daa_mono e1 h5) (.cons d1 .nil))⟩ e1 .non
/-- x.f.pop() -/
def vPopF (nm : Str) (i : Nat) (f : Str) : VE := fun S => (objD nm S i).bind fun fs => (fldO fs f).bind fun ds => match ds[ds.length - 1]? with
  | some d => .ok (d, S.set i (some (.obj nm (putFD f (.own ds.dropLast) fs))))
  | none => .bad
theorem s_popF (k : ClsK K nm c) (na : NoAttr K c f) : SE C (tBM0 K "list" rPop (tFld K (tVar i) f)) (vPopF nm i f) := by
  rintro σ H B S Q ⟨F, R⟩ h
  obtain ⟨fs, a, q1, q2, q3, q4, h⟩ := obj_of R (post_bind.mp h)
  obtain ⟨ds, e, h⟩ := post_fldO (post_bind.mp h)
  obtain ⟨dx, us, p, vs, h0, h1, h2, h3, h4, h5⟩ := R.own_of k q4 e
  split at h
  · rename_i d ed
    obtain ⟨v, hv, dv⟩ := daa_get h5 ed
    refine ⟨_, q2, a, c, dx, us, _, rfl, h1, k.cls, na, h2, .inl ⟨rfl, _, SqL.of h4⟩, _, vs, v, rfl, rfl, h4, by rw [daa_len h5]; exact hv, ?_⟩
    exact h v _ B ⟨_, R.other (vs' := vs.dropLast) k q1 q2 q3 q4 e h0 h2 h3 (daa_dropLast h5)⟩ (Same.refl _) dv
  · exact h.elim
/-- for y in x.f.values(), where nothing is kept -/
def vForNo (nm : Str) (i : Nat) (f : Str) : VS := fun S => (objD nm S i).bind fun fs => match fs.lookup f with
  | some (.dic []) => .ok (.nx S)
  | _ => .bad
end
end Bo

/-! ### texts: what their operations are worth -/
namespace Bo
open PySem L2
section
variable {K : PySem.W.Frag} {n : Nat} {C : Ct K n} {σ : L2.St} {H B : Hp} {S : SS}
/-! s.m() and s.m(e) -/
def toS : PyData → R Str
  | .str x => .ok x
  | _ => .bad
def vM0 (g : Str → R PyData) (fa : VE) : VE := fun S => (fa S).bind fun p => (toS p.1).bind fun a => (g a).bind fun z => .ok (z, p.2)
def vM1 (g : Str → Str → R PyData) (fa fb : VE) : VE := fun S => (fa S).bind fun p => (toS p.1).bind fun a => (fb p.2).bind fun q => (toS q.1).bind fun b => (g a b).bind fun z => .ok (z, q.2)
def gIsdigit (a : Str) : R PyData := .ok (.bool (Txt.isdigit a))
def gIsascii (a : Str) : R PyData := .ok (.bool (Txt.isascii a))
def gRemoveprefix (a b : Str) : R PyData := R.when (a.length ≤ 100000) (.ok (.str (Txt.removeprefix a b)))
def gPartition (a b : Str) : R PyData := R.when ((b.length == 0) = false ∧ a.length ≤ 100000) (.ok (.tuple [.str (Txt.partition a b).1, .str (Txt.partition a b).2.1, .str (Txt.partition a b).2.2]))
def gSplit (a b : Str) : R PyData := R.when ((b.length == 0) = false ∧ a.length ≤ 100000) (.ok (.list ((Txt.split a b).map PyData.str)))
/-! sep.join(xs) -/
def strsD : List PyData → Option (List Str)
  | [] => some []
  | .str i :: ds => (strsD ds).map (i :: ·)
  | _ :: _ => none
theorem strs_map : ∀ ns : List Str, strsD (ns.map PyData.str) = some ns
  | [] => rfl
  | n :: ns => by
    show (strsD (ns.map PyData.str)).map (n :: ·) = _
    rw [strs_map ns]
    rfl
def joinD (a : Str) (ds : List PyData) : R PyData := match strsD ds with
  | some ys => R.when ((ys.map (·.length)).sum + ys.length * a.length ≤ 100000) (.ok (.str (Txt.join a ys)))
  | none => .bad
def vJoin (fa fb : VE) : VE := fun S => (fa S).bind fun p => (toS p.1).bind fun a => (fb p.2).bind fun q => match itemsD q.1 with
  | some ds => (joinD a ds).bind fun z => .ok (z, q.2)
  | none => .bad
def vJoinO (fa : VE) (i : Nat) : VE := fun S => (fa S).bind fun p => (toS p.1).bind fun a => (ownD p.2 i).bind fun ds => (joinD a ds).bind fun z => .ok (z, p.2)
/-! c in s: one sign -/
def signD (x : Str) : Option Nat := match x.cps.toList with
  | [c] => some c
  | _ => none
def gInS (neg : Bool) : PyData → PyData → R PyData
  | .str x, .str z => match signD x with
    | some c => .ok (.bool (if neg then !decide (c ∈ z.cps.toList) else decide (c ∈ z.cps.toList)))
    | none => .bad
  | _, _ => .bad
/-! s[i], s[lo:hi] -/
def gIxS : PyData → PyData → R PyData
  | .str z, .int i => R.when (z.length ≤ 100000) (match atI z.cps.toList i with
    | some c => .ok (.str ⟨#[c]⟩)
    | none => .bad)
  | _, _ => .bad
def gSlS (d : PyData) (lo hi : Option Int) : R PyData := match d with
  | .str z => R.when (z.length ≤ 100000) (.ok (.str (cutS z lo hi)))
  | _ => .bad
/-! int(s) -/
def gIntS : List PyData → R PyData
  | [.str a] => match PySem.intText? a with
    | some n => R.when (a.length ≤ 640) (.ok (.int n))
    | none => .bad
  | _ => .bad
/-! for c in s -/
def signsD (x : Str) : List PyData := x.cps.toList.map fun c => .str ⟨#[c]⟩
def vIterS (fa : VE) : VF := fun S => (fa S).bind fun p => (toS p.1).bind fun x => .ok (signsD x, p.2)
/-! s * n -/
def repS (x : Str) (n : Nat) : Str := ⟨(List.replicate n x.cps).foldl (· ++ ·) #[]⟩
def gRepS : PyData → PyData → R PyData
  | .str x, .int m => R.when (2 ≤ m ∧ m ≤ 1000 ∧ x.length = 1) (.ok (.str (repS x m.toNat)))
  | _, _ => .bad
/-! f'..' -/
def toFmt : PyData → R Str
  | .str y => R.when (y.length ≤ 100000) (.ok y)
  | .int i => R.when (i.natAbs < 2 ^ 1900) (.ok (toString i))
  | _ => .bad
def vFmt (fa : VE) : VE := fun S => (fa S).bind fun p => (toFmt p.1).bind fun y => .ok (.str y, p.2)
/-- the texts one behind the other -/
def vJs : List VE → Str → SS → R (Str × SS)
  | [], acc, S => .ok (acc, S)
  | f :: fs, acc, S => (f S).bind fun p => (toS p.1).bind fun y => R.when ((acc ++ y).length ≤ 100000) (vJs fs (acc ++ y) p.2)
inductive SJ (C : Ct K n) : List TE → List VE → Prop
  | nil : SJ C [] []
  | cons {t : TE} {f : VE} {ts : List TE} {fs : List VE} (h : SE C t f) (r : SJ C ts fs) : SJ C (t :: ts) (f :: fs)
def vJoined (fs : List VE) : VE := fun S => (vJs fs Str.empty S).bind fun p => .ok (.str p.1, p.2)
/-! min, max of two -/
def gMin2 : List PyData → R PyData
  | [.int i, .int j] => .ok (.int (if j < i then j else i))
  | _ => .bad
end
end Bo

/-! ### "".join(reversed(xs)); code that is never reached; calls of defs that may raise, and do not -/
namespace Bo
open PySem PySem.Spec PyProof.Rows L2
section
variable {prog : Program} {w : World} {A : Around} {E : Value → Shared → Prop} {s : Shared}
end
section
variable {X : Cx}
end
section
variable {K : PySem.W.Frag} {n : Nat} {C : Ct K n} {σ : L2.St} {H B : Hp} {S : SS}
def vJoinR (fa : VE) (i : Nat) : VE := fun S => (fa S).bind fun p => (toS p.1).bind fun a => (ownD p.2 i).bind fun ds => match strsD ds with
  | some ys => R.when ((ys.map (·.length)).sum + ys.length * a.length ≤ 100000) (.ok (.str (Txt.join a ys.reverse), p.2))
  | none => .bad
end
end Bo

/-! ### errors as values: made, asked for their class, read -/
namespace Bo
open PySem PySem.Spec PyProof.Rows L2
/-- at a: an error of the class at C -/
def HasE (H : Hp) (a C : Addr) : Prop := (∃ d fs, H a = some (exo a C (some d)) ∧ H d = some (exd d fs)) ∨ H a = some (ExO (.ref C) a)
section
variable {X : Cx} {pins : List (Addr × Obj)} {σ : L2.St} {H H' : Hp} {s : Shared} {a D C : Addr} {e o : Expr} {es : List Expr} {te : TE} {ta : TA} {p pos : Pos} {n x : Str}
theorem HasE.same (k : Same H H') (h : HasE H a C) : HasE H' a C := by
  rcases h with ⟨d, fs, h1, h2⟩ | h
  · exact .inl ⟨d, fs, k _ _ h1, k _ _ h2⟩
  · exact .inr (k _ _ h)
end
end Bo

/-! ### in an except suite: isinstance(e, X), with or without fields -/
namespace Bo
open PySem PySem.Spec PyProof.Rows L2
def rIsEd (K : PySem.W.Frag) (a : Addr) (cls : Value) (d : Option Addr) : List V → Hp → VK → Prop := fun xs H Q => ∃ (D : Addr) (c : V) (cv : Value) (b : Bool), cls = .ref D ∧ ExcC K D ∧ xs = [.ref a, c] ∧ (∀ u, RelV c u → u = cv) ∧
  PySem.W.kitOne K (.ref D) cv = some b ∧ (∀ dd, d = some dd → ∃ fs, H dd = some (.xd fs)) ∧ Q (.bl b) H
theorem call_isEd {X : Cx} {a : Addr} {oe : Obj} {cls : Value} {d : Option Addr} {pn : List (Addr × Obj)} (hz : Zc cls d oe) (hf : ∃ vs, oe.data = .fields vs) : CallR (X.suite a ((a, oe) :: pn)) (.builtin "isinstance") (rIsEd X.K a cls d) := by
  intro pins s σ H xs us Q I r h
  obtain ⟨D, c, cv, b, rfl, C, rfl, hcv, e, hd, q⟩ := h
  cases r with
  | cons rx rr =>
    cases rr with
    | cons rt rr =>
      cases rr
      cases rx
      have ec := hcv _ rt
      subst ec
      obtain ⟨hget, _⟩ := I.pin (a, oe) (List.mem_append.mpr (.inl List.mem_cons_self))
      obtain ⟨vs, hv⟩ := hf
      obtain ⟨cdD, hcD, _⟩ := PySem.W.any_some C.hd
      have J : ∃ od, PySem.W.InstAt s.heap a oe D od := by
        cases d with
        | none =>
          obtain ⟨oc, od, oda, osl⟩ := oe
          obtain ⟨h1, h2⟩ := hz
          dsimp only at h1 h2 hv
          subst h1 h2 hv
          exact ⟨none, hget, rfl, rfl, trivial⟩
        | some dd =>
          obtain ⟨fs, ea⟩ := hd dd rfl
          have hx : ObjOk X.prog X.w H s.heap dd (.xd fs) := I.hok dd _ ea
          obtain ⟨mA, hns, _⟩ := hx
          obtain ⟨od, ho, _⟩ := lookIn_ns hns
          exact ⟨some od, hget, hz.1, by unfold PySem.W.notCls; rw [hv] <;> rfl, by rw [hz.2]; exact ho⟩
      obtain ⟨od, J⟩ := J
      exact PySem.W.kia_one (PySem.W.kitx_exc (by rw [hcD]; rfl) C.hg C.hk C.hs C.ha C.hn C.ht C.hm) I.kIn J e (fun z => nomatch z) fun tk => ⟨.bl b, H, I.kept (t' := tk) fun _ _ z => z, rfl, q⟩
/-- the facts that isinstance asks, as one Bool -/
def xcB (K : PySem.W.Frag) (D : Addr) : Bool := xfB K D && (decide (PySem.W.findIn K (.ref D) "__class__" = some (some (.builtin "object.__class__"))) && (decide (PySem.W.specialIn K (.builtin "object.__class__") "__get__" = some (some (.builtin "getset_descriptor.__get__"))) &&
  (decide (PySem.W.takesIn K (.builtin "object.__class__") = some true) && decide (PySem.W.mroIn K D (.type "object") = some true))))
theorem xcB_ok {K : PySem.W.Frag} {D : Addr} (h : xcB K D = true) : ExcC K D := by
  obtain ⟨h1, h⟩ := Bool.and_eq_true_iff.mp h
  obtain ⟨h2, h⟩ := Bool.and_eq_true_iff.mp h
  obtain ⟨h3, h⟩ := Bool.and_eq_true_iff.mp h
  obtain ⟨h4, h5⟩ := Bool.and_eq_true_iff.mp h
  have X := xfB_ok h1
  exact ⟨X.ga, X.gg, X.exC, X.hdC, of_decide_eq_true h2, of_decide_eq_true h3, of_decide_eq_true h4, of_decide_eq_true h5⟩
theorem xcB_xf {K : PySem.W.Frag} {D : Addr} (h : xcB K D = true) : XfC K D := xfB_ok (Bool.and_eq_true_iff.mp h).1
end Bo

/-! ### several clauses 'except x as n', one behind the other -/
namespace Bo
open PySem PySem.Spec PyProof.Rows L2
abbrev Clause := Value × (Addr → Value → Option Addr → TS)
/-- what the clauses wish of an exception; slot i is the name's -/
def wAll (K : PySem.W.Frag) (i : Nat) (Wout : WX) (D : Ends) : List Clause → WX
  | [] => Wout
  | p :: r => wAs K p.1 i p.2 (wAll K i Wout D r) D
inductive Clauses (X : Cx) (n : Str) : List ExceptHandler → List Clause → Prop
  | nil : Clauses X n [] []
  | cons {x : Str} {c : Value} {ts : Addr → Value → Option Addr → TS} {b₀ : Stmt} {suite : List Stmt} {np pos' : Pos} {hds : List ExceptHandler} {l : List Clause} (hc : Names X x c)
      (hsu : ∀ (a : Addr) (oe : Obj) (cls : Value) (d : Option Addr) (pn : List (Addr × Obj)), Zc cls d oe → (∃ vs, oe.data = .fields vs) → PSs (X.suite a ((a, oe) :: pn)) (b₀ :: suite) (ts a cls d)) (r : Clauses X n hds l) :
      Clauses X n (.ExceptHandler (some (.Name x np)) (some n) (b₀ :: suite) pos' :: hds) ((c, ts) :: l)
/-- an exception caught, its flight down; sI is the state without it -/
structure Caught (X : Cx) (B : Heap) (a : Addr) (cls : Value) (d : Option Addr) (pins : List (Addr × Obj)) (σ : L2.St) (H : Hp) (sI s : Shared) : Prop where
  inv : Inv X pins σ H sI
  nb : ∀ b o, sI.heap.get? b = some o → b ∉ frs X.stack → B.get? b = some o
  up : sI.heap.UpToSlots s.heap
  fly : HandSPX.FlyingZ B (X.env :: X.outer) a (Zc cls d) s.heap
  na : H a = none
  os : s.os = sI.os
  ag : AllBare s.gens
section
variable {X : Cx} {B : Heap} {a : Addr} {cls : Value} {d : Option Addr} {pins : List (Addr × Obj)} {σ : L2.St} {H : Hp} {sI s : Shared}
theorem Caught.set (c : Caught X B a cls d pins σ H sI s) {h : Heap} (f : HandSPX.FlyingZ B (X.env :: X.outer) a (Zc cls d) h) (u : s.heap.UpToSlots h) : Caught X B a cls d pins σ H sI { s with heap := h } :=
  ⟨c.inv, c.nb, c.up.trans u, f, c.na, c.os, c.ag⟩
theorem Caught.here (c : Caught X B a cls d pins σ H sI s) : Inv X pins σ H s := c.inv.landed c.nb c.fly.1 c.up c.os c.ag
theorem Caught.suite (c : Caught X B a cls d pins σ H sI s) (hf : X.env.frame = some X.env.locals) : ∃ oe, Zc cls d oe ∧ (∃ vs, oe.data = .fields vs) ∧ Inv (X.suite a ((a, oe) :: (X.pn ++ pins))) [] σ H s ∧ s.heap.get? a = some oe := by
  obtain ⟨oe, vs, he, hz, hd⟩ := c.fly.there
  have away : a ∉ frs (X.env :: X.outer) := fun hm => by
    obtain ⟨_, o, e, nf⟩ := c.fly.2.2.1.mem hm
    rw [he] at e
    cases e
    exact nf _ hd
  refine ⟨oe, hz, ⟨_, hd⟩, c.here.suite he hd c.na (fun z => away ?_) (fun hm => ?_), he⟩
  · exact List.mem_filterMap.mpr ⟨X.env, List.mem_cons_self, by rw [hf, z]⟩
  · obtain ⟨e, he', q⟩ := List.mem_filterMap.mp hm
    exact away (List.mem_filterMap.mpr ⟨e, List.mem_cons_of_mem _ he', q⟩)
variable {n : Str} {i : Nat} {Wout : WX} {D : Ends} {hds : List ExceptHandler} {l : List Clause}
theorem Caught.run (hs : X.stack = X.env :: X.outer) (hf : X.env.frame = some X.env.locals) (hN : X.N.Nodup) (hi : X.N[i]? = some n) (hln : X.env.kindOf n = some .local) (tk : Takes X Wout) (k : Clauses X n hds l) :
    ∀ {s : Shared}, Caught X B a cls d pins σ H sI s → wAll X.K i Wout D l cls d σ H → wpAny (model X.prog X.w) X.A (handleBy (.ref a) X.env hds) (SP X pins D) X.xe s := by
  induction k with
  | nil =>
    intro s c w
    refine wpAny_handleBy_nil ?_
    obtain ⟨_, _, _, oe, vs, T, _, _, he, _, hd, h1, _⟩ := id c.fly
    unfold PySem.passOn
    refine wpAny_bind (wpAny_field he hd h1 ?_)
    rw [if_neg (show ¬ ((Value.ref T == Value.none) = true) from by simp)]
    have out : wpAny (model X.prog X.w) X.A (setFlight (.ref a) X.env.frame) (fun _ s4 => wpAny (model X.prog X.w) X.A (throw (.ref a) : Sem Flow) (SP X pins D) X.xe s4) X.xe s := by
      rw [hf]
      exact HandSPX.setFlight_upZ c.fly fun h4 held up4 => wpAny_throw (tk _ _ ⟨a, B, sI, pins, σ, H, cls, d, rfl, c.inv, c.nb, c.up.trans up4, .inr (.inr (by rw [hs]; exact held)), c.na, c.os, c.ag, w⟩)
    first
      | exact wpAny_bind (wpAny_pure (wpAny_bind out))
      | exact wpAny_bind out
  | @cons x cv ts b₀ suite np pos' hds2 l2 hc hsu r ih =>
    intro s c w
    obtain ⟨b, hb1, yes, no⟩ := w
    obtain ⟨oe, hz, hd, S, he⟩ := c.suite hf
    refine wpAny_handleBy_cons (codeAny_handlers_test ?_) (by intro q; cases q)
    have LT : PySem.W.Looks (model X.prog X.w) s.heap (typeOf (.ref a)) cls := fun A Q E s k q => wpAny_typeOf_ref (k _ _ he) (by rw [hz.1]; exact q)
    have LM := PySem.W.exm_one (M := model X.prog X.w) c.here.kIn LT hb1
    have test : ∀ {Q : Value → Shared → Prop} {E : Value → Shared → Prop}, Q cv s → wpAny (model X.prog X.w) (X.A.mark (some (.ref a))) (eval (.Name x np) X.env) Q E s := fun {Q E} q => by
      obtain ⟨hg, hdbg, hm | ⟨hm, hv, hnn⟩⟩ := hc
      · exact ld_glob (X := X.suite a ((a, oe) :: (X.pn ++ pins))) S hg hm q hdbg
      · exact ld_blt (X := X.suite a ((a, oe) :: (X.pn ++ pins))) S hg hm hv q hnn hdbg
    refine test (LM.here ?_)
    cases b with
    | false =>
      show wpAny _ X.A (handleBy (.ref a) X.env hds2) _ _ _
      exact ih c (no rfl)
    | true =>
      have ok := c.inv.ok
      refine codeAny_handlers_suite_as ?_
      refine HandSPX.lands_againZ c.fly fun h4 fl4 up4 => ?_
      obtain ⟨oe4, hz4, hd4, S4, _⟩ := (c.set fl4 up4).suite hf
      refine store_ok (X := X.suite a ((a, oe4) :: (X.pn ++ pins))) (v := .ref a) S4 hN hi (.inl hln) rfl (fun s5 S5 => ?_) (.inr hln)
      refine wpAny_mono ((hsu a oe4 cls d (X.pn ++ pins) hz4 hd4).run [] s5 _ H _ S5 (yes rfl a c.na)) (fun f s6 hsp => ?_) (fun _ _ z => z.elim)
      have fin : ∀ {σ6 : L2.St} {H6 : Hp} {Q : Shared → Prop}, Inv (X.suite a ((a, oe4) :: (X.pn ++ pins))) [] σ6 H6 s6 → (∀ s7, Inv X pins (σ6.set i none) H6 s7 → Q s7) →
          wpAny (model X.prog X.w) X.A (do bindName X.env n .none; unbindBehindTheSuite X.env n pos') (fun _ s7 => Q s7) X.xe s6 := fun {σ6 H6 Q} S6 hq => gone_ok (S6.unsuite ok) hN hi hln hq
      cases f with
      | ret u =>
        obtain ⟨v6, σ6, H6, S6, r6, q6⟩ := hsp
        exact fin S6 fun s7 J7 => ⟨_, _, _, J7, r6, q6⟩
      | _ =>
        obtain ⟨σ6, H6, S6, q6⟩ := hsp
        exact fin S6 fun s7 J7 => ⟨_, _, J7, q6⟩
end
end Bo

/-! ### walking texts; walking defs that raise -/
namespace Bo
open PySem L2
section
variable {S : SS} {fa fb : VE} {fr : VA} {fs fs' : VS} {ft : VT} {kE : PyData × SS → Prop} {kD : PyData → Prop} {kS : FL → Prop} {kA : List PyData × SS → Prop} {i m : Nat} {ds : List PyData}
theorem w_toS {b : Str} {k : Str → Prop} (q : k b) : (toS (.str b)).okTo k := q
theorem w_m0 {g : Str → R PyData} (h : (fa S).okTo fun p => (toS p.1).okTo fun a => (g a).okTo fun z => kE (z, p.2)) : (vM0 g fa S).okTo kE := by
  unfold vM0
  simp only [okTo_bind]
  exact h
theorem w_m1 {g : Str → Str → R PyData} (h : (fa S).okTo fun p => (toS p.1).okTo fun a => (fb p.2).okTo fun q => (toS q.1).okTo fun b => (g a b).okTo fun z => kE (z, q.2)) : (vM1 g fa fb S).okTo kE := by
  unfold vM1
  simp only [okTo_bind]
  exact h
theorem w_gIsdigit {a : Str} (q : kD (.bool (Txt.isdigit a))) : (gIsdigit a).okTo kD := q
theorem w_gIsascii {a : Str} (q : kD (.bool (Txt.isascii a))) : (gIsascii a).okTo kD := q
theorem w_gRemoveprefix {a b : Str} (q : a.length ≤ 100000 ∧ kD (.str (Txt.removeprefix a b))) : (gRemoveprefix a b).okTo kD := okTo_when.mpr q
theorem w_gPartition {a b : Str} (q : ((b.length == 0) = false ∧ a.length ≤ 100000) ∧ kD (.tuple [.str (Txt.partition a b).1, .str (Txt.partition a b).2.1, .str (Txt.partition a b).2.2])) : (gPartition a b).okTo kD := okTo_when.mpr q
theorem w_gSplit {a b : Str} (q : ((b.length == 0) = false ∧ a.length ≤ 100000) ∧ kD (.list ((Txt.split a b).map PyData.str))) : (gSplit a b).okTo kD := okTo_when.mpr q
theorem w_join (h : (fa S).okTo fun p => (toS p.1).okTo fun a => (fb p.2).okTo fun q => ∃ ds, itemsD q.1 = some ds ∧ (joinD a ds).okTo fun z => kE (z, q.2)) : (vJoin fa fb S).okTo kE := by
  unfold vJoin
  simp only [okTo_bind]
  refine h.mono fun p h1 => h1.mono fun a h2 => h2.mono fun q ⟨ds, e, h3⟩ => ?_
  rw [e]
  exact okTo_bind.mpr h3
theorem w_joinO (h : (fa S).okTo fun p => (toS p.1).okTo fun a => (ownD p.2 i).okTo fun ds => (joinD a ds).okTo fun z => kE (z, p.2)) : (vJoinO fa i S).okTo kE := by
  unfold vJoinO
  simp only [okTo_bind]
  exact h
theorem w_joinR (h : (fa S).okTo fun p => (toS p.1).okTo fun a => (ownD p.2 i).okTo fun ds => ∃ ys : List Str, ds = ys.map PyData.str ∧ (ys.map (·.length)).sum + ys.length * a.length ≤ 100000 ∧ kE (.str (Txt.join a ys.reverse), p.2)) : (vJoinR fa i S).okTo kE := by
  unfold vJoinR
  simp only [okTo_bind]
  refine h.mono fun p h1 => h1.mono fun a h2 => h2.mono fun ds ⟨ys, e, h3⟩ => ?_
  subst e
  rw [strs_map]
  exact okTo_when.mpr h3
theorem w_gInS {neg : Bool} {c : Nat} {z : Str} (q : kD (.bool (if neg then !decide (c ∈ z.cps.toList) else decide (c ∈ z.cps.toList)))) : (gInS neg (.str ⟨#[c]⟩) (.str z)).okTo kD := q
theorem w_gIxS {z : Str} {j : Int} (q : z.length ≤ 100000 ∧ ∃ c, atI z.cps.toList j = some c ∧ kD (.str ⟨#[c]⟩)) : (gIxS (.str z) (.int j)).okTo kD := by
  obtain ⟨h1, c, h2, h3⟩ := q
  refine okTo_when.mpr ⟨h1, ?_⟩
  rw [h2]
  exact h3
theorem w_gSlS {z : Str} {lo hi : Option Int} (q : z.length ≤ 100000 ∧ kD (.str (cutS z lo hi))) : (gSlS (.str z) lo hi).okTo kD := okTo_when.mpr q
theorem w_gIntS {a : Str} (q : ∃ n, PySem.intText? a = some n ∧ a.length ≤ 640 ∧ kD (.int n)) : (gIntS [.str a]).okTo kD := by
  obtain ⟨n, h1, h2⟩ := q
  unfold gIntS
  simp only
  rw [h1]
  exact okTo_when.mpr h2
theorem w_iterS (h : (fa S).okTo fun p => (toS p.1).okTo fun x => kA (signsD x, p.2)) : (vIterS fa S).okTo kA := by
  unfold vIterS
  simp only [okTo_bind]
  exact h
theorem w_gRepS {x : Str} {j : Int} (q : (2 ≤ j ∧ j ≤ 1000 ∧ x.length = 1) ∧ kD (.str (repS x j.toNat))) : (gRepS (.str x) (.int j)).okTo kD := okTo_when.mpr q
theorem w_gCatS {x y : Str} (q : x.length + y.length ≤ 100000 ∧ kD (.str (x ++ y))) : (gCatS (.str x) (.str y)).okTo kD := okTo_when.mpr q
theorem w_gLenS {x : Str} (q : x.length ≤ 100000 ∧ kD (.int x.length)) : (gLenS [.str x]).okTo kD := okTo_when.mpr q
theorem w_gStrI {j : Int} (q : j.natAbs < 2 ^ 1900 ∧ kD (.str (toString j))) : (gStrI [.int j]).okTo kD := okTo_when.mpr q
theorem w_fmt (h : (fa S).okTo fun p => (toFmt p.1).okTo fun y => kE (.str y, p.2)) : (vFmt fa S).okTo kE := by
  unfold vFmt
  simp only [okTo_bind]
  exact h
theorem w_toFmtS {y : Str} {k : Str → Prop} (q : y.length ≤ 100000 ∧ k y) : (toFmt (.str y)).okTo k := okTo_when.mpr q
theorem w_toFmtI {j : Int} {k : Str → Prop} (q : j.natAbs < 2 ^ 1900 ∧ k (toString j)) : (toFmt (.int j)).okTo k := okTo_when.mpr q
theorem w_joined {gs : List VE} (h : (vJs gs Str.empty S).okTo fun p => kE (.str p.1, p.2)) : (vJoined gs S).okTo kE := by
  unfold vJoined
  simp only [okTo_bind]
  exact h
theorem w_jsNil {acc : Str} {k : Str × SS → Prop} (q : k (acc, S)) : (vJs [] acc S).okTo k := q
theorem w_jsCons {f : VE} {gs : List VE} {acc : Str} {k : Str × SS → Prop} (h : (f S).okTo fun p => (toS p.1).okTo fun y => (acc ++ y).length ≤ 100000 ∧ (vJs gs (acc ++ y) p.2).okTo k) : (vJs (f :: gs) acc S).okTo k := by
  unfold vJs
  simp only [okTo_bind, okTo_when]
  exact h
theorem w_gMin2 {a b : Int} (q : kD (.int (if b < a then b else a))) : (gMin2 [.int a, .int b]).okTo kD := q
theorem w_gEqS {a b : Str} (q : kD (.bool (decide (a = b)))) : (gEq (.str a) (.str b)).okTo kD := q
theorem w_gNeS {a b : Str} (q : kD (.bool (!decide (a = b)))) : (gNe (.str a) (.str b)).okTo kD := q
/-- a statement that ends in a known state -/
theorem w_cut (S1 : SS) (h : (fs S).okTo fun fl => fl = .nx S1) (q : (fs' S1).okTo kS) : (vSeq fs fs' S).okTo kS :=
  w_seq (R.okTo.mono h fun fl e => by subst e; exact q)
/-! defs that raise -/
theorem endsBind {α β : Type} {x : R α} {f : α → R β} {k : β → Prop} {ke : Exc → Prop} : (x.bind f).ends k ke ↔ x.ends (fun a => (f a).ends k ke) ke := by
  cases x <;> exact Iff.rfl
theorem endsOk {α : Type} {x : R α} {k : α → Prop} {ke : Exc → Prop} (h : x.okTo k) : x.ends k ke := by
  cases x with
  | ok a => exact h
  | err e => exact h.elim
  | bad => exact h.elim
theorem endsWhen {α : Type} {c : Prop} [Decidable c] {x : R α} {k : α → Prop} {ke : Exc → Prop} (h : c ∧ x.ends k ke) : (R.when c x).ends k ke := by
  rw [R.when_pos h.1]
  exact h.2
variable {ke : Exc → Prop}
theorem e_seq (h : (fs S).ends (fun fl => match fl with
    | .nx S1 => (fs' S1).ends kS ke
    | f => kS f) ke) : (vSeq fs fs' S).ends kS ke := by
  unfold vSeq
  refine endsBind.mpr (h.mono (fun fl q => ?_) fun _ z => z)
  cases fl <;> exact q
theorem e_cut (S1 : SS) (h : (fs S).okTo fun fl => fl = .nx S1) (q : (fs' S1).ends kS ke) : (vSeq fs fs' S).ends kS ke :=
  e_seq (endsOk (R.okTo.mono h fun fl e => by subst e; exact q))
theorem e_ifS (h : (ft S).okTo fun p => if p.1 = true then (fs p.2).ends kS ke else (fs' p.2).ends kS ke) : (vIfS ft fs fs' S).ends kS ke := by
  unfold vIfS
  refine endsBind.mpr (endsOk (h.mono fun p q => ?_))
  split at q
  · rename_i c
    rw [if_pos c]
    exact q
  · rename_i c
    rw [if_neg c]
    exact q
theorem e_raise {cls : String} (h : (fr S).okTo fun p => ∃ d, p.1 = [d] ∧ ke ⟨cls, some d, none⟩) : (vRaise cls fr S).ends kS ke := by
  unfold vRaise
  refine endsBind.mpr (endsOk (h.mono fun p ⟨d, e, q⟩ => ?_))
  rw [e]
  exact q
theorem e_ret (h : (fa S).ends (fun p => kS (.rt p.1 p.2)) ke) : (vRet fa S).ends kS ke := by
  unfold vRet
  exact endsBind.mpr h
theorem e_asg {fg : PyData → SS → R SS} (h : (fa S).ends (fun p => (fg p.1 p.2).okTo fun S1 => kS (.nx S1)) ke) : (vAsg fa fg S).ends kS ke := by
  unfold vAsg
  exact endsBind.mpr (h.mono (fun p q => endsBind.mpr (endsOk q)) fun _ z => z)
theorem e_drop (h : (fa S).ends (fun p => kS (.nx p.2)) ke) : (vDrop fa S).ends kS ke := by
  unfold vDrop
  exact endsBind.mpr h
theorem e_denP {N : Nat} (h : (fs (startS N ds)).ends (fun fl => match fl with
    | .nx _ => kD .none
    | .rt d _ => kD d
    | _ => False) ke) : (denP N fs ds).ends kD ke := by
  unfold denP endP
  refine endsBind.mpr (h.mono (fun fl q => ?_) fun _ z => z)
  cases fl <;> exact q
end
end Bo

/-! ### more rules: xs.index(x) for lists of data -/
namespace Bo
open PySem L2
section
variable {K : PySem.W.Frag} {n : Nat} {C : Ct K n} {B : Hp}
end
end Bo

/-! ### list(range(a, b)) as a new list; a walk over a dict's values -/
namespace Bo
open PySem PySem.Spec PyProof.Rows L2
variable {K : PySem.W.Frag} {n : Nat} {C : Ct K n} {B : Hp}
/-! sorted(d), where the keys and what they hold are ints -/
/-! xs[::-1] of a slot's own list -/
/-! xs.index(x) on data, inside a comprehension -/
end Bo

/-! ### objects: methods, their calls, objects made, errors -/
namespace Bo
open PySem L2
section
theorem passAll {X : Cx} {W : WX} (tk : Takes X W) : Passes (L2.CX X.prog X.w) X (fun cls d H => ∀ σ, W cls d σ H) := fun pins σ H s e s' I h => by
  obtain ⟨a, B, H', cls, d, h1, h2, h3, h4, h5, h6, h7, h8⟩ := h
  exact passAt tk σ pins H s e s' I ⟨a, B, H', cls, d, h1, h2, h3, h4, h5, h6, h7, h8 σ⟩
theorem passNo {X : Cx} : Passes (L2.CX X.prog X.w) X (fun _ _ _ => False) := fun pins σ H s e s' I h => by
  obtain ⟨a, B, H', cls, d, h1, h2, h3, h4, h5, h6, h7, h8⟩ := h
  exact h8.elim
end
section
variable {K : PySem.W.Frag} {n : Nat} {C : Ct K n} {σ : L2.St} {H B F : Hp} {S : SS} {nm f : Str} {c : Addr} {i : Nat}
/-- what stands beside an object that was called -/
structure Bes (H F B H' B' : Hp) : Prop where
  keep : ∀ p o, F p = none → H p = some o → H' p = some o
  sB : Same B B'
  bh : Same B' H'
  fz : ∀ p o, B' p = some o → B p = some o ∨ H p = none ∨ F p ≠ none
/-- the object behind a call -/
structure Aft (K : PySem.W.Frag) (H F H' F' B' : Hp) (a : Addr) (nm : Str) (fs : List (Str × FV)) : Prop where
  at_ : ObAt K F' B' a nm fs
  cell : ∀ p o, F' p = some o → H' p = some o ∧ B' p = none
  new : ∀ p o, F' p = some o → F p ≠ none ∨ H p = none
/-- what is told of an error that leaves -/
def LeavesO (K : PySem.W.Frag) (L : Cls) (nm : Str) (H F B : Hp) (a : Addr) (E : XK) (e : Exc) : Prop := ∀ c d v H' B', L.at_ e.cls = some c → Bes H F B H' B' → (∀ fs, e.ob = some fs → ∃ F', Aft K H F H' F' B' a nm fs) → (∀ y, e.arg = some y → Da K B' v y) → XD L e v d H' → E (.ref c) d H'
/-- a def whose first argument is an object -/
def spO (K : PySem.W.Frag) (L : Cls) (nm : Str) (m : Nat) (den : List (Str × FV) → List PyData → R (PyData × List (Str × FV))) : Sp := fun vs H Q E => ∃ (a : Addr) (us : List V) (fs : List (Str × FV)) (ds : List PyData) (B F : Hp), vs = .ref a :: us ∧ ObAt K F B a nm fs ∧ (∀ p o, F p = some o → H p = some o ∧ B p = none) ∧
  DaAll K B us ds ∧ Same B H ∧ ds.length = m ∧ (den fs ds).ends (fun z => ∀ v H' B' F', Bes H F B H' B' → Aft K H F H' F' B' a nm z.2 → Da K B' v z.1 → Q v H') (LeavesO K L nm H F B a E)
theorem len_O {L : Cls} {m : Nat} {den : List (Str × FV) → List PyData → R (PyData × List (Str × FV))} {vs : List V} {Q : VK} {E : XK} (h : spO K L nm m den vs H Q E) : vs.length = m + 1 := by
  obtain ⟨a, us, fs, ds, B, F, rfl, _, _, d, _, e, _⟩ := h
  rw [List.length_cons, daa_len d, e]
/-! behind a call -/
theorem RepF.notF (R : RepF C F σ H B S) {j : Nat} {s : SV} {q : Addr} (h : S[j]? = some (some s)) (m : s.mine = true) (hv : σ[j]? = some (some (.ref q))) : F q = none := by
  cases e : F q with
  | none => rfl
  | some o =>
    rcases R.rep.ownf j s q h m hv with z | z
    · rw [ext_F e] at z
      cases z
    · exact absurd (List.mem_of_getElem? z) (R.sd q o e).2.2
theorem RepF.baseAft {H' B' : Hp} (R : RepF C F σ H B S) (b : Bes H F B H' B') : Base C H' B' := by
  have Rb := R.rep.base.less R.sd
  refine ⟨fun p o np z => ?_, Rb.b0.trans b.sB, b.bh, fun p o z => ?_⟩
  · refine b.keep p o ?_ (Rb.keep p o np z)
    cases e : F p with
    | none => rfl
    | some u =>
      rw [(R.sd p u e).1] at z
      cases z
  · rcases b.fz p o z with z | z | z
    · exact Rb.fr p o z
    · exact .inr (ext_none (R.rep.new z).1).1
    · cases e : F p with
      | none => exact absurd e z
      | some u => exact .inr (R.sd p u e).1
theorem RepF.aft {H' B' F' : Hp} {a : Addr} {fs : List (Str × FV)} (R : RepF C F σ H B S) (b : Bes H F B H' B') (A : Aft K H F H' F' B' a nm fs) : Side C F' ∧ Rep0 (C.ext F') σ H' B' S := by
  have sd : Side C F' := fun p o z => by
    rcases A.new p o z with q | q
    · cases e : F p with
      | none => exact absurd e q
      | some u => exact R.sd p u e
    · obtain ⟨h1, h2, h3⟩ := R.rep.new q
      refine ⟨(ext_none h1).1, ?_, h3⟩
      cases e : C.B0 p with
      | none => rfl
      | some u =>
        rw [R.rep.base.b0 p u e] at h2
        cases h2
  have Rb := R.baseAft b
  have own : ∀ {j : Nat} {s : SV} {q : Addr}, S[j]? = some (some s) → s.mine = true → σ[j]? = some (some (.ref q)) → (∀ o, H q = some o → H' q = some o) ∧ B' q = none := fun {j s q} h m hv => by
    have nF := R.notF h m hv
    refine ⟨fun o z => b.keep q o nF z, ?_⟩
    obtain ⟨q', o, e1, e2, e3⟩ := R.rep.own_at h m
    rw [hv] at e1
    cases e1
    cases e : B' q with
    | none => rfl
    | some u =>
      rcases b.fz q u e with z | z | z
      · rw [e3] at z
        cases z
      · rw [e2] at z
        cases z
      · exact absurd nF z
  refine ⟨sd, ⟨⟨fun p o np z => ?_, Rb.b0, Rb.bh, fun p o z => ?_⟩, R.rep.len, fun j s h => ?_, R.rep.dis, fun j s q h m e => ?_, R.rep.box⟩⟩
  · cases e : F' p with
    | none =>
      rw [ext_N e] at z
      exact Rb.keep p o np z
    | some u =>
      rw [ext_F e] at z
      cases z
      exact (A.cell p _ e).1
  · refine (Rb.fr p o z).imp_right fun y => ?_
    cases e : F' p with
    | none => rw [ext_N e]; exact y
    | some u =>
      rw [(A.cell p u e).2] at z
      cases z
  · obtain ⟨v, hv, r⟩ := R.rep.slot j s h
    refine ⟨v, hv, ?_⟩
    cases s with
    | dat d => exact da_mono b.sB r
    | obj nm fs => exact r
    | scr ns =>
      obtain ⟨q, h1, h2⟩ := r
      exact ⟨q, h1, sm_l b.sB h2⟩
    | own ds =>
      obtain ⟨q, vs, rfl, h2, h3, h4⟩ := r
      obtain ⟨o1, o2⟩ := own h rfl hv
      exact ⟨q, vs, rfl, o1 _ h2, o2, daa_mono b.sB h4⟩
    | dic ds =>
      obtain ⟨q, vs, rfl, h2, h3, h4⟩ := r
      obtain ⟨o1, o2⟩ := own h rfl hv
      exact ⟨q, vs, rfl, o1 _ h2, o2, dpks_mono b.sB h4⟩
  · refine (R.rep.ownf j s q h m e).imp_left fun z => ?_
    obtain ⟨z1, z2⟩ := ext_none z
    cases e' : F' q with
    | none => rw [ext_N e']; exact z1
    | some u =>
      obtain ⟨q', o, e1, e2, e3⟩ := R.rep.own_at h m
      rw [e] at e1
      cases e1
      rcases A.new q u e' with y | y
      · exact absurd z2 y
      · rw [e2] at y
        cases y
/-- the promise of a def is met -/
theorem callO {L : Cls} {m : Nat} {den : List (Str × FV) → List PyData → R (PyData × List (Str × FV))} {E : XK} {Q : VK} {fs : List (Str × FV)} {a : Addr} {vs : List V} {ds : List PyData} (R : RepF C F σ H B S) (q1 : S[i]? = some (some (.obj nm fs))) (q2 : σ[i]? = some (some (.ref a))) (q3 : ∀ q, C.ob = some q → q = (a, nm)) (q4 : ObAt K F B a nm fs)
    (lk : ∀ e v d H, C.er e v H → XD L e v d H → ∀ c, L.at_ e.cls = some c → E (.ref c) d H) (d : DaAll K B vs ds) (l : ds.length = m)
    (h : Post C (den fs ds) fun z => ∀ v H' B', Rep C σ H' B' (S.set i (some (.obj nm z.2))) → Same B B' → Da K B' v z.1 → Q v H') : spO K L nm m den (.ref a :: vs) H Q E := by
  refine ⟨a, vs, fs, ds, B, F, rfl, q4, fun p o z => R.cell z, d, R.rep.base.bh, l, ?_⟩
  cases q : den fs ds with
  | bad =>
    rw [q] at h
    exact h.elim
  | ok z =>
    rw [q] at h
    intro v H' B' F' b A dv
    obtain ⟨sd, R'⟩ := R.aft b A
    exact h v H' B' ⟨F', R.now q1 q2 q3 sd R' A.at_⟩ b.sB dv
  | err e =>
    rw [q] at h
    have h : C.Out e := h
    intro c d v H' B' hc b A da xd
    refine lk e v d H' (h H' B' v (R.baseAft b) (fun a' nm' fs' z1 z2 => ?_) da) xd c hc
    cases q3 _ z1
    obtain ⟨F', A⟩ := A fs' z2
    exact ⟨F', (R.aft b A).1, A.cell, A.at_⟩
/-- a call that does not raise: the context's errors are no matter -/
theorem callO0 {L : Cls} {m : Nat} {den : List (Str × FV) → List PyData → R (PyData × List (Str × FV))} {E : XK} {Q : VK} {fs : List (Str × FV)} {a : Addr} {vs : List V} {ds : List PyData} (R : RepF C F σ H B S) (q1 : S[i]? = some (some (.obj nm fs))) (q2 : σ[i]? = some (some (.ref a))) (q3 : ∀ q, C.ob = some q → q = (a, nm)) (q4 : ObAt K F B a nm fs)
    (d : DaAll K B vs ds) (l : ds.length = m) (h : Post C (den fs ds).noErr fun z => ∀ v H' B', Rep C σ H' B' (S.set i (some (.obj nm z.2))) → Same B B' → Da K B' v z.1 → Q v H') : spO K L nm m den (.ref a :: vs) H Q E := by
  refine ⟨a, vs, fs, ds, B, F, rfl, q4, fun p o z => R.cell z, d, R.rep.base.bh, l, ?_⟩
  cases q : den fs ds with
  | bad =>
    rw [q] at h
    exact h.elim
  | err e =>
    rw [q] at h
    exact h.elim
  | ok z =>
    rw [q] at h
    intro v H' B' F' b A dv
    obtain ⟨sd, R'⟩ := R.aft b A
    exact h v H' B' ⟨F', R.now q1 q2 q3 sd R' A.at_⟩ b.sB dv
/-- g(x, ..) -/
def vCallO (nm : Str) (m : Nat) (den : List (Str × FV) → List PyData → R (PyData × List (Str × FV))) (i : Nat) (fa : VA) : VE := fun S => (objD nm S i).bind fun _ => (fa S).bind fun p => (objD nm p.2 i).bind fun fs => R.when (p.1.length = m) ((den fs p.1).noErr.bind fun z => .ok (z.1, p.2.set i (some (.obj nm z.2))))
theorem s_callO {L : Cls} {m : Nat} {den : List (Str × FV) → List PyData → R (PyData × List (Str × FV))} {E : XK} {ta : TA} {fa : VA} (ha : SA C ta fa) : SE C (tCall (spO K L nm m den) [] E (tCons (tVar i) ta)) (vCallO nm m den i fa) := by
  rintro σ H B S Q ⟨F, R⟩ h
  obtain ⟨fs0, a0, _, q2, _, _, h⟩ := obj_of R (post_bind.mp h)
  refine ⟨_, q2, ?_⟩
  replace h := post_bind.mp h
  refine ha σ H B S _ ⟨F, R⟩ (h.mono fun p h1 vs H1 B1 R1 e1 d1 => ?_)
  obtain ⟨F1, R1⟩ := R1
  obtain ⟨fs, a, p1, p2, p3, p4, h1⟩ := obj_of R1 (post_bind.mp h1)
  rw [q2] at p2
  cases p2
  obtain ⟨l, h1⟩ := post_when.mp h1
  rw [List.append_nil]
  exact callO0 R1 p1 q2 p3 p4 d1 l ((post_bind.mp h1).mono fun z h2 v H' B' R' e' dv => h2 v H' B' R' (e1.trans e') dv)
/-- x.m(..) -/
def vMeth (nm : Str) (mt : Str) (m : Nat) (den : List (Str × FV) → List PyData → R (PyData × List (Str × FV))) (i : Nat) (fa : VA) : VE := fun S => (objD nm S i).bind fun fs0 => R.when ((fs0.lookup mt).isNone = true) ((fa S).bind fun p => (objD nm p.2 i).bind fun fs => R.when (p.1.length = m) ((den fs p.1).noErr.bind fun z => .ok (z.1, p.2.set i (some (.obj nm z.2)))))
theorem s_meth {L : Cls} {mt : Str} {m : Nat} {den : List (Str × FV) → List PyData → R (PyData × List (Str × FV))} {E : XK} {ta : TA} {fa : VA} (k : ClsK K nm c) (ha : SA C ta fa) : SE C (tMeth c mt (spO K L nm m den) [] E (tVar i) ta) (vMeth nm mt m den i fa) := by
  rintro σ H B S Q ⟨F, R⟩ h
  obtain ⟨fs0, a0, _, q2, _, q4, h⟩ := obj_of R (post_bind.mp h)
  obtain ⟨l0, h⟩ := post_when.mp h
  obtain ⟨dx, us, w1, w2⟩ := q4.ins k.at_
  refine ⟨_, q2, a0, dx, us, rfl, (R.cell w1).1, look_none w2 (Option.isNone_iff_eq_none.mp l0), ?_⟩
  replace h := post_bind.mp h
  refine ha σ H B S _ ⟨F, R⟩ (h.mono fun p h1 vs H1 B1 R1 e1 d1 => ?_)
  obtain ⟨F1, R1⟩ := R1
  obtain ⟨fs, a, p1, p2, p3, p4, h1⟩ := obj_of R1 (post_bind.mp h1)
  rw [q2] at p2
  cases p2
  obtain ⟨l, h1⟩ := post_when.mp h1
  rw [List.append_nil]
  exact callO0 R1 p1 q2 p3 p4 d1 l ((post_bind.mp h1).mono fun z h2 v H' B' R' e' dv => h2 v H' B' R' (e1.trans e') dv)
/-- .. that may raise -/
def vMethX (nm : Str) (mt : Str) (m : Nat) (den : List (Str × FV) → List PyData → R (PyData × List (Str × FV))) (i : Nat) (fa : VA) : VE := fun S => (objD nm S i).bind fun fs0 => R.when ((fs0.lookup mt).isNone = true) ((fa S).bind fun p => (objD nm p.2 i).bind fun fs => R.when (p.1.length = m) ((den fs p.1).bind fun z => .ok (z.1, p.2.set i (some (.obj nm z.2)))))
theorem s_methX {L : Cls} {W : WX} {mt : Str} {m : Nat} {den : List (Str × FV) → List PyData → R (PyData × List (Str × FV))} {ta : TA} {fa : VA} (lk : LinkE C L W) (k : ClsK K nm c) (ha : SA C ta fa) : SE C (tMeth c mt (spO K L nm m den) [] (fun cls d H => ∀ σ, W cls d σ H) (tVar i) ta) (vMethX nm mt m den i fa) := by
  rintro σ H B S Q ⟨F, R⟩ h
  obtain ⟨fs0, a0, _, q2, _, q4, h⟩ := obj_of R (post_bind.mp h)
  obtain ⟨l0, h⟩ := post_when.mp h
  obtain ⟨dx, us, w1, w2⟩ := q4.ins k.at_
  refine ⟨_, q2, a0, dx, us, rfl, (R.cell w1).1, look_none w2 (Option.isNone_iff_eq_none.mp l0), ?_⟩
  replace h := post_bind.mp h
  refine ha σ H B S _ ⟨F, R⟩ (h.mono fun p h1 vs H1 B1 R1 e1 d1 => ?_)
  obtain ⟨F1, R1⟩ := R1
  obtain ⟨fs, a, p1, p2, p3, p4, h1⟩ := obj_of R1 (post_bind.mp h1)
  rw [q2] at p2
  cases p2
  obtain ⟨l, h1⟩ := post_when.mp h1
  rw [List.append_nil]
  exact callO R1 p1 q2 p3 p4 (fun e v d H' z xd c hc σ' => lk e v d σ' H' z xd c hc) d1 l ((post_bind.mp h1).mono fun z h2 v H' B' R' e' dv => h2 v H' B' R' (e1.trans e') dv)
/-! ### errors in defs of an object: they tell it -/
def Exc.told (e : Exc) (fs : List (Str × FV)) : Exc := ⟨e.cls, e.arg, some fs⟩
theorem RepF.told {fs : List (Str × FV)} {a : Addr} {cls : String} {y : Option PyData} (R : RepF C F σ H B S) (q3 : ∀ q, C.ob = some q → q = (a, nm)) (q4 : ObAt K F B a nm fs) {H' B' : Hp} (sH : Same H H') (sB : Same B B') (nb : ∀ p o, F p = some o → B' p = none) : ObT C H' B' ⟨cls, y, some fs⟩ := fun a' nm' fs' z1 z2 => by
  cases q3 _ z1
  cases z2
  exact ⟨F, R.sd, fun p o z => ⟨sH p o (R.cell z).1, nb p o z⟩, q4.mono sB⟩
def vRaiseO (nm : Str) (i : Nat) (cls : String) (fa : VA) : VS := fun S => (fa S).bind fun p => (objD nm p.2 i).bind fun fs => match p.1 with
  | [d] => .err ⟨cls, some d, some fs⟩
  | _ => .bad
theorem st_raiseO {cls : String} {L : Cls} {W : WX} {ce : Addr} {f : Str} {ta : TA} {fa : VA} (lk : LinkE C L W) (hc : L.at_ cls = some ce) (hf : L.fld cls = f) (T : OexC K ce) (nf : PySem.W.findIn K (.ref ce) f = some none) (ha : SA C ta fa) :
    SSt C (fun _ σ H => tMkO ce (spIni K f) [] ta σ H fun cl d H' => W cl d σ H') (vRaiseO nm i cls fa) := by
  intro σ H B S D R h
  replace h := post_bind.mp h
  refine ha σ H B S _ R (h.mono fun p h1 vs H1 B1 R1 e1 d1 => ?_)
  obtain ⟨F, R1⟩ := R1
  obtain ⟨ds, S1⟩ := p
  obtain ⟨fs, ao, q1, q2, q3, q4, h1⟩ := obj_of R1 (post_bind.mp h1)
  dsimp only at h1 d1 R1
  split at h1
  · rename_i d ed
    clear ed
    cases d1 with
    | cons dv t =>
      rename_i v vs'
      cases t
      refine ⟨(by show 1 ≤ 1000; decide), fun a ha => ?_⟩
      refine ⟨a, ce, v, by simp, upd_same, T, nf, fun dx hd ne => ?_⟩
      have hd1 : H1 dx = none := by
        rw [upd_ne ne] at hd
        exact hd
      refine ⟨rfl, dx, [(f, v)], upd_same, ?_, hd1, ?_⟩
      · rw [upd_ne ne, upd_same]
      · rw [upd_del ha ne]
        have R2 : Rep C σ (upd H1 dx (.xd [(f, v)])) B1 S1 := Rep.loose ⟨F, R1⟩ hd1
        refine lk ⟨cls, some d, some fs⟩ v (some dx) σ _ (h1 _ B1 v R2.base (R1.told q3 q4 (sm_new hd1) (Same.refl _) fun p o z => (R1.cell z).2) fun a e => ?_) ⟨dx, rfl, ?_⟩ ce hc
        · cases e
          exact dv
        · rw [upd_same, hf]
  · exact h1.elim
def vRaiseO0 (nm : Str) (i : Nat) (cls : String) (fa : VA) : VS := fun S => (fa S).bind fun p => (objD nm p.2 i).bind fun fs => R.when (p.1.length ≤ 100000) (.err ⟨cls, none, some fs⟩)
theorem st_raiseO0 {cls : String} {L : Cls} {W : WX} {ce : Addr} {ta : TA} {fa : VA} (lk : LinkE C L W) (hc : L.at_ cls = some ce) (ha : SA C ta fa) :
    SSt C (fun _ σ H => ta σ H fun vs H1 => vs.length ≤ sizeLine ∧ W (.ref ce) none σ H1) (vRaiseO0 nm i cls fa) := by
  intro σ H B S D R h
  replace h := post_bind.mp h
  refine ha σ H B S _ R (h.mono fun p h1 vs H1 B1 R1 e1 d1 => ?_)
  obtain ⟨F, R1⟩ := R1
  obtain ⟨fs, ao, q1, q2, q3, q4, h1⟩ := obj_of R1 (post_bind.mp h1)
  obtain ⟨k, h1⟩ := post_when.mp h1
  refine ⟨line_le (by rw [daa_len d1]; exact k), ?_⟩
  exact lk ⟨cls, none, some fs⟩ .non none σ _ (h1 _ B1 .non (Rep.base ⟨F, R1⟩) (R1.told q3 q4 (Same.refl _) (Same.refl _) fun p o z => (R1.cell z).2) fun a e => nomatch e) rfl ce hc
/-- a call of a def that may raise, in a def of an object -/
def R.told {α : Type} (x : R α) (fs : List (Str × FV)) : R α := match x with
  | .ok a => .ok a
  | .err e => .err (e.told fs)
  | .bad => .bad
def vCallXO (nm : Str) (i : Nat) (m : Nat) (den : List PyData → R PyData) (fa : VA) : VE := fun S => (fa S).bind fun p => (objD nm p.2 i).bind fun fs => R.when (p.1.length = m) (((den p.1).told fs).bind fun z => .ok (z, p.2))
theorem s_callXO {m : Nat} {den : List PyData → R PyData} {L : Cls} {W : WX} {ta : TA} {fa : VA} (lk : LinkE C L W) (ha : SA C ta fa) : SE C (tCallS (spX K L m den) (WE W) ta) (vCallXO nm i m den fa) := by
  intro σ H B S Q R h
  replace h := post_bind.mp h
  refine ha σ H B S _ R (h.mono fun p h1 vs H1 B1 R1 e1 d1 => ?_)
  obtain ⟨F, R1⟩ := R1
  obtain ⟨fs, ao, q1, q2, q3, q4, h1⟩ := obj_of R1 (post_bind.mp h1)
  obtain ⟨k, h1⟩ := post_when.mp h1
  replace h1 := post_bind.mp h1
  refine ⟨p.1, B1, d1, R1.rep.base.bh, k, ?_⟩
  cases q : den p.1 with
  | bad =>
    rw [q] at h1
    exact h1.elim
  | ok z =>
    rw [q] at h1
    exact fun v H' B' sH sB bh fz dv => h1 v H' B' (Rep.after ⟨F, R1⟩ sH sB bh fz) (e1.trans sB) dv
  | err e =>
    rw [q] at h1
    have o : C.Out (e.told fs) := h1
    intro c d v H' B' hc sH sB bh fz da xd
    refine lk (e.told fs) v d σ H' (o H' B' v (Base.after ⟨F, R1⟩ sH sB bh fz) (R1.told q3 q4 sH sB fun p o z => ?_) da) xd c hc
    cases eb : B' p with
    | none => rfl
    | some u =>
      obtain ⟨z1, z2⟩ := R1.cell z
      rcases fz p u eb with y | y
      · rw [z2] at y
        cases y
      · rw [z1] at y
        cases y
/-! ### a def by its body -/
def ctO (H B F : Hp) (a : Addr) (nm : Str) (er : Exc → V → Hp → Prop) : Ct K 0 := ⟨fun p => match F p with | some _ => none | none => H p, B, [], rfl, er, some (a, nm)⟩
theorem ctO_H0 {er : Exc → V → Hp → Prop} {a p : Addr} (h : F p = none) : (ctO (K := K) H B F a nm er).H0 p = H p := by
  show (match F p with | some _ => none | none => H p) = _
  rw [h]
theorem ctO_H0F {er : Exc → V → Hp → Prop} {a p : Addr} {o : HO} (h : F p = some o) : (ctO (K := K) H B F a nm er).H0 p = none := by
  show (match F p with | some _ => none | none => H p) = _
  rw [h]
theorem rep_startO {x : Str} {N : List Str} {a : Addr} {us : List V} {ds : List PyData} {fs : List (Str × FV)} {er : Exc → V → Hp → Prop} (o : ObAt K F B a nm fs) (ce : ∀ p o, F p = some o → H p = some o ∧ B p = none) (d : DaAll K B us ds) (bh : Same B H) :
    RepF (ctO (K := K) H B F a nm er) F (L2.start (x :: N) (.ref a :: us)) H B (some (.obj nm fs) :: startS N.length ds) := by
  have e0 : L2.start (x :: N) (.ref a :: us) = some (.ref a) :: L2.start N us := by
    unfold L2.start
    rw [List.map_cons, List.length_cons, List.length_cons, Nat.add_sub_add_right]
    rfl
  rw [e0]
  have at_ : ∀ (i : Nat) u, (some (SV.obj nm fs) :: startS N.length ds)[i]? = some (some u) → (i = 0 ∧ u = .obj nm fs) ∨ ∃ j d, i = j + 1 ∧ ds[j]? = some d ∧ u = .dat d := fun i u h => by
    cases i with
    | zero => exact .inl ⟨rfl, (Option.some.inj (Option.some.inj (show some (some (SV.obj nm fs)) = some (some u) from h))).symm⟩
    | succ j =>
      obtain ⟨d, h1, h2⟩ := startS_some (show (startS N.length ds)[j]? = some (some u) from h)
      exact .inr ⟨j, d, rfl, h1, h2⟩
  have no : ∀ (i : Nat) u, (some (SV.obj nm fs) :: startS N.length ds)[i]? = some (some u) → u.mine = true → False := fun i u h m => by
    rcases at_ i u h with ⟨_, rfl⟩ | ⟨_, d, _, _, rfl⟩ <;> cases m
  refine ⟨fun p o z => ⟨ctO_H0F z, (ce p o z).2, fun h => nomatch h⟩, ⟨⟨fun p o _ z => ?_, Same.refl _, bh, fun p o z => .inl z⟩, ?_, fun i u h => ?_, fun i j s u q h1 h2 m1 m2 e1 e2 => (no i s h1 m1).elim, fun i s q h m e => (no i s h m).elim, fun i q h => nomatch (show (none : Option (Option Addr)) = some (some q) from h)⟩, fun i j s u h1 h2 m1 m2 => ?_, fun i nm' fs' h => ?_⟩
  · cases e : F p with
    | none =>
      rw [ext_N e, ctO_H0 e] at z
      exact z
    | some u =>
      rw [ext_F e] at z
      cases z
      exact (ce p _ e).1
  · unfold startS L2.start
    rw [List.length_cons, List.length_cons, List.length_append, List.length_append, List.length_map, List.length_map, List.length_replicate, List.length_replicate, daa_len d]
  · rcases at_ i u h with ⟨rfl, rfl⟩ | ⟨j, d', rfl, h1, rfl⟩
    · exact ⟨_, rfl, trivial⟩
    · obtain ⟨v, h2, h3⟩ := daa_get d h1
      exact ⟨v, start_get h2, h3⟩
  · rcases at_ i s h1 with ⟨rfl, rfl⟩ | ⟨_, d, _, _, rfl⟩
    · rcases at_ j u h2 with ⟨rfl, rfl⟩ | ⟨_, d, _, _, rfl⟩
      · rfl
      · cases m2
    · cases m1
  · rcases at_ i _ h with ⟨rfl, e⟩ | ⟨_, d, _, _, e⟩
    · cases e
      exact ⟨a, rfl, fun q z => (Option.some.inj z).symm, o⟩
    · cases e
def endO (nm : Str) (x : R FL) : R (PyData × List (Str × FV)) := x.bind fun fl => match fl with
  | .nx S => (objD nm S 0).bind fun fs => .ok (.none, fs)
  | .rt d S => (objD nm S 0).bind fun fs => .ok (d, fs)
  | _ => .bad
def denO (nm : Str) (N : Nat) (f : VS) : List (Str × FV) → List PyData → R (PyData × List (Str × FV)) := fun fs ds => endO nm (f (some (.obj nm fs) :: startS (N - 1) ds))
theorem run_O1 {m : Nat} {x : Str} {N : List Str} {f : VS} {t : TS} {vs : List V} {Q : VK} {E : XK} {L : Cls} (s : ∀ C : Ct K 0, (∃ a, C.ob = some (a, nm)) → LinkE C L (fun cls d _ H => E cls d H) → SSt C t f) (h : spO K L nm m (denO nm (x :: N).length f) vs H Q E) : t { nx := fun _ H' => Q .non H', rt := Q } (L2.start (x :: N) vs) H := by
  obtain ⟨a, us, fs, ds, B, F, rfl, o, ce, d, bh, _, h⟩ := h
  have R := rep_startO (x := x) (N := N) (er := erX L E) o ce d bh
  refine s _ ⟨a, rfl⟩ (fun e v d σ H' z xd c hc => (show erX L E e v H' from z) d xd c hc) _ H B _ _ ⟨F, R⟩ ?_
  have bes : ∀ {σ' : L2.St} {H' B' F' : Hp} {S' : SS}, RepF (ctO (K := K) H B F a nm (erX L E)) F' σ' H' B' S' → Same B B' → Bes H F B H' B' := fun {σ' H' B' F' S'} R' e => by
    have Rb := R'.rep.base.less R'.sd
    refine ⟨fun p o z1 z2 => Rb.keep p o (fun h => nomatch h) (by rw [ctO_H0 z1]; exact z2), e, Rb.bh, fun p o z => ?_⟩
    rcases Rb.fr p o z with y | y
    · exact .inl y
    · refine .inr ?_
      cases e : F p with
      | none =>
        rw [ctO_H0 e] at y
        exact .inl y
      | some u => exact .inr (fun z => nomatch z)
  have news : ∀ {F' : Hp}, Side (ctO (K := K) H B F a nm (erX L E)) F' → ∀ p o, F' p = some o → F p ≠ none ∨ H p = none := fun {F'} sd p o z => by
    have y := (sd p o z).1
    cases e : F p with
    | none =>
      rw [ctO_H0 e] at y
      exact .inr y
    | some u => exact .inl (fun z => nomatch z)
  have fin : ∀ {S' : SS} {z : PyData} {σ' : L2.St} {H' B' : Hp} {v : V}, Post (ctO (K := K) H B F a nm (erX L E)) (objD nm S' 0) (fun fs => ∀ v H' B' F', Bes H F B H' B' → Aft K H F H' F' B' a nm fs → Da K B' v z → Q v H') → Rep (ctO (K := K) H B F a nm (erX L E)) σ' H' B' S' → Same B B' → Da K B' v z → Q v H' := fun {S' z σ' H' B' v} q R' e dv => by
    obtain ⟨F', R'⟩ := R'
    obtain ⟨fs', a', q1, q2, q3, q4, q⟩ := obj_of R' q
    cases q3 _ rfl
    exact q v H' B' F' (bes R' e) ⟨q4, fun p o z => R'.cell z, news R'.sd⟩ dv
  unfold denO endO at h
  rw [show (x :: N).length - 1 = N.length from rfl] at h
  cases q : f (some (.obj nm fs) :: startS N.length ds) with
  | bad =>
    rw [q] at h
    exact h.elim
  | err e =>
    rw [q] at h
    show Ct.Out _ e
    intro H' B' v b ot da d xd c hc
    have h : LeavesO K L nm H F B a E e := h
    refine h c d v H' B' hc ⟨fun p o z1 z2 => b.keep p o (fun h => nomatch h) (by rw [ctO_H0 z1]; exact z2), b.b0, b.bh, fun p o z => ?_⟩ (fun fs' z => ?_) da xd
    · rcases b.fr p o z with y | y
      · exact .inl y
      · refine .inr ?_
        cases e : F p with
        | none =>
          rw [ctO_H0 e] at y
          exact .inl y
        | some u => exact .inr (fun z => nomatch z)
    · obtain ⟨F', sd, c1, c2⟩ := ot a nm fs' rfl z
      exact ⟨F', c2, c1, news sd⟩
  | ok fl =>
    rw [q] at h
    show FlPost _ _ _ fl
    have toPost : ∀ {S' : SS} {z : PyData}, ((objD nm S' 0).bind fun fs => Bo.R.ok (z, fs)).ends (fun z => ∀ v H' B' F', Bes H F B H' B' → Aft K H F H' F' B' a nm z.2 → Da K B' v z.1 → Q v H') (LeavesO K L nm H F B a E) → Post (ctO (K := K) H B F a nm (erX L E)) (objD nm S' 0) (fun fs => ∀ v H' B' F', Bes H F B H' B' → Aft K H F H' F' B' a nm fs → Da K B' v z → Q v H') := fun {S' z} h => by
      unfold objD at h ⊢
      split at h
      · rename_i y fs' e
        by_cases c : y = nm
        · rw [if_pos c] at h
          simp only [e, if_pos c]
          exact h
        · rw [if_neg c] at h
          exact h.elim
      · exact h.elim
    cases fl with
    | nx S' => exact fun σ' H' B' R' e => fin (toPost h) R' e .non
    | rt d' S' => exact fun v σ' H' B' R' e dv => fin (toPost h) R' e dv
    | bk S' => exact h.elim
    | ct S' => exact h.elim
theorem run_O {m : Nat} {x : Str} {N : List Str} {f : VS} {t : TS} {vs : List V} {Q : VK} {E : XK} {L : Cls} (s : ∀ C : Ct K 0, LinkE C L (fun cls d _ H => E cls d H) → SSt C t f) (h : spO K L nm m (denO nm (x :: N).length f) vs H Q E) : t { nx := fun _ H' => Q .non H', rt := Q } (L2.start (x :: N) vs) H :=
  run_O1 (fun C _ lk => s C lk) h
/-! ### an object made -/
def noObj (S : SS) : Bool := S.all fun s => match s with
  | some s => !s.isObj
  | none => true
theorem noObj_at {S : SS} (h : noObj S = true) {j : Nat} {s : SV} (e : S[j]? = some (some s)) : s.isObj = false := by
  have := List.all_eq_true.mp h _ (List.mem_of_getElem? e)
  simpa using this
def isNonD : PyData → Bool
  | .none => true
  | _ => false
def vMake (nm : Str) (m : Nat) (den : List (Str × FV) → List PyData → R (PyData × List (Str × FV))) (i : Nat) (fa : VA) : VS := fun S => (fa S).bind fun p => R.when (p.1.length = m ∧ noObj (p.2.set i none) = true) ((den [] p.1).noErr.bind fun z => R.when (isNonD z.1 = true) (.ok (.nx (p.2.set i (some (.obj nm z.2))))))
theorem st_make {L : Cls} {m : Nat} {den : List (Str × FV) → List PyData → R (PyData × List (Str × FV))} {E : XK} {ta : TA} {fa : VA} (nob : C.ob = none) (hi : n ≤ i) (k : ClsK K nm c) (ha : SA C ta fa) : SSt C (tAsg (tMake c (spO K L nm m den) [] E ta) (gName i)) (vMake nm m den i fa) := by
  intro σ H B S D R h
  replace h := post_bind.mp h
  refine ha σ H B S _ R (h.mono fun p h1 vs H1 B1 R1 e1 d1 => ?_)
  obtain ⟨F, R1⟩ := R1
  obtain ⟨⟨l, no⟩, h1⟩ := post_when.mp h1
  intro x dx hx hdx ne
  rw [List.append_nil]
  have x0 : (upd (upd H1 dx (.own x)) x (.ins c dx [])) x = some (.ins c dx []) := upd_same
  have sH : Same H1 (upd (upd H1 dx (.own x)) x (.ins c dx [])) := (sm_new hdx).trans (sm_new (by rw [upd_ne (Ne.symm ne)]; exact hx))
  have bx : B1 x = none := (R1.rep.new hx).2.1
  have F0 : ∀ q o, upd (fun _ => none) x (HO.ins c dx []) q = some o → q = x ∧ o = .ins c dx [] := fun q o z => by
    by_cases e : q = x
    · subst e
      rw [upd_same] at z
      exact ⟨rfl, (Option.some.inj z).symm⟩
    · rw [upd_ne e] at z
      cases z
  refine ⟨x, vs, [], p.1, B1, upd (fun _ => none) x (.ins c dx []), rfl, ⟨c, dx, [], fun _ _ => none, k.at_, upd_same, rfl, ⟨fun i p o z => (nomatch z), fun i j p o q z => (nomatch z), fun i => rfl⟩, fun i u f z => (nomatch z)⟩, fun q o z => ?_, d1, R1.rep.base.bh.trans sH, l, ?_⟩
  · obtain ⟨rfl, rfl⟩ := F0 q o z
    exact ⟨x0, bx⟩
  cases q : den [] p.1 with
  | bad =>
    rw [q] at h1
    exact h1.elim
  | err e =>
    rw [q] at h1
    exact h1.elim
  | ok z =>
    rw [q] at h1
    intro v H' B' F' b A dv
    obtain ⟨v0, h1⟩ := post_when.mp (show Post C (Bo.R.when (isNonD z.1 = true) _) _ from h1)
    refine ⟨?_, ?_⟩
    · cases zz : z.1 with
      | none =>
        rw [zz] at dv
        cases dv
        rfl
      | _ =>
        rw [zz] at v0
        cases v0
    -- the new object among the others
    have R0 : RepF C (fun _ => none) σ H1 B1 (p.2.set i none) := by
      have R2 := (R1.rep.forget hi)
      refine ⟨fun a o z => (by cases z), ⟨R1.rep.base.less R1.sd, R2.len, fun j s h => ?_, R2.dis, fun j s q h m e => ?_, R2.box⟩, fun j k s u h1 h2 m1 m2 => ?_, fun j nm' fs' h => ?_⟩
      · obtain ⟨v, hv, r⟩ := R2.slot j s h
        exact ⟨v, hv, by cases s <;> exact r⟩
      · exact (R2.ownf j s q h m e).imp_left fun z => (ext_none z).1
      · rw [noObj_at no h1] at m1
        cases m1
      · cases noObj_at no h
    have b2 : Bes H1 (fun _ => none) B1 H' B' := ⟨fun q o _ z => b.keep q o (by rw [upd_ne (ne_of_none z hx)]) (sH q o z), b.sB, b.bh, fun q o z => by
      rcases b.fz q o z with y | y | y
      · exact .inl y
      · refine .inr (.inl ?_)
        cases e : H1 q with
        | none => rfl
        | some u =>
          rw [sH q u e] at y
          cases y
      · refine .inr (.inl ?_)
        by_cases e : q = x
        · rw [e]
          exact hx
        · rw [upd_ne e] at y
          exact absurd rfl y⟩
    have A2 : Aft K H1 (fun _ => none) H' F' B' x nm z.2 := ⟨A.at_, A.cell, fun q o z => by
      refine .inr ?_
      rcases A.new q o z with y | y
      · by_cases e : q = x
        · rw [e]
          exact hx
        · rw [upd_ne e] at y
          exact absurd rfl y
      · cases e : H1 q with
        | none => rfl
        | some u =>
          rw [sH q u e] at y
          cases y⟩
    obtain ⟨sd, R3⟩ := R0.aft b2 A2
    refine h1 (σ.set i (some (.ref x))) H' B' ⟨F', ?_⟩ (e1.trans b.sB)
    -- the slot
    have at_ : ∀ (j : Nat) u, (p.2.set i (some (.obj nm z.2)))[j]? = some (some u) → (j = i ∧ u = .obj nm z.2 ∧ (σ.set i (some (.ref x)))[j]? = some (some (.ref x))) ∨ (j ≠ i ∧ (p.2.set i none)[j]? = some (some u) ∧ (σ.set i (some (.ref x)))[j]? = σ[j]?) := fun j u y => by
      by_cases e : j = i
      · subst e
        have hl : j < p.2.length := by
          have := (List.getElem?_eq_some_iff.mp y).1
          simpa using this
        rw [List.getElem?_set_self hl] at y
        cases y
        exact .inl ⟨rfl, rfl, List.getElem?_set_self (by rw [← R1.rep.len]; exact hl)⟩
      · rw [List.getElem?_set_ne (Ne.symm e)] at y
        exact .inr ⟨e, by rw [List.getElem?_set_ne (Ne.symm e)]; exact y, List.getElem?_set_ne (Ne.symm e)⟩
    refine ⟨sd, ⟨R3.base, by simp [R1.rep.len], fun j u y => ?_, fun j k s u q z1 z2 m1 m2 e1 e2 => ?_, fun j s q y m e => ?_, fun j q y => ?_⟩, fun j k s u z1 z2 m1 m2 => ?_, fun j nm' fs' y => ?_⟩
    · rcases at_ j u y with ⟨rfl, rfl, h3⟩ | ⟨_, h2, h3⟩
      · exact ⟨_, h3, trivial⟩
      · rw [h3]
        exact R3.slot j u h2
    · rcases at_ j s z1 with ⟨_, rfl, _⟩ | ⟨_, h2, h3⟩
      · cases m1
      · rcases at_ k u z2 with ⟨_, rfl, _⟩ | ⟨_, h4, h5⟩
        · cases m2
        · rw [h3] at e1
          rw [h5] at e2
          exact R3.dis j k s u q h2 h4 m1 m2 e1 e2
    · rcases at_ j s y with ⟨_, rfl, _⟩ | ⟨_, h2, h3⟩
      · cases m
      · rw [h3] at e
        exact R3.ownf j s q h2 m e
    · have n1 : j ≠ i := by
        have := (List.getElem?_eq_some_iff.mp y).1
        have : (C.ext F').bx.length = n := C.hbx
        omega
      obtain ⟨y1, s, y2, y3⟩ := R3.box j q y
      rw [List.getElem?_set_ne (Ne.symm n1)] at y2
      rw [List.getElem?_set_ne (Ne.symm n1), List.getElem?_set_ne (Ne.symm n1)]
      exact ⟨y1, s, y2, y3⟩
    · rcases at_ j s z1 with ⟨rfl, _, _⟩ | ⟨_, h2, _⟩
      · rcases at_ k u z2 with ⟨rfl, _, _⟩ | ⟨_, h4, _⟩
        · rfl
        · rw [noObj_at no h4] at m2
          cases m2
      · rw [noObj_at no h2] at m1
        cases m1
    · rcases at_ j _ y with ⟨rfl, e, h3⟩ | ⟨_, h2, _⟩
      · cases e
        exact ⟨x, h3, fun q w => (by rw [nob] at w; cases w), A.at_⟩
      · cases noObj_at no h2
/-! ### for y in x.f.values(), where nothing is kept -/
theorem st_forNo {g : TG} {tb : TS} (k : ClsK K nm c) (na : NoAttr K c f) : SSt C (tLock (tFor (iVals (tFld K (tVar i) f)) g tb)) (vForNo nm i f) := by
  rintro σ H B S D ⟨F, R⟩ h
  obtain ⟨fs, a, q1, q2, q3, q4, h⟩ := obj_of R (post_bind.mp h)
  split at h
  · rename_i e
    obtain ⟨dx, us, v, h1, h2, p, ws, rfl, h3, h4⟩ := q4.read k.at_ e
    have ew : ws = [] := by
      cases h4
      rfl
    subst ew
    have hp := (R.cell h3).1
    have pa : a ≠ p := by
      rintro rfl
      rw [h1] at h3
      cases h3
    refine ⟨p, .dK [], hp, trivial, fun od => ?_⟩
    refine ⟨_, q2, a, c, dx, us, _, rfl, (by rw [upd_ne pa]; exact (R.cell h1).1), k.cls, na, h2, p, od, [], rfl, upd_same, ?_⟩
    refine ⟨fun j m σ' H' => j = 0 ∧ σ' = σ ∧ H' = upd H p (.frz od (.dK [])), ⟨0, rfl, rfl, rfl⟩, ?_⟩
    rintro j m σ' H' ⟨rfl, rfl, rfl⟩
    refine .inl ⟨⟨upd_same, Nat.le_refl _⟩, upd_same, ?_⟩
    have e2 : upd (upd H p (.frz od (.dK []))) p (.dK []) = H := by
      funext q
      by_cases z : q = p
      · subst z
        rw [upd_same, hp]
      · rw [upd_ne z, upd_ne z]
    rw [e2]
    exact h σ' H B ⟨F, R⟩ (Same.refl _)
  · exact h.elim
end
end Bo

/-! ### walking defs of objects -/
namespace Bo
open PySem L2
section
variable {K : PySem.W.Frag} {n : Nat} {C : Ct K n}
theorem run_S1 {x : Str} {N : List Str} {f : VS} {t : TS} {vs : List V} {Q : VK} {E : XK} {H : Hp} (s : ∀ C : Ct K 0, C.ob = none → SSt C t f) (h : spS K (denS (x :: N).length f) vs H Q E) : t { nx := fun _ H' => Q .non H', rt := Q } (L2.start (x :: N) vs) H := by
  obtain ⟨a, ns, B, rfl, sq, bh, h⟩ := h
  have at_ : ∀ (i : Nat) u, (some (SV.scr ns) :: List.replicate ((x :: N).length - 1) none)[i]? = some (some u) → i = 0 ∧ u = .scr ns := fun i u q => by
    cases i with
    | zero => exact ⟨rfl, (Option.some.inj (Option.some.inj (show some (some (SV.scr ns)) = some (some u) from q))).symm⟩
    | succ i =>
      have q' : (List.replicate ((x :: N).length - 1) (none : Option SV))[i]? = some (some u) := q
      rw [List.getElem?_replicate] at q'
      split at q' <;> cases q'
  have R : Rep (ct0 (K := K) H B fun _ _ _ => True) (L2.start (x :: N) [V.ref a]) H B (some (.scr ns) :: List.replicate ((x :: N).length - 1) none) := by
    refine Rep0.up ?_ fun i s h => by obtain ⟨rfl, rfl⟩ := at_ i s h; rfl
    refine ⟨⟨fun a o _ q => q, Same.refl _, bh, fun a o q => .inl q⟩, ?_, fun i s h => ?_, fun i j s u a h1 h2 m1 m2 e1 e2 => ?_, fun i s a h m e => ?_, fun i a h => nomatch (show (none : Option (Option Addr)) = some (some a) from h)⟩
    · unfold L2.start
      simp
    · obtain ⟨rfl, rfl⟩ := at_ i s h
      exact ⟨_, start_get rfl, a, rfl, sq⟩
    · obtain ⟨rfl, rfl⟩ := at_ i s h1
      cases m1
    · obtain ⟨rfl, rfl⟩ := at_ i s h
      cases m
  refine s _ rfl _ H B _ _ R ?_
  unfold denS endP at h
  have h2 := post_okTo (C := ct0 (K := K) H B fun _ _ _ => True) h
  refine (post_bind.mp h2).mono fun fl q => ?_
  cases fl with
  | nx S => exact fun σ' H' B' R' e => q .non H' B' (fun a o z => R'.base.keep a o (by simp [ct0]) z) e R'.base.bh (fun a o z => R'.base.fr a o z) .non
  | rt d S => exact fun v σ' H' B' R' e dv => q v H' B' (fun a o z => R'.base.keep a o (by simp [ct0]) z) e R'.base.bh (fun a o z => R'.base.fr a o z) dv
  | bk S => exact q.elim
  | ct S => exact q.elim
end
section
variable {S : SS} {nm f mt : Str} {i m : Nat} {fs fs' : List (Str × FV)} {d : PyData} {ds : List PyData} {fa : VA} {fe : VE} {ff : VF} {qe : SS → R PyData} {qa : SS → R (List PyData)} {kE : PyData × SS → Prop} {kS : FL → Prop} {kT : Bool × SS → Prop} {kD : PyData → Prop} {kL : List PyData → Prop} {ke : Exc → Prop}
  {den : List (Str × FV) → List PyData → R (PyData × List (Str × FV))}
theorem objD_ok (h : S[i]? = some (some (.obj nm fs))) : objD nm S i = .ok fs := by
  unfold objD
  rw [h]
  exact if_pos rfl
theorem fldD_ok (h : fs.lookup f = some (.dat d)) : fldD fs f = .ok d := by
  unfold fldD
  rw [h]
theorem fldO_ok (h : fs.lookup f = some (.own ds)) : fldO fs f = .ok ds := by
  unfold fldO
  rw [h]
theorem w_qVar (h : S[i]? = some (some (.dat d))) (q : kD d) : (qVar i S).okTo kD := by
  unfold qVar datD
  rw [h]
  exact q
theorem w_qFld (h : S[i]? = some (some (.obj nm fs))) (e : fs.lookup f = some (.dat d)) (q : kD d) : (qFld nm i f S).okTo kD := by
  unfold qFld
  rw [objD_ok h]
  show (fldD fs f).okTo kD
  rw [fldD_ok e]
  exact q
theorem w_qNil (q : kL []) : (qNil S).okTo kL := q
theorem w_qCons (h : (qe S).okTo fun d => (qa S).okTo fun ds => kL (d :: ds)) : (qCons qe qa S).okTo kL := okTo_bind.mpr (h.mono fun d h => okTo_bind.mpr (h.mono fun ds h => okTo_ok.mpr h))
theorem w_qTup (h : (qa S).okTo fun ds => ds.length ≤ 100000 ∧ kD (.tuple ds)) : (qTup qa S).okTo kD := okTo_bind.mpr (h.mono fun d h => okTo_when.mpr ⟨h.1, okTo_ok.mpr h.2⟩)
theorem w_fld (h : S[i]? = some (some (.obj nm fs))) (e : fs.lookup f = some (.dat d)) (q : kE (d, S)) : (vFld nm i f S).okTo kE := by
  unfold vFld
  rw [objD_ok h]
  show ((fldD fs f).bind _).okTo kE
  rw [fldD_ok e]
  exact q
theorem w_lenF (h : S[i]? = some (some (.obj nm fs))) (e : fs.lookup f = some (.own ds)) (q : kE (.int ds.length, S)) : (vLenF nm i f S).okTo kE := by
  unfold vLenF
  rw [objD_ok h]
  show ((fldO fs f).bind _).okTo kE
  rw [fldO_ok e]
  exact q
theorem w_truF (h : S[i]? = some (some (.obj nm fs))) (e : fs.lookup f = some (.own ds)) (q : kT (!ds.isEmpty, S)) : (vTruF nm i f S).okTo kT := by
  unfold vTruF
  rw [objD_ok h]
  show ((fldO fs f).bind _).okTo kT
  rw [fldO_ok e]
  exact q
theorem w_setF (h : (fe S).okTo fun p => ∃ fs fs', p.2[i]? = some (some (.obj nm fs)) ∧ fs.length < 1000 ∧ putFD f (.dat p.1) fs = fs' ∧ kS (.nx (p.2.set i (some (.obj nm fs'))))) : (vSetF nm i f fe S).okTo kS := by
  unfold vSetF
  refine okTo_bind.mpr (h.mono fun p ⟨fs, fs', h1, h2, h3, q⟩ => ?_)
  rw [objD_ok h1]
  exact okTo_when.mpr ⟨h2, by rw [h3]; exact okTo_ok.mpr q⟩
theorem w_setFO (h : (ff S).okTo fun p => ∃ fs fs', p.2[i]? = some (some (.obj nm fs)) ∧ fs.length < 1000 ∧ putFD f (.own p.1) fs = fs' ∧ kS (.nx (p.2.set i (some (.obj nm fs'))))) : (vSetFO nm i f ff S).okTo kS := by
  unfold vSetFO
  refine okTo_bind.mpr (h.mono fun p ⟨fs, fs', h1, h2, h3, q⟩ => ?_)
  rw [objD_ok h1]
  exact okTo_when.mpr ⟨h2, by rw [h3]; exact okTo_ok.mpr q⟩
theorem w_setFD (h1 : S[i]? = some (some (.obj nm fs))) (h2 : fs.length < 1000) (h3 : putFD f (.dic []) fs = fs') (q : kS (.nx (S.set i (some (.obj nm fs'))))) : (vSetFD nm i f S).okTo kS := by
  unfold vSetFD
  rw [objD_ok h1]
  exact okTo_when.mpr ⟨h2, by rw [h3]; exact okTo_ok.mpr q⟩
theorem w_appF (h : S[i]? = some (some (.obj nm fs))) (e : fs.lookup f = some (.own ds)) (q : (qe S).okTo fun d => ds.length < 100000 ∧ ∃ fs', putFD f (.own (ds ++ [d])) fs = fs' ∧ kE (.none, S.set i (some (.obj nm fs')))) : (vAppF nm i f qe S).okTo kE := by
  unfold vAppF
  rw [objD_ok h]
  show ((fldO fs f).bind _).okTo kE
  rw [fldO_ok e]
  show ((qe S).bind _).okTo kE
  exact okTo_bind.mpr (q.mono fun d ⟨l, fs', e, q⟩ => okTo_when.mpr ⟨l, by rw [e]; exact okTo_ok.mpr q⟩)
theorem w_popF (h : S[i]? = some (some (.obj nm fs))) (e : fs.lookup f = some (.own ds)) (l : ds[ds.length - 1]? = some d) (p : putFD f (.own ds.dropLast) fs = fs') (q : kE (d, S.set i (some (.obj nm fs')))) : (vPopF nm i f S).okTo kE := by
  unfold vPopF
  rw [objD_ok h]
  show ((fldO fs f).bind _).okTo kE
  rw [fldO_ok e]
  show (match ds[ds.length - 1]? with | some d => _ | none => _ : R _).okTo kE
  rw [l]
  show kE _
  rw [p]
  exact q
theorem w_forNo (h : S[i]? = some (some (.obj nm fs))) (e : fs.lookup f = some (.dic [])) (q : kS (.nx S)) : (vForNo nm i f S).okTo kS := by
  unfold vForNo
  rw [objD_ok h]
  show (match fs.lookup f with | some (.dic []) => _ | _ => _ : R _).okTo kS
  rw [e]
  exact q
theorem w_meth (h : S[i]? = some (some (.obj nm fs))) (l : (fs.lookup mt).isNone = true) (q : (fa S).okTo fun p => ∃ fs, p.2[i]? = some (some (.obj nm fs)) ∧ p.1.length = m ∧ (den fs p.1).okTo fun z => kE (z.1, p.2.set i (some (.obj nm z.2)))) : (vMeth nm mt m den i fa S).okTo kE := by
  unfold vMeth
  rw [objD_ok h]
  refine okTo_when.mpr ⟨l, okTo_bind.mpr (q.mono fun p ⟨fs, h1, h2, q⟩ => ?_)⟩
  rw [objD_ok h1]
  exact okTo_when.mpr ⟨h2, okTo_bind.mpr (okTo_noErr.mpr (q.mono fun z q => okTo_ok.mpr q))⟩
theorem w_callO (h : S[i]? = some (some (.obj nm fs))) (q : (fa S).okTo fun p => ∃ fs, p.2[i]? = some (some (.obj nm fs)) ∧ p.1.length = m ∧ (den fs p.1).okTo fun z => kE (z.1, p.2.set i (some (.obj nm z.2)))) : (vCallO nm m den i fa S).okTo kE := by
  unfold vCallO
  rw [objD_ok h]
  show ((fa S).bind _).okTo kE
  refine okTo_bind.mpr (q.mono fun p ⟨fs, h1, h2, q⟩ => ?_)
  rw [objD_ok h1]
  exact okTo_when.mpr ⟨h2, okTo_bind.mpr (okTo_noErr.mpr (q.mono fun z q => okTo_ok.mpr q))⟩
theorem w_make (q : (fa S).okTo fun p => (p.1.length = m ∧ noObj (p.2.set i none) = true) ∧ (den [] p.1).okTo fun z => z.1 = .none ∧ kS (.nx (p.2.set i (some (.obj nm z.2))))) : (vMake nm m den i fa S).okTo kS := by
  unfold vMake
  refine okTo_bind.mpr (q.mono fun p ⟨h1, q⟩ => okTo_when.mpr ⟨h1, okTo_bind.mpr (okTo_noErr.mpr (q.mono fun z ⟨e, q⟩ => okTo_when.mpr ⟨by rw [e]; rfl, okTo_ok.mpr q⟩))⟩)
/-! defs that raise -/
theorem e_methX (h : S[i]? = some (some (.obj nm fs))) (l : (fs.lookup mt).isNone = true) (q : (fa S).okTo fun p => ∃ fs, p.2[i]? = some (some (.obj nm fs)) ∧ p.1.length = m ∧ (den fs p.1).ends (fun z => kE (z.1, p.2.set i (some (.obj nm z.2)))) ke) : (vMethX nm mt m den i fa S).ends kE ke := by
  unfold vMethX
  rw [objD_ok h]
  refine endsWhen ⟨l, endsBind.mpr (endsOk (q.mono fun p ⟨fs, h1, h2, q⟩ => ?_))⟩
  rw [objD_ok h1]
  exact endsWhen ⟨h2, endsBind.mpr q⟩
theorem e_raiseO {cls : String} (q : (fa S).okTo fun p => ∃ fs d, p.2[i]? = some (some (.obj nm fs)) ∧ p.1 = [d] ∧ ke ⟨cls, some d, some fs⟩) : (vRaiseO nm i cls fa S).ends kS ke := by
  unfold vRaiseO
  refine endsBind.mpr (endsOk (q.mono fun p ⟨fs, d, h, e, q⟩ => ?_))
  rw [objD_ok h]
  show (match p.1 with | [d] => _ | _ => _ : R _).ends kS ke
  rw [e]
  exact q
theorem e_callXO {g : List PyData → R PyData} (q : (fa S).okTo fun p => ∃ fs, p.2[i]? = some (some (.obj nm fs)) ∧ p.1.length = m ∧ (g p.1).ends (fun z => kE (z, p.2)) fun e => ke (e.told fs)) : (vCallXO nm i m g fa S).ends kE ke := by
  unfold vCallXO
  refine endsBind.mpr (endsOk (q.mono fun p ⟨fs, h, l, q⟩ => ?_))
  rw [objD_ok h]
  refine endsWhen ⟨l, ?_⟩
  cases e : g p.1 with
  | bad =>
    rw [e] at q
    exact q.elim
  | ok z =>
    rw [e] at q
    exact q
  | err x =>
    rw [e] at q
    exact q
variable {N : Nat} {b : VS} {kO : PyData × List (Str × FV) → Prop}
theorem w_denO (h : (b (some (.obj nm fs) :: startS (N - 1) ds)).okTo fun fl => match fl with
    | .nx S => ∃ fs', S[0]? = some (some (.obj nm fs')) ∧ kO (.none, fs')
    | .rt d S => ∃ fs', S[0]? = some (some (.obj nm fs')) ∧ kO (d, fs')
    | _ => False) : (denO nm N b fs ds).okTo kO := by
  unfold denO endO
  refine okTo_bind.mpr (h.mono fun fl q => ?_)
  cases fl with
  | nx S =>
    obtain ⟨fs', e, q⟩ := q
    show ((objD nm S 0).bind _).okTo kO
    rw [objD_ok e]
    exact q
  | rt d S =>
    obtain ⟨fs', e, q⟩ := q
    show ((objD nm S 0).bind _).okTo kO
    rw [objD_ok e]
    exact q
  | bk S => exact q.elim
  | ct S => exact q.elim
theorem e_denO (h : (b (some (.obj nm fs) :: startS (N - 1) ds)).ends (fun fl => match fl with
    | .nx S => ∃ fs', S[0]? = some (some (.obj nm fs')) ∧ kO (.none, fs')
    | .rt d S => ∃ fs', S[0]? = some (some (.obj nm fs')) ∧ kO (d, fs')
    | _ => False) ke) : (denO nm N b fs ds).ends kO ke := by
  unfold denO endO
  refine endsBind.mpr (h.mono (fun fl q => ?_) fun _ z => z)
  cases fl with
  | nx S =>
    obtain ⟨fs', e, q⟩ := q
    show ((objD nm S 0).bind _).ends kO ke
    rw [objD_ok e]
    exact q
  | rt d S =>
    obtain ⟨fs', e, q⟩ := q
    show ((objD nm S 0).bind _).ends kO ke
    rw [objD_ok e]
    exact q
  | bk S => exact q.elim
  | ct S => exact q.elim
end
end Bo

/-! ### a def that is told an error in an except suite -/
namespace Bo
open PySem L2
section
variable {P : Program} {w : World} {K : PySem.W.Frag} {mg : Str → Option Value} {base : Heap} {k : Nat} {f : Addr} {fd : FuncData} {ps : List Str}
structure FnE (P : Program) (w : World) (K : PySem.W.Frag) (mg : Str → Option Value) (base : Heap) (k : Nat) (f : Addr) (fd : FuncData) (ps : List Str) (sp : Addr × Obj → List V → Hp → VK → Prop) : Prop where
  len : ∀ p vs H Q, sp p vs H Q → vs.length = ps.length
  run : ∀ (A : Around) (outer : List PySem.Env) (s : Shared) (H : Hp) (args : Args) (us : List Value) (vs : List V) (Q : VK) (p : Addr × Obj), L2H.RoomH k A → A.handled = some (.ref p.1) → L2H.PinOk outer H s p →
    Env0 P w K mg base A outer s H → BindsTo s fd args (ps.zip us) → Vals vs us → sp p vs H Q → codeAny (model P w) A (Code.call (.ref f) args) (CR CX0 outer P w H s Q E0) s
theorem mark_same {A : Around} {v : Value} {env : PySem.Env} (h : A.handled = some v) : (A.deeper env).mark (some v) = A.deeper env := by
  cases A
  cases h
  rfl
theorem fn_E {x qual : Str} {st : Stmt} {N : List Str} {sp : Addr × Obj → List V → Hp → VK → Prop} (F : Fun K x qual st f fd) (S : FnScope N ps (defScope st)) (len : ∀ p vs H Q, sp p vs H Q → vs.length = ps.length)
    (hbody : ∀ (cdv : Value) (A : Around) (outer : List PySem.Env) (s : Shared) (H : Hp) (vs : List V) (Q : VK) (p : Addr × Obj), L2H.RoomH k (A.deeper (PyProof.Rows.envOfC qual (defScope st) s.heap.objs.size f cdv)) → sp p vs H Q →
      ∃ t, PSs ((cxOf CX0 P w K mg base N qual (defScope st) f cdv A outer s H E0).suite p.1 [p]) (defBody st) t ∧ t { nx := fun _ H' => Q .non H', rt := Q } (L2.start N vs) H) : FnE P w K mg base (k + 1) f fd ps sp := by
  obtain ⟨oc, od, kV, doc, pm, an, cdv, ct, osl, rfl, lk, hcd⟩ := F.ex
  refine ⟨len, fun A outer s H args us vs Q p hr hot hpin e0 hb r hsp => ?_⟩
  have hl := len p vs H Q hsp
  have KX := PySem.W.Frag.In.keeps e0.mod.kin fun b o e => (e0.bs b o e).1
  have lim := Heap.NoLimit.keeps e0.mod.nolimit fun b o e => (e0.bs b o e).1
  refine codeAny_call_function hr.depth (KX f _ lk) rfl S.co S.gen rfl (PySem.W.codeRec_of KX hcd) ?_
  refine hb (model P w) A.in1 _ _ ?_
  refine wpAny_newFunctionEnv_cells S.kind (fun y hy => ?_) fun env he s1 i => ?_
  · obtain ⟨n, v⟩ := y
    rcases S.par n (List.of_mem_zip hy).1 with q | q
    · exact .inl q
    · exact .inr ⟨q, PySem.W.cellsFrom_some _ _ _ (.inl q)⟩
  · subst he
    refine ⟨Heap.NoLimit.keeps lim i.toInCall.keep, codeAny_func ?_⟩
    obtain ⟨t, ht, hq⟩ := hbody cdv A outer s H vs Q p (hr.deeper _) hsp
    have I := L2H.inv_startH (CX := CX0) (E := E0) (N := N) S hpin e0 hl r i
    have same : (L2H.cxH CX0 P w K mg base N qual (defScope st) f cdv A outer s H E0 p).nox = (cxOf CX0 P w K mg base N qual (defScope st) f cdv A outer s H E0).suite p.1 [p] := by
      show Cx.mk _ _ _ _ _ _ _ _ _ _ _ _ _ _ _ _ _ = Cx.mk _ _ _ _ _ _ _ _ _ _ _ _ _ _ _ _ _
      have e := mark_same (env := PyProof.Rows.envOfC qual (defScope st) s.heap.objs.size f cdv) hot
      unfold cxOf
      dsimp only
      rw [e]
      rfl
    rw [← same] at ht
    refine wpAny_mono (ht.nox.run [] s1 (L2.start N vs) H { nx := fun _ H' => Q .non H', rt := Q } I hq) (fun fl s' hs => ?_) fun e s' hs => hs
    have fin : ∀ {σ' : L2.St} {H' : Hp} {v : V} {u : Value}, L2.Inv (L2H.cxH CX0 P w K mg base N qual (defScope st) f cdv A outer s H E0 p) [] σ' H' s' → RelV v u → Q v H' → CE outer P w H s Q u s' := fun {σ' H' v u} J rv q => ⟨v, H', J.os, J.bare, J.base, J.hok, rv, q⟩
    cases fl with
    | next =>
      obtain ⟨σ', H', J, q⟩ := hs
      exact fin (v := .non) (u := .none) J rfl q
    | brk =>
      obtain ⟨σ', H', J, q⟩ := hs
      exact q.elim
    | cont =>
      obtain ⟨σ', H', J, q⟩ := hs
      exact q.elim
    | ret u =>
      obtain ⟨v, σ', H', J, rv, q⟩ := hs
      exact fin J rv q
/-- what leaves, leaves with as many slots as the def has -/
theorem takes_len {X : Cx} {W : WX} {n : Nat} (hn : X.N.length = n) (tk : Takes X W) : Takes X (fun cls d σ H => σ.length = n → W cls d σ H) := fun u s' h => by
  obtain ⟨a, B, sI, pins, σ, H, cls, d, h1, I, h2, h3, h4, h5, h6, h7, w⟩ := h
  exact tk u s' ⟨a, B, sI, pins, σ, H, cls, d, h1, I, h2, h3, h4, h5, h6, h7, w (I.len.trans hn)⟩
def tCallE (a : Addr) (cls : Value) (d : Option Addr) (sp : Addr × Obj → List V → Hp → VK → Prop) (t : TA) : TE := fun σ H Q => t σ H fun vs H1 => ∀ oe, Zc cls d oe → (∃ vs, oe.data = .fields vs) → sp (a, oe) vs H1 Q
theorem pe_callE {X : Cx} {a : Addr} {oe : Obj} {cls : Value} {d : Option Addr} (hz : Zc cls d oe) (hf : ∃ vs, oe.data = .fields vs) {pn : List (Addr × Obj)} {sp : Addr × Obj → List V → Hp → VK → Prop} {x : Str} {q pos : Pos} {e : Expr} {es : List Expr} {t : TA} (F : FnE X.prog X.w X.K X.mg X.base k f fd ps sp) (hr : L2H.RoomH k X.A) (hg : L2.Gl X x) (hm : X.mg x = some (.ref f)) (hk : PySem.W.keepIn X.K (.ref f) = true) (hb : Binds X.K fd ps [])
    (ha : PA (X.suite a ((a, oe) :: pn)) (e :: es) t) (hdb : (x == Str.ofString "__debug__") = false := by rfl) (he : starEach (e :: es) X.env = (false, eval e X.env) :: starEach es X.env := by rfl) (hpl : ((backTo pos (starEach es X.env)).any fun x => x.fst) = false := by rfl) :
    PE (X.suite a ((a, oe) :: pn)) (.Call (.Name x q) (e :: es) [] pos) (tCallE a cls d sp t) := by
  refine ⟨fun pins s σ H Q I h => ?_⟩
  refine wpAny_Call_Name_kw (ld_glob I hg hm (PySem.W.callWith_K I.ok.mod.kin hk (thn (ha.run pos pins s σ H _ I h) fun us s1 z => ?_) he hpl) hdb)
  obtain ⟨vs, H1, I1, r, q1⟩ := z
  replace q1 := q1 oe hz hf
  refine ⟨I1.kIn, ?_⟩
  have hl : us.length = ps.length := by
    rw [← r.length]
    exact F.len _ _ _ _ q1
  have b := hb s1 us I1.kIn (by rw [List.append_nil]; exact hl)
  rw [List.append_nil] at b
  have P1 := I1.pin (a, oe) (List.mem_append_left pins List.mem_cons_self)
  refine wpAny_call (codeAny_mono (F.run _ X.stack s1 H1 _ us vs Q (a, oe) (⟨hr.dp, hr.un⟩) rfl ⟨P1.1, P1.2.1, fun hm => ?_, P1.2.2.2.2⟩ I1.env0 b r q1) fun rr s' hq => ?_)
  · rcases List.mem_cons.mp (I1.stkSub a hm) with z | z
    · exact P1.2.2.1 z
    · exact P1.2.2.2.1 z
  · cases rr with
    | error e => exact (show False from hq)
    | ok fl =>
      cases fl with
      | next => exact (show False from hq).elim
      | brk => exact (show False from hq).elim
      | cont => exact (show False from hq).elim
      | ret u => exact I1.after hq
end
end Bo

/-! ### try within a def of an object -/
namespace Bo
open PySem L2
section
variable {K : PySem.W.Frag} {C : Ct K 0} {σ σ' : L2.St} {H B F H' B' F' : Hp} {S S' : SS} {nm : Str} {a : Addr}
/-- data everywhere, but for the object's slot -/
def flatO (S : SS) : Bool := S.all fun s => match s with
  | some s => !s.mine
  | none => true
theorem flatO_at {S : SS} (h : flatO S = true) {i : Nat} {s : SV} (e : S[i]? = some (some s)) : s.mine = false := by
  have := List.all_eq_true.mp h _ (List.mem_of_getElem? e)
  simpa using this
/-- the state as if the def began here -/
theorem RepF.again (R : RepF C F σ H B S) (fl : flatO S = true) {er : Exc → V → Hp → Prop} (q3 : ∀ (i : Nat) nm' fs', S[i]? = some (some (.obj nm' fs')) → nm' = nm ∧ σ[i]? = some (some (.ref a))) : RepF (ctO (K := K) H B F a nm er) F σ H B S := by
  have no : ∀ (i : Nat) s, S[i]? = some (some s) → s.mine = true → False := fun i s h m => by
    rw [flatO_at fl h] at m
    cases m
  refine ⟨fun p o z => ⟨ctO_H0F z, (R.cell z).2, fun h => nomatch h⟩, ⟨⟨fun p o _ z => ?_, Same.refl _, R.rep.base.bh, fun p o z => .inl z⟩, R.rep.len, fun i u h => ?_, fun i j s u q h1 h2 m1 m2 e1 e2 => (no i s h1 m1).elim, fun i s q h m e => (no i s h m).elim, fun i q h => nomatch (show (none : Option (Option Addr)) = some (some q) from h)⟩, R.one, fun i nm' fs' h => ?_⟩
  · cases e : F p with
    | none =>
      rw [ext_N e, ctO_H0 e] at z
      exact z
    | some u =>
      rw [ext_F e] at z
      cases z
      exact (R.cell e).1
  · obtain ⟨v, hv, r⟩ := R.rep.slot i u h
    exact ⟨v, hv, by cases u <;> exact r⟩
  · obtain ⟨a', h1, h2, h3⟩ := R.ob i nm' fs' h
    obtain ⟨rfl, h4⟩ := q3 i nm' fs' h
    rw [h1] at h4
    cases h4
    exact ⟨_, h1, fun q z => (Option.some.inj z).symm, h3⟩
theorem noneH (R : RepF C F σ H B S) {p : Addr} (h : F p = none → H p = none) : C.H0 p = none := by
  cases e : F p with
  | none => exact (ext_none (R.rep.new (h e)).1).1
  | some u => exact (R.sd p u e).1
theorem ctO_none {er : Exc → V → Hp → Prop} {p : Addr} (h : (ctO (K := K) H B F a nm er).H0 p = none) : F p = none → H p = none := fun e => by
  rw [ctO_H0 e] at h
  exact h
theorem RepF.sideUp (R : RepF C F σ H B S) {er : Exc → V → Hp → Prop} (sd : Side (ctO (K := K) H B F a nm er) F') : Side C F' := fun p o z => by
  obtain ⟨h1, h2, _⟩ := sd p o z
  refine ⟨noneH R (ctO_none h1), ?_, fun m => ?_⟩
  · cases e : C.B0 p with
    | none => rfl
    | some u =>
      have y := R.rep.base.b0 p u e
      have h2 : B p = none := h2
      rw [h2] at y
      cases y
  · rw [List.length_eq_zero_iff.mp C.hbx] at m
    cases m
theorem RepF.baseUp (R : RepF C F σ H B S) {er : Exc → V → Hp → Prop} (b : Base (ctO (K := K) H B F a nm er) H' B') : Base C H' B' := by
  have Rb := R.rep.base.less R.sd
  refine ⟨fun p o np z => ?_, Rb.b0.trans b.b0, b.bh, fun p o z => ?_⟩
  · have e : F p = none := by
      cases e : F p with
      | none => rfl
      | some u =>
        rw [(R.sd p u e).1] at z
        cases z
    exact b.keep p o (fun m => nomatch m) (by rw [ctO_H0 e]; exact Rb.keep p o np z)
  · rcases b.fr p o z with y | y
    · exact Rb.fr p o y
    · exact .inr (noneH R (ctO_none y))
/-- .. and back -/
theorem RepF.up (R : RepF C F σ H B S) {er : Exc → V → Hp → Prop} (q3 : ∀ q, C.ob = some q → q = (a, nm)) (R1 : RepF (ctO (K := K) H B F a nm er) F' σ' H' B' S') : RepF C F' σ' H' B' S' := by
  have b := R.baseUp (R1.rep.base.less R1.sd)
  refine ⟨R.sideUp R1.sd, ⟨⟨fun p o np z => ?_, b.b0, b.bh, fun p o z => ?_⟩, R1.rep.len, fun i s h => ?_, R1.rep.dis, fun i s q h m e => ?_, fun i q h => ?_⟩, R1.one, fun i nm' fs' h => ?_⟩
  · cases e : F' p with
    | none =>
      rw [ext_N e] at z
      exact b.keep p o np z
    | some u =>
      rw [ext_F e] at z
      cases z
      exact (R1.cell e).1
  · refine (b.fr p o z).imp_right fun y => ?_
    cases e : F' p with
    | none => rw [ext_N e]; exact y
    | some u =>
      rw [(R1.cell e).2] at z
      cases z
  · obtain ⟨v, hv, r⟩ := R1.rep.slot i s h
    exact ⟨v, hv, by cases s <;> exact r⟩
  · rcases R1.rep.ownf i s q h m e with z | z
    · obtain ⟨z1, z2⟩ := ext_none z
      refine .inl ?_
      rw [ext_N z2]
      exact noneH R (ctO_none z1)
    · exact nomatch (show (none : Option (Option Addr)) = some (some q) from z)
  · have h : C.bx[i]? = some (some q) := h
    rw [List.length_eq_zero_iff.mp C.hbx] at h
    cases h
  · obtain ⟨a', h1, h2, h3⟩ := R1.ob i nm' fs' h
    refine ⟨a', h1, fun q z => ?_, h3⟩
    rw [q3 q z]
    exact h2 (a, nm) rfl
/-- try: .. except ..: return something of the error -/
def vTryR (nm : Str) (fb : VS) (kh : Exc → Option PyData) : VS := fun S => (objD nm S 0).bind fun _ => R.when (flatO S = true) (match fb S with
  | .ok fl => .ok fl
  | .err e => match kh e with
    | some d => match e.ob with
      | some fs => .ok (.rt d (some (.obj nm fs) :: List.replicate (S.length - 1) none))
      | none => .bad
    | none => .bad
  | .bad => .bad)
theorem st_tryR {n : Nat} {L : Cls} {fb : VS} {kh : Exc → Option PyData} {tb : WX → TS} {w : Ends → WX} (hob : ∃ a, C.ob = some (a, nm)) (hb : ∀ (C1 : Ct K 0) (W : WX), LinkE C1 L (fun cls d σ H => σ.length = n → W cls d σ H) → SSt C1 (tb W) fb)
    (hh : ∀ (e : Exc) (y : PyData) (c : Addr) (d : Option Addr) (v : V) (σ : L2.St) (H B : Hp) (D : Ends), kh e = some y → L.at_ e.cls = some c → (∀ z, e.arg = some z → Da K B v z) → Same B H → XD L e v d H → (∀ u H' B', Same H H' → Same B B' → Same B' H' → Frz H B B' → Da K B' u y → D.rt u H') → σ.length = n → w D (.ref c) d σ H) :
    SSt C (fun D σ H => tb (w D) D σ H) (vTryR nm fb kh) := by
  rintro σ H B S D ⟨F, R⟩ h
  obtain ⟨fs, a, q1, q2, q3, q4, h⟩ := obj_of R (post_bind.mp h)
  obtain ⟨fl, h⟩ := post_when.mp h
  obtain ⟨a0, ob⟩ := hob
  cases q3 _ ob
  have R1 := R.again (a := a) (nm := nm) (er := fun e v H' => ∀ d, XD L e v d H' → ∀ c, L.at_ e.cls = some c → ∀ σ : L2.St, σ.length = n → w D (.ref c) d σ H') fl fun i nm' fs' z => by
    have e := R.one i 0 _ _ z q1 rfl rfl
    subst e
    rw [q1] at z
    cases z
    exact ⟨rfl, q2⟩
  refine hb _ (w D) (fun e v d σ H' h xd c hc => (show ∀ d, XD L e v d H' → ∀ c, L.at_ e.cls = some c → ∀ σ : L2.St, σ.length = n → w D (.ref c) d σ H' from h) d xd c hc σ) σ H B S D ⟨F, R1⟩ ?_
  cases q : fb S with
  | bad =>
    rw [q] at h
    exact h.elim
  | ok x =>
    rw [q] at h
    have h : FlPost C B D x := h
    show FlPost _ B D x
    cases x with
    | nx S' => exact fun σ' H' B' ⟨F', R'⟩ e => h σ' H' B' ⟨F', R.up q3 R'⟩ e
    | rt d S' => exact fun v σ' H' B' ⟨F', R'⟩ e dv => h v σ' H' B' ⟨F', R.up q3 R'⟩ e dv
    | bk S' => exact fun σ' H' B' ⟨F', R'⟩ e => h σ' H' B' ⟨F', R.up q3 R'⟩ e
    | ct S' => exact fun σ' H' B' ⟨F', R'⟩ e => h σ' H' B' ⟨F', R.up q3 R'⟩ e
  | err e =>
    rw [q] at h
    dsimp only at h
    cases hk : kh e with
    | none =>
      rw [hk] at h
      exact h.elim
    | some y =>
      rw [hk] at h
      dsimp only at h
      cases ho : e.ob with
      | none =>
        rw [ho] at h
        exact h.elim
      | some fs' =>
        rw [ho] at h
        dsimp only at h
        show Ct.Out _ e
        intro H' B' v b ot da d xd c hc σ' hn
        obtain ⟨F', sd, c1, c2⟩ := ot a nm fs' rfl ho
        refine hh e y c d v σ' H' B' D hk hc da b.bh xd (fun u H2 B2 sH sB bh fz du => ?_) hn
        have sd' := R.sideUp sd
        have bU := R.baseUp b
        have hl : 0 < S.length := (List.getElem?_eq_some_iff.mp q1).1
        have at0 : ∀ (i : Nat) s, (some (SV.obj nm fs') :: List.replicate (S.length - 1) none)[i]? = some (some s) → i = 0 ∧ s = .obj nm fs' := fun i s z => by
          cases i with
          | zero => exact ⟨rfl, (Option.some.inj (Option.some.inj (show some (some (SV.obj nm fs')) = some (some s) from z))).symm⟩
          | succ i =>
            have z : (List.replicate (S.length - 1) (none : Option SV))[i]? = some (some s) := z
            rw [List.getElem?_replicate] at z
            split at z <;> cases z
        have c3 : ∀ p o, F' p = some o → H2 p = some o ∧ B2 p = none := fun p o z => by
          refine ⟨sH p o (c1 p o z).1, ?_⟩
          cases eb : B2 p with
          | none => rfl
          | some x =>
            rcases fz p x eb with y | y
            · rw [(c1 p o z).2] at y
              cases y
            · rw [(c1 p o z).1] at y
              cases y
        refine h u σ H2 B2 ⟨F', sd', ⟨⟨fun p o np z => ?_, bU.b0.trans sB, bh, fun p o z => ?_⟩, ?_, fun i s z => ?_, fun i j s u q z1 z2 m1 m2 e1 e2 => ?_, fun i s q z m e => ?_, fun i q z => ?_⟩, fun i j s u z1 z2 m1 m2 => ?_, fun i nm' fs2 z => ?_⟩ (b.b0.trans sB) du
        · cases e : F' p with
          | none =>
            rw [ext_N e] at z
            exact sH p o (bU.keep p o np z)
          | some x =>
            rw [ext_F e] at z
            cases z
            exact (c3 p _ e).1
        · have e : F' p = none := by
            cases e : F' p with
            | none => rfl
            | some x =>
              rw [(c3 p x e).2] at z
              cases z
          rcases fz p o z with y | y
          · exact (bU.fr p o y).imp_right fun y => by rw [ext_N e]; exact y
          · refine .inr ?_
            rw [ext_N e]
            cases e2 : C.H0 p with
            | none => rfl
            | some x =>
              rw [bU.keep p x (by rw [List.length_eq_zero_iff.mp C.hbx]; exact fun m => nomatch m) e2] at y
              cases y
        · rw [List.length_cons, List.length_replicate, ← R.rep.len]
          omega
        · obtain ⟨rfl, rfl⟩ := at0 i s z
          exact ⟨_, q2, trivial⟩
        · obtain ⟨rfl, rfl⟩ := at0 i s z1
          cases m1
        · obtain ⟨rfl, rfl⟩ := at0 i s z
          cases m
        · have z : C.bx[i]? = some (some q) := z
          rw [List.length_eq_zero_iff.mp C.hbx] at z
          cases z
        · rw [(at0 i s z1).1, (at0 j u z2).1]
        · obtain ⟨rfl, e⟩ := at0 i _ z
          cases e
          exact ⟨a, q2, q3, c2.mono sB⟩
theorem w_tryR {fb : VS} {kh : Exc → Option PyData} {kS : FL → Prop} {fs : List (Str × FV)} (h : S[0]? = some (some (.obj nm fs))) (fl : flatO S = true) (q : (fb S).ends kS fun e => ∃ d fs, kh e = some d ∧ e.ob = some fs ∧ kS (.rt d (some (.obj nm fs) :: List.replicate (S.length - 1) none))) : (vTryR nm fb kh S).okTo kS := by
  unfold vTryR
  rw [objD_ok h]
  refine okTo_when.mpr ⟨fl, ?_⟩
  cases e : fb S with
  | bad =>
    rw [e] at q
    exact q.elim
  | ok x =>
    rw [e] at q
    exact q
  | err x =>
    rw [e] at q
    obtain ⟨d, fs', h1, h2, h3⟩ := q
    show (match kh x with | some d => _ | none => _ : R FL).okTo kS
    rw [h1]
    show (match x.ob with | some fs => _ | none => _ : R FL).okTo kS
    rw [h2]
    exact h3
end
end Bo

/-! ### a pair told behind a call -/
namespace Bo
open PySem PySem.Spec PyProof.Rows L2
theorem ifT {p q : Prop} (h : p) : if true = true then p else q := by
  rw [if_pos rfl]
  exact h
end Bo

/-! ### the kind of an error -/
namespace Bo
open PySem L2
theorem ifF {p q : Prop} (h : q) : if false = true then p else q := by
  rw [if_neg (fun z => nomatch z)]
  exact h
def kindD (e : Exc) : Option PyData := match e.arg with
  | some z => if e.cls = "NoSuchState" then some (.tuple [.str "state", z]) else if e.cls = "NoSuchChoice" then some (.tuple [.str "choice", z]) else if e.cls = "InvalidSystem" then some (.tuple [.str "fault", z]) else none
  | none => if e.cls = "TooManyChanges" then some (.tuple [.str "many", .int 0]) else none
def spKind (K : PySem.W.Frag) (L : Cls) : Addr × Obj → List V → Hp → VK → Prop := fun p vs H Q => vs = [.ref p.1] ∧ ∃ (e : Exc) (y : PyData) (c : Addr) (d : Option Addr) (v : V) (B : Hp), kindD e = some y ∧ L.at_ e.cls = some c ∧ Zc (.ref c) d p.2 ∧ (∃ vs, p.2.data = .fields vs) ∧
  (∀ z, e.arg = some z → Da K B v z) ∧ Same B H ∧ XD L e v d H ∧ ∀ u H' B', Same H H' → Same B B' → Same B' H' → Frz H B B' → Da K B' u y → Q u H'
/-- the list laid, the pair in it, the pair told -/
theorem kind_end {K : PySem.W.Frag} {H B : Hp} {Q : VK} {s : Str} {v : V} {z : PyData} {l p : Addr} (bh : Same B H) (dv : Da K B v z) (k : ∀ u H' B', Same H H' → Same B B' → Same B' H' → Frz H B B' → Da K B' u (.tuple [.str s, z]) → Q u H') (hl : H l = none) (hp : upd H l (.lst []) p = none) :
    Q (.ref p) (upd (upd (upd H l (.lst [])) p (.tup [.str s, v])) l (.lst [.ref p])) := by
  have pl : p ≠ l := by
    rintro rfl
    rw [upd_same] at hp
    cases hp
  have hp0 : H p = none := by rwa [upd_ne pl] at hp
  have bn : ∀ q, H q = none → B q = none := fun q h => by
    cases e : B q with
    | none => rfl
    | some o =>
      rw [bh q o e] at h
      cases h
  have eB : Same B (upd B p (.tup [.str s, v])) := sm_new (bn p hp0)
  have sH : Same H (upd (upd (upd H l (.lst [])) p (.tup [.str s, v])) l (.lst [.ref p])) := fun q o z => by
    have ql : q ≠ l := ne_of_none z hl
    have qp : q ≠ p := ne_of_none z hp0
    rw [upd_ne ql, upd_ne qp, upd_ne ql]
    exact z
  refine k (.ref p) _ (upd B p (.tup [.str s, v])) sH eB (fun q o z => ?_) (fun q o z => ?_) (.tup (SqT.of upd_same) (.cons (.str _) (.cons (da_mono eB dv) .nil)))
  · by_cases e : q = p
    · subst e
      rw [upd_same] at z
      rw [upd_ne pl, upd_same]
      exact z
    · rw [upd_ne e] at z
      exact sH q o (bh q o z)
  · by_cases e : q = p
    · subst e
      exact .inr hp0
    · rw [upd_ne e] at z
      exact .inl z
end Bo

/-! ### lists within a list that are changed in place: by hand, between pieces that are read as functions -/
namespace Bo
open PySem L2
section
variable {K : PySem.W.Frag} {H B H1 B1 H2 B2 : Hp} {er : Exc → V → Hp → Prop}
/-- what a piece of code did: what stood stands, and what is told of as staying is new or was so -/
structure Stp (H B H1 B1 : Hp) : Prop where
  sH : Same H H1
  sB : Same B B1
  bh : Same B1 H1
  fz : Frz H B B1
theorem Stp.refl (bh : Same B H) : Stp H B H B := ⟨Same.refl _, Same.refl _, bh, fun _ _ z => .inl z⟩
theorem Stp.trans (a : Stp H B H1 B1) (b : Stp H1 B1 H2 B2) : Stp H B H2 B2 := ⟨a.sH.trans b.sH, a.sB.trans b.sB, b.bh, fun x o z => by
  rcases b.fz x o z with q | q
  · exact a.fz x o q
  · refine .inr ?_
    cases e : H x with
    | none => rfl
    | some u =>
      rw [a.sH x u e] at q
      cases q⟩
/-- what is changed stays changed: not told of as staying -/
theorem Stp.gone (s : Stp H B H1 B1) {a : Addr} {o : HO} (h : H a = some o) (b : B a = none) : B1 a = none := by
  cases e : B1 a with
  | none => rfl
  | some u =>
    rcases s.fz a u e with q | q
    · rw [b] at q
      cases q
    · rw [h] at q
      cases q
/-- slots that hold data alone -/
def Flats (K : PySem.W.Frag) (B : Hp) (σ : L2.St) (S : SS) : Prop := S.length = σ.length ∧ ∀ (i : Nat) s, S[i]? = some (some s) → ∃ d v, s = .dat d ∧ σ[i]? = some (some v) ∧ Da K B v d
theorem Flats.rep {σ : L2.St} {S : SS} (f : Flats K B σ S) (bh : Same B H) : Rep (ct0 (K := K) H B er) σ H B S := by
  have no : ∀ (i : Nat) s, S[i]? = some (some s) → s.mine = true → False := fun i s h m => by
    obtain ⟨d, _, rfl, _⟩ := f.2 i s h
    cases m
  refine Rep0.up ?_ fun i s h => by obtain ⟨d, _, rfl, _⟩ := f.2 i s h; rfl
  refine ⟨⟨fun a o _ q => q, Same.refl _, bh, fun a o q => .inl q⟩, f.1, fun i s h => ?_, fun i j s u a h1 h2 m1 m2 e1 e2 => (no i s h1 m1).elim, fun i s a h m e => (no i s h m).elim, fun i a h => nomatch (show (none : Option (Option Addr)) = some (some a) from h)⟩
  obtain ⟨d, v, rfl, h1, h2⟩ := f.2 i s h
  exact ⟨v, h1, h2⟩
theorem Flats.mono {σ : L2.St} {S : SS} (f : Flats K B σ S) (e : Same B B1) : Flats K B1 σ S := ⟨f.1, fun i s h => by
  obtain ⟨d, v, rfl, h1, h2⟩ := f.2 i s h
  exact ⟨d, v, rfl, h1, da_mono e h2⟩⟩
theorem Flats.put {σ : L2.St} {S : SS} {i : Nat} {v : V} {d : PyData} (f : Flats K B σ S) (h : Da K B v d) : Flats K B (σ.set i (some v)) (S.set i (some (.dat d))) := ⟨by simp [f.1], fun j s q => by
  by_cases e : j = i
  · subst e
    have hl : j < S.length := by
      have := (List.getElem?_eq_some_iff.mp q).1
      simpa using this
    rw [List.getElem?_set_self hl] at q
    cases q
    exact ⟨d, v, rfl, List.getElem?_set_self (by rw [← f.1]; exact hl), h⟩
  · rw [List.getElem?_set_ne (Ne.symm e)] at q
    obtain ⟨d, v, rfl, h1, h2⟩ := f.2 j s q
    exact ⟨d, v, rfl, by rw [List.getElem?_set_ne (Ne.symm e)]; exact h1, h2⟩⟩
/-! ### a list of lists -/
/-- at a a list of lists, each one's own -/
structure NL (K : PySem.W.Frag) (H B : Hp) (a : Addr) (bs : List Addr) (css : List (List PyData)) : Prop where
  top : H a = some (.lst (bs.map V.ref))
  nb : B a = none
  nd : (a :: bs).Nodup
  len : bs.length = css.length
  each : ∀ (i : Nat) b cs, bs[i]? = some b → css[i]? = some cs → ∃ vs, H b = some (.lst vs) ∧ B b = none ∧ DaAll K B vs cs
variable {a : Addr} {bs : List Addr} {css : List (List PyData)}
theorem NL.step (h : NL K H B a bs css) (s : Stp H B H1 B1) : NL K H1 B1 a bs css := ⟨s.sH _ _ h.top, s.gone h.top h.nb, h.nd, h.len, fun i b cs h1 h2 => by
  obtain ⟨vs, q1, q2, q3⟩ := h.each i b cs h1 h2
  exact ⟨vs, s.sH _ _ q1, s.gone q1 q2, daa_mono s.sB q3⟩⟩
/-- everything of the list of lists -/
theorem NL.mem (h : NL K H B a bs css) {x : Addr} (hx : x ∈ a :: bs) : (∃ o, H x = some o) ∧ B x = none := by
  rcases List.mem_cons.mp hx with rfl | hx
  · exact ⟨⟨_, h.top⟩, h.nb⟩
  · obtain ⟨i, hi⟩ := List.getElem?_of_mem hx
    have hl : i < css.length := by
      have := (List.getElem?_eq_some_iff.mp hi).1
      rw [← h.len]
      exact this
    obtain ⟨vs, q1, q2, _⟩ := h.each i x css[i] hi (List.getElem?_eq_getElem hl)
    exact ⟨⟨_, q1⟩, q2⟩
/-- one list more, empty -/
theorem NL.push (h : NL K H B a bs css) {b : Addr} (hb : H b = none) (bh : Same B H) : NL K (upd (upd H b (.lst [])) a (.lst (bs.map V.ref ++ [V.ref b]))) B a (bs ++ [b]) (css ++ [[]]) := by
  have nbm : b ∉ a :: bs := fun hm => by
    obtain ⟨⟨o, ho⟩, _⟩ := h.mem hm
    rw [hb] at ho
    cases ho
  have nba : b ≠ a := fun e => nbm (by rw [e]; exact List.mem_cons_self)
  have nb2 : b ∉ bs := fun e => nbm (List.mem_cons_of_mem _ e)
  have nd := h.nd
  rw [List.nodup_cons] at nd
  refine ⟨by rw [upd_same, List.map_append]; rfl, h.nb, ?_, by rw [List.length_append, List.length_append, h.len]; rfl, fun i c cs h1 h2 => ?_⟩
  · rw [List.nodup_cons]
    refine ⟨fun hm => ?_, ?_⟩
    · rcases List.mem_append.mp hm with q | q
      · exact nd.1 q
      · exact nba (List.mem_singleton.mp q).symm
    · refine List.nodup_append.mpr ⟨nd.2, by simp, fun x hx y hy => ?_⟩
      rw [List.mem_singleton.mp hy]
      rintro rfl
      exact nb2 hx
  · by_cases hi : i < bs.length
    · rw [List.getElem?_append_left hi] at h1
      rw [List.getElem?_append_left (by rw [← h.len]; exact hi)] at h2
      obtain ⟨vs, q1, q2, q3⟩ := h.each i c cs h1 h2
      have n1 : c ≠ a := fun e => nd.1 (by rw [← e]; exact List.mem_of_getElem? h1)
      have n2 : c ≠ b := fun e => nb2 (by rw [← e]; exact List.mem_of_getElem? h1)
      exact ⟨vs, by rw [upd_ne n1, upd_ne n2]; exact q1, q2, q3⟩
    · have e : i = bs.length := by
        have := (List.getElem?_eq_some_iff.mp h1).1
        rw [List.length_append, List.length_singleton] at this
        omega
      subst e
      rw [List.getElem?_append_right (Nat.le_refl _), Nat.sub_self] at h1
      rw [List.getElem?_append_right (by rw [h.len]; exact Nat.le_refl _), h.len, Nat.sub_self] at h2
      cases h1
      cases h2
      refine ⟨[], by rw [upd_ne nba, upd_same], ?_, .nil⟩
      cases q : B b with
      | none => rfl
      | some o =>
        rw [bh b o q] at hb
        cases hb
/-- one of the lists is changed -/
theorem NL.write (h : NL K H B a bs css) {i : Nat} {b : Addr} {vs : List V} {cs : List PyData} (hb : bs[i]? = some b) (d : DaAll K B vs cs) : NL K (upd H b (.lst vs)) B a bs (css.set i cs) := by
  have nd := h.nd
  rw [List.nodup_cons] at nd
  have nba : a ≠ b := fun e => nd.1 (by rw [e]; exact List.mem_of_getElem? hb)
  refine ⟨by rw [upd_ne nba]; exact h.top, h.nb, h.nd, by rw [List.length_set]; exact h.len, fun j c ds h1 h2 => ?_⟩
  by_cases e : j = i
  · subst e
    rw [hb] at h1
    cases h1
    have hl : j < css.length := by
      have := (List.getElem?_eq_some_iff.mp h2).1
      simpa using this
    rw [List.getElem?_set_self hl] at h2
    cases h2
    exact ⟨vs, upd_same, (h.mem (List.mem_cons_of_mem _ (List.mem_of_getElem? hb))).2, d⟩
  · rw [List.getElem?_set_ne (Ne.symm e)] at h2
    obtain ⟨ws, q1, q2, q3⟩ := h.each j c ds h1 h2
    have n : c ≠ b := fun z => by
      subst z
      have l1 := (List.getElem?_eq_some_iff.mp h1)
      have l2 := (List.getElem?_eq_some_iff.mp hb)
      exact e ((List.getElem_inj nd.2).mp (l1.2.trans l2.2.symm))
    exact ⟨ws, by rw [upd_ne n]; exact q1, q2, q3⟩
/-- from here on it stays -/
def frzAll (H B : Hp) (xs : List Addr) : Hp := fun x => if x ∈ xs then H x else B x
theorem NL.rest (h : NL K H B a bs css) (bh : Same B H) : Same B (frzAll H B (a :: bs)) ∧ Same (frzAll H B (a :: bs)) H ∧ Da K (frzAll H B (a :: bs)) (.ref a) (.list (css.map PyData.list)) := by
  have sB : Same B (frzAll H B (a :: bs)) := fun x o q => by
    unfold frzAll
    by_cases e : x ∈ a :: bs
    · have := (h.mem e).2
      rw [this] at q
      cases q
    · rw [if_neg e]
      exact q
  refine ⟨sB, fun x o q => ?_, .lst (xs := bs.map V.ref) ?_ ?_⟩
  · unfold frzAll at q
    by_cases e : x ∈ a :: bs
    · rw [if_pos e] at q
      exact q
    · rw [if_neg e] at q
      exact bh x o q
  · unfold frzAll
    rw [if_pos List.mem_cons_self]
    exact h.top
  · have go : ∀ (m : Nat) (bs' : List Addr) (css' : List (List PyData)), bs'.length = css'.length → (∀ (i : Nat) b cs, bs'[i]? = some b → css'[i]? = some cs → b ∈ a :: bs ∧ ∃ vs, H b = some (.lst vs) ∧ DaAll K (frzAll H B (a :: bs)) vs cs) → DaAll K (frzAll H B (a :: bs)) (bs'.map V.ref) (css'.map PyData.list) := by
      intro m bs'
      induction bs' with
      | nil =>
        intro css' l _
        cases css' with
        | nil => exact .nil
        | cons c r => simp at l
      | cons b r ih =>
        intro css' l hh
        cases css' with
        | nil => simp at l
        | cons c s =>
          obtain ⟨m1, vs, q1, q2⟩ := hh 0 b c rfl rfl
          refine .cons (.lst (xs := vs) ?_ q2) (ih s (by simpa using l) fun i b' cs h1 h2 => hh (i + 1) b' cs h1 h2)
          unfold frzAll
          rw [if_pos m1]
          exact q1
    refine go 0 bs css h.len fun i b cs h1 h2 => ?_
    obtain ⟨vs, q1, q2, q3⟩ := h.each i b cs h1 h2
    exact ⟨List.mem_cons_of_mem _ (List.mem_of_getElem? h1), vs, q1, daa_mono sB q3⟩
/-! ### a loop by hand -/
end
end Bo

/-! ### parse_system's walk over its lines -/
namespace Bo
open PySem L2
section
variable {K : PySem.W.Frag} {C : Ct K 0} {H B H1 B1 : Hp}
/-- stores at places that are new since -/
theorem Stp.new {H2 : Hp} (s : Stp H B H1 B1) (h : ∀ x, H2 x ≠ H1 x → H x = none ∧ B1 x = none) : Stp H B H2 B1 := by
  refine ⟨fun x o q => ?_, s.sB, fun x o q => ?_, s.fz⟩
  · by_cases e : H2 x = H1 x
    · rw [e]
      exact s.sH x o q
    · rw [(h x e).1] at q
      cases q
  · by_cases e : H2 x = H1 x
    · rw [e]
      exact s.bh x o q
    · rw [(h x e).2] at q
      cases q
theorem Stp.back (s : Stp H B H1 B1) {x : Addr} (h : H1 x = none) : H x = none := by
  cases e : H x with
  | none => rfl
  | some o =>
    rw [s.sH x o e] at h
    cases h
end
end Bo

/-! ### x, *ys = a list -/
namespace Bo
open PySem L2
section
variable {K : PySem.W.Frag} {n : Nat} {C : Ct K n}
end
end Bo

/-! ### slots that nobody reads any more are let go; is of bools; new dicts that a def tells -/
namespace Bo
open PySem L2
section
variable {K : PySem.W.Frag} {n : Nat} {C : Ct K n} {σ : L2.St} {H B : Hp} {S : SS}
theorem wipeS_out {i : Nat} : ∀ {vs : List Nat}, i ∉ vs → (wipeS S vs)[i]? = S[i]?
  | [], _ => rfl
  | u :: us, h => by
    unfold wipeS
    rw [List.getElem?_set_ne (fun e => h (by simp [e]))]
    exact wipeS_out fun z => h (List.mem_cons_of_mem _ z)
theorem Rep0.killed (R : Rep0 C σ H B S) {vs : List Nat} (hv : ∀ v ∈ vs, n ≤ v) : Rep0 C σ H B (wipeS S vs) := by
  refine ⟨R.base, by rw [wipeS_len]; exact R.len, fun i s h => R.slot i s (wipeS_some h).2, fun i j s u a h1 h2 m1 m2 e1 e2 => R.dis i j s u a (wipeS_some h1).2 (wipeS_some h2).2 m1 m2 e1 e2, fun i s a h m e => R.ownf i s a (wipeS_some h).2 m e, fun i a h => ?_⟩
  have hn : i ∉ vs := fun z => by
    have := hv i z
    have := (List.getElem?_eq_some_iff.mp h).1
    have := C.hbx
    omega
  obtain ⟨q1, s, q2, q3⟩ := R.box i a h
  exact ⟨q1, s, by rw [wipeS_out hn]; exact q2, q3⟩
theorem Rep.killed (R : Rep C σ H B S) {vs : List Nat} (hv : ∀ v ∈ vs, n ≤ v) : Rep C σ H B (wipeS S vs) := by
  obtain ⟨F, R⟩ := R
  exact ⟨F, R.sd, R.rep.killed hv, fun i j s u h1 h2 => R.one i j s u (wipeS_some h1).2 (wipeS_some h2).2, fun i nm fs h => R.ob i nm fs (wipeS_some h).2⟩
def vPre (vs : List Nat) (f : VS) : VS := fun S => f (wipeS S vs)
def thenF (vs : List Nat) : FL → FL
  | .nx S => .nx (wipeS S vs)
  | f => f
def vThen (vs : List Nat) (f : VS) : VS := fun S => (f S).bind fun fl => .ok (thenF vs fl)
theorem st_then {t : TS} {f : VS} {vs : List Nat} (hv : vs.all (fun v => decide (n ≤ v)) = true) (h : SSt C t f) : SSt C t (vThen vs f) := by
  intro σ H B S D R q
  refine h σ H B S D R ((post_bind.mp q).mono fun fl q => ?_)
  cases fl with
  | nx S1 => exact fun σ' H' B' R1 e1 => q σ' H' B' (R1.killed fun v m => of_decide_eq_true (List.all_eq_true.mp hv v m)) e1
  | rt d S1 => exact q
  | bk S1 => exact q
  | ct S1 => exact q
theorem w_pre {f : VS} {vs : List Nat} {kS : FL → Prop} (h : (f (wipeS S vs)).okTo kS) : (vPre vs f S).okTo kS := h
theorem w_then {f : VS} {vs : List Nat} {kS : FL → Prop} (h : (f S).okTo fun fl => match fl with
    | .nx S1 => kS (.nx (wipeS S1 vs))
    | fl => kS fl) : (vThen vs f S).okTo kS := by
  unfold vThen
  refine okTo_bind.mpr (h.mono fun fl q => ?_)
  cases fl <;> exact q
/-! is of bools -/
def gIsB (neg : Bool) : PyData → PyData → R PyData
  | .bool a, .bool b => .ok (.bool (if neg then !decide (a = b) else decide (a = b)))
  | _, _ => .bad
theorem w_gIsB {neg a b : Bool} {kD : PyData → Prop} (q : kD (.bool (if neg then !decide (a = b) else decide (a = b)))) : (gIsB neg (.bool a) (.bool b)).okTo kD := q
/-! == of bools and ints (True == 1) stays out; == of bools is eqF's -/
/-! a def of the script that tells a new dict -/
/-- a value that needs no step -/
def SPu (C : Ct K n) (t : TE) (f : SS → Option PyData) : Prop := ∀ (σ : L2.St) (H B : Hp) (S : SS) (d : PyData), Rep C σ H B S → f S = some d → ∃ v, Da K B v d ∧ ∀ (H' : Hp) (Q : VK), Q v H' → t σ H' Q
inductive Prs (C : Ct K n) : List (TE × TE) → List (Str × (SS → Option PyData)) → Prop
  | nil : Prs C [] []
  | cons {x : Str} {t : TE} {f : SS → Option PyData} {ts : List (TE × TE)} {fs : List (Str × (SS → Option PyData))} (h : SPu C t f) (r : Prs C ts fs) : Prs C ((tC (.str x), t) :: ts) ((x, f) :: fs)
def vNewS (i j : Nat) (den : List Int → R (List (Key × PyData))) : VS := fun S => match S[j]? with
  | some (some (.scr ns)) => ((den ns).noErr).bind fun kvs => .ok (.nx (S.set i (some (.dic kvs))))
  | _ => .bad
theorem w_newS {i j : Nat} {den : List Int → R (List (Key × PyData))} {ns : List Int} {kS : FL → Prop} (h : S[j]? = some (some (.scr ns))) (q : (den ns).okTo fun kvs => kS (.nx (S.set i (some (.dic kvs))))) : (vNewS i j den S).okTo kS := by
  unfold vNewS
  rw [h]
  exact okTo_bind.mpr (okTo_noErr.mpr q)
/-! d[k] -/
def vGetD (i : Nat) (fk : VE) : VE := fun S => (dicD S i).bind fun _ => (fk S).bind fun p => (keyD p.1).bind fun y => (dicD p.2 i).bind fun kvs => match valD kvs y with
  | some d => .ok (d, p.2)
  | none => .bad
theorem w_dic {i : Nat} {kvs : List (Key × PyData)} {k : List (Key × PyData) → Prop} (h : S[i]? = some (some (.dic kvs))) (q : k kvs) : (dicD S i).okTo k := by
  unfold dicD
  rw [h]
  exact q
theorem w_keyS {x : Str} {k : Key → Prop} (q : k (.inr x)) : (keyD (.str x)).okTo k := q
theorem w_keyI {x : Int} {k : Key → Prop} (q : k (.inl x)) : (keyD (.int x)).okTo k := q
theorem w_getD {i : Nat} {fk : VE} {kE : PyData × SS → Prop} (h : (dicD S i).okTo fun _ => (fk S).okTo fun p => (keyD p.1).okTo fun y => (dicD p.2 i).okTo fun kvs => ∃ d, valD kvs y = some d ∧ kE (d, p.2)) : (vGetD i fk S).okTo kE := by
  unfold vGetD
  refine okTo_bind.mpr (h.mono fun _ h => okTo_bind.mpr (h.mono fun p h => okTo_bind.mpr (h.mono fun y h => okTo_bind.mpr (h.mono fun kvs ⟨d, e, q⟩ => ?_))))
  rw [e]
  exact q
theorem w_putD {i : Nat} {fk fe : VE} {kS : FL → Prop} (h : (fe S).okTo fun p => (dicD p.2 i).okTo fun _ => (fk p.2).okTo fun q => (keyD q.1).okTo fun y => (dicD q.2 i).okTo fun kvs => kvs.length < 100000 ∧ kS (.nx (q.2.set i (some (.dic (putD kvs y p.1)))))) : (vPutD i fk fe S).okTo kS := by
  unfold vPutD
  simp only [okTo_bind, okTo_when]
  exact h
theorem w_callD {m i : Nat} {fr : VA} {g : List (Key × PyData) → List PyData → R (PyData × List (Key × PyData))} {kE : PyData × SS → Prop} (h : (dicD S i).okTo fun _ => (fr S).okTo fun p => (dicD p.2 i).okTo fun bs => p.1.length = m ∧ (g bs p.1).okTo fun z => kE (z.1, p.2.set i (some (.dic z.2)))) : (vCallD m g i fr S).okTo kE := by
  unfold vCallD
  simp only [okTo_bind, okTo_when, okTo_noErr]
  exact h
/-! x is None, x a slot's list at times -/
def vIsNO (neg : Bool) (i : Nat) : VE := fun S => match S[i]? with
  | some (some (.dat d)) => .ok (.bool (if neg then !isNone d else isNone d), S)
  | some (some (.own _)) => .ok (.bool neg, S)
  | _ => .bad
theorem w_isNOd {neg : Bool} {i : Nat} {d : PyData} {kE : PyData × SS → Prop} (h : S[i]? = some (some (.dat d))) (q : kE (.bool (if neg then !isNone d else isNone d), S)) : (vIsNO neg i S).okTo kE := by
  unfold vIsNO
  rw [h]
  exact q
theorem w_isNOo {neg : Bool} {i : Nat} {ds : List PyData} {kE : PyData × SS → Prop} (h : S[i]? = some (some (.own ds))) (q : kE (.bool neg, S)) : (vIsNO neg i S).okTo kE := by
  unfold vIsNO
  rw [h]
  exact q
/-! a slot's list is turned round -/
def vRevO (i : Nat) : VE := fun S => (ownD S i).bind fun ds => .ok (.none, S.set i (some (.own ds.reverse)))
theorem w_revO {i : Nat} {ds : List PyData} {kE : PyData × SS → Prop} (h : S[i]? = some (some (.own ds))) (q : kE (.none, S.set i (some (.own ds.reverse)))) : (vRevO i S).okTo kE := by
  unfold vRevO ownD
  rw [h]
  exact q
end
end Bo
namespace Bo
open PySem L2
end Bo

/-! ### defs that tell a new list, which the caller may change; their first argument is a dict or a list that they change -/
namespace Bo
open PySem L2
section
variable {K : PySem.W.Frag} {n : Nat} {C : Ct K n} {σ : L2.St} {H B : Hp} {S : SS}
/-- taken by a slot -/
def vOwnCallD (j : Nat) (m : Nat) (den : List (Key × PyData) → List PyData → R (List PyData × List (Key × PyData))) (i : Nat) (fa : VA) : VS := fun S => (dicD S i).bind fun _ => (fa S).bind fun p => (dicD p.2 i).bind fun bs => R.when (p.1.length = m) (((den bs p.1).noErr).bind fun z => .ok (.nx ((p.2.set i (some (.dic z.2))).set j (some (.own z.1)))))
/-- as a value -/
def vCallDF (m : Nat) (den : List (Key × PyData) → List PyData → R (List PyData × List (Key × PyData))) (i : Nat) (fa : VA) : VE := fun S => (dicD S i).bind fun _ => (fa S).bind fun p => (dicD p.2 i).bind fun bs => R.when (p.1.length = m) (((den bs p.1).noErr).bind fun z => .ok (.list z.1, p.2.set i (some (.dic z.2))))
theorem w_ownCallD {j m i : Nat} {den : List (Key × PyData) → List PyData → R (List PyData × List (Key × PyData))} {fa : VA} {kS : FL → Prop} (h : (dicD S i).okTo fun _ => (fa S).okTo fun p => (dicD p.2 i).okTo fun bs => p.1.length = m ∧ (den bs p.1).okTo fun z => kS (.nx ((p.2.set i (some (.dic z.2))).set j (some (.own z.1))))) : (vOwnCallD j m den i fa S).okTo kS := by
  unfold vOwnCallD
  simp only [okTo_bind, okTo_when, okTo_noErr]
  exact h
theorem w_callDF {m i : Nat} {den : List (Key × PyData) → List PyData → R (List PyData × List (Key × PyData))} {fa : VA} {kE : PyData × SS → Prop} (h : (dicD S i).okTo fun _ => (fa S).okTo fun p => (dicD p.2 i).okTo fun bs => p.1.length = m ∧ (den bs p.1).okTo fun z => kE (.list z.1, p.2.set i (some (.dic z.2)))) : (vCallDF m den i fa S).okTo kE := by
  unfold vCallDF
  simp only [okTo_bind, okTo_when, okTo_noErr]
  exact h
end
end Bo

set_option maxHeartbeats 1000000
/-! ### texts: cut at a sign, in two and in all parts -/
namespace Bo
open PySem PySem.StrLaws Builtin Builtin.Str L2
def sg (l : List Nat) : Str := ⟨l.toArray⟩
/-! ### digits -/
/-! ### a minus in front -/
/-! ### what a text says -/
end Bo

namespace Bo
open PySem L2
noncomputable section
end
end Bo

namespace Bo
open PySem L2
noncomputable section
def body_are_ends : VS :=
    (vSeq (vIfS (tNotF (vTst (vChain (gIB fun i j => decide (i ≤ j)) (gIB fun i j => decide (i ≤ j)) (vC (.int 1)) (vCall gLen (vCons (vVar 1) vNil)) (vC (.int 6))))) (vRet (vC (.bool false))) vNext)
    (vSeq (vAsg (vUn gNeg (vC (.int 1))) (aName 2))
    (vSeq (vThen [2, 3, 4] (vFor (vIterT (vVar 1)) (aTup 2 (aCons (aName 3) (aCons (aName 4) aNil))) (vThen [3, 4] (vSeq (vIfS (tNotF (vTst (vChain (gIB fun i j => decide (i < j)) (gIB fun i j => decide (i < j)) (vVar 2) (vVar 3) (vVar 0)))) (vRet (vC (.bool false))) vNext)
    (vSeq (vIfS (tNotF (vTst (vChain (gIB fun i j => decide (i ≤ j)) (gIB fun i j => decide (i ≤ j)) (vC (.int 1)) (vVar 4) (vC (.int 1000))))) (vRet (vC (.bool false))) vNext)
    (vAsg (vVar 3) (aName 2)))))))
    (vRet (vC (.bool true))))))
def den_are_ends := denP 5 body_are_ends
def body_fault_in_state : VS :=
    (vSeq (vIfS (tNotF (vTst (vChain (gIB fun i j => decide (i ≤ j)) (gIB fun i j => decide (i ≤ j)) (vC (.int 1)) (vCall gLen (vCons (vVar 2) vNil)) (vC (.int 6))))) (vRet (vTup (vCons (vC (.str "choices")) (vCons (vVar 1) vNil)))) vNext)
    (vSeq (vThen [3, 4, 5] (vFor (vEnumK .T (vCons (vVar 2) vNil)) (aTup 2 (aCons (aName 3) (aCons (aTup 2 (aCons (aName 4) (aCons (aName 5) aNil))) aNil))) (vThen [3, 4, 5] (vSeq (vIfS (tNotF (vTst (vChain (gIB fun i j => decide (i ≤ j)) (gIB fun i j => decide (i ≤ j)) (vC (.int 0)) (vVar 4) (vC (.int 1000))))) (vRet (vTup (vCons (vC (.str "cost")) (vCons (vVar 1) (vCons (vVar 3) vNil))))) vNext)
    (vIfS (tNotF (vTst (vCallP 2 den_are_ends (vCons (vVar 0) (vCons (vVar 5) vNil))))) (vRet (vTup (vCons (vC (.str "ends")) (vCons (vVar 1) (vCons (vVar 3) vNil))))) vNext)))))
    (vRet (vC .none))))
def den_fault_in_state := denP 6 body_fault_in_state
def body_fault : VS :=
    (vSeq (vIfS (tNotF (vTst (vChain (gIB fun i j => decide (i ≤ j)) (gIB fun i j => decide (i ≤ j)) (vC (.int 1)) (vCall gLen (vCons (vVar 0) vNil)) (vC (.int 20))))) (vRet (vTup (vCons (vC (.str "states")) vNil))) vNext)
    (vSeq (vThen [1, 2, 3] (vFor (vEnumK .T (vCons (vVar 0) vNil)) (aTup 2 (aCons (aName 1) (aCons (aName 2) aNil))) (vThen [1, 2, 3] (vSeq (vAsg (vCallP 3 den_fault_in_state (vCons (vCall gLen (vCons (vVar 0) vNil)) (vCons (vVar 1) (vCons (vVar 2) vNil)))) (aName 3))
    (vIfS (vTst (vOp (fun d e => R.when (isNone e = true) (.ok (.bool (!isNone d)))) (vVar 3) (vC .none))) (vRet (vVar 3)) vNext)))))
    (vRet (vC .none))))
def den_fault := denP 4 body_fault
end
end Bo

/-! ### walking defs that raise: loops, displays, calls within -/
namespace Bo
open PySem L2
section
variable {S : SS} {fa fb : VE} {fr : VA} {ff : VF} {fs fs' : VS} {ft : VT} {kE : PyData × SS → Prop} {kD : PyData → Prop} {kS : FL → Prop} {kA : List PyData × SS → Prop} {i m : Nat} {ds : List PyData} {ke : Exc → Prop}
end
end Bo

namespace Bo
open PySem L2
local macro_rules | `(tactic| walk_at "wv1") => `(tactic| (first
  | ((with_reducible refine w_var (d := ?wd) ?wh ?wq); (case wh => exact rfl))
  | with_reducible refine w_cons ?_
  | with_reducible refine w_nil ?_
  | with_reducible refine w_op ?_
  | with_reducible refine w_c ?_
  | with_reducible refine w_aName ?_
  | with_reducible refine w_seq ?_
  | with_reducible refine w_asg ?_
  | with_reducible refine w_toB ?_
  | with_reducible refine w_callP ?_
  | with_reducible refine w_tst ?_
  | with_reducible refine w_then ?_
  | with_reducible refine w_gIxT ?_
  | with_reducible refine w_call ?_
  | with_reducible refine w_ret ?_
  | with_reducible refine w_ifS ?_
  | with_reducible refine w_next ?_
  | ((with_reducible refine w_own (ds := ?wd) ?wh ?wq); (case wh => exact rfl))
  | with_reducible refine w_for ?_
  | with_reducible refine w_fr ?_
  | with_reducible refine w_lc ?_
  | with_reducible refine w_tup ?_
  | with_reducible refine w_iter ?_
  | with_reducible refine w_itFT ?_
  | with_reducible refine w_aCons ?_
  | with_reducible refine w_gIxL ?_
  | with_reducible refine w_tnot ?_
  | with_reducible refine w_pre ?_
  | ((with_reducible refine w_dic (kvs := ?wd) ?wh ?wq); (case wh => exact rfl))
  | with_reducible refine w_tor ?_
  | with_reducible refine w_range1 ?_
  | with_reducible refine w_yes ?_
  | with_reducible refine w_itTT ?_
  | with_reducible refine w_iterT ?_
  | with_reducible refine w_lst ?_
  | with_reducible refine w_toI ?_
  | with_reducible refine w_ownS ?_
  | with_reducible refine w_aTup rfl ?_
  | with_reducible refine w_aNil ?_
  | ((with_reducible refine w_frz (ds := ?wd) ?wh ?wq); (case wh => exact rfl))
  | with_reducible refine w_itT ?_
  | with_reducible refine w_callD ?_
  | with_reducible refine w_tand ?_
  | with_reducible refine w_gEqI ?_
  | with_reducible refine w_gNeI ?_
  | with_reducible refine w_gLenT ?_
  | with_reducible refine w_lstF ?_
  | with_reducible refine w_callB ?_
  | with_reducible refine w_app ?_
  | with_reducible refine w_setI ?_
  | with_reducible refine w_drop ?_
  | with_reducible refine w_gIB ?_
  | with_reducible refine w_gBools ?_
  | with_reducible refine w_and ?_
  | with_reducible refine w_isN ?_
  | with_reducible refine w_or ?_
  | with_reducible refine w_ixO ?_
  | with_reducible refine w_gI ?_
  | with_reducible refine w_gLenL ?_
  | with_reducible refine w_gTuple ?_
  | with_reducible refine w_gInts ?_
  | ((with_reducible refine w_newS (ns := ?wd) ?wh ?wq); (case wh => exact rfl))
  | with_reducible refine w_un ?_
  | with_reducible refine w_if ?_
  | with_reducible refine w_chain ?_
  | ((with_reducible refine w_callS (ns := ?wd) ?wh ?wq); (case wh => exact rfl))
  | with_reducible refine w_sl ?_
  | with_reducible refine w_noPart ?_
  | with_reducible refine w_part ?_
  | with_reducible refine w_listRg ?_
  | with_reducible refine w_enumK ?_
  | with_reducible refine w_repF ?_
  | with_reducible refine w_gIC ?_
  | with_reducible refine w_gCat ?_
  | with_reducible refine w_gCatT ?_
  | with_reducible refine w_notN ?_
  | with_reducible refine w_listF ?_
  | with_reducible refine w_neg ?_
  | with_reducible refine w_gIsB ?_
  | with_reducible refine w_not ?_
  | with_reducible refine w_tru ?_
  | with_reducible refine w_callL ?_
  | with_reducible refine w_consO ?_
  | with_reducible refine w_lenO ?_
  | with_reducible refine w_tupleO ?_
  | with_reducible refine w_listO ?_
  | with_reducible refine w_inO ?_
  | with_reducible refine w_truO ?_
  | with_reducible refine w_zipK ?_
  | with_reducible refine w_retN ?_
  | ((with_reducible refine w_aug (a := ?wd) ?wh ?wq); (case wh => exact rfl))
  | with_reducible refine w_gInL ?_
  | with_reducible refine w_gIntI ?_
  | with_reducible refine w_gRevL ?_
  | with_reducible refine w_gSlL ?_
  | with_reducible refine w_gSlT ?_
  | with_reducible refine w_itF ?_
  | with_reducible refine w_gList ?_
  | with_reducible refine w_gSortI ?_
  | with_reducible refine w_range2 ?_
  | ((with_reducible refine w_lcO (ds := ?wd) ?wh ?wq ?wr); (case wh => exact rfl); (case wq => exact rfl))
  | with_reducible refine w_aUnl rfl ?_
  | with_reducible refine w_brk ?_
  | with_reducible refine w_cnt ?_
  | with_reducible refine w_gIntB ?_
  | with_reducible refine w_getD ?_
  | with_reducible refine w_keyS ?_
  | with_reducible refine w_keyI ?_
  | with_reducible refine w_putD ?_
  | with_reducible refine w_ownCallD ?_
  | with_reducible refine w_callDF ?_
  | with_reducible refine w_gIxQL ?_
  | with_reducible refine w_gIxQT ?_
  | ((with_reducible refine w_revO (ds := ?wd) ?wh ?wq); (case wh => exact rfl))
  | ((with_reducible refine w_isNOd (d := ?wd) ?wh ?wq); (case wh => exact rfl))
  | ((with_reducible refine w_isNOo (ds := ?wd) ?wh ?wq); (case wh => exact rfl))
  | with_reducible refine w_toS ?_
  | with_reducible refine w_m0 ?_
  | with_reducible refine w_m1 ?_
  | with_reducible refine w_gIsdigit ?_
  | with_reducible refine w_gIsascii ?_
  | with_reducible refine w_gRemoveprefix ?_
  | with_reducible refine w_gPartition ?_
  | with_reducible refine w_gSplit ?_
  | with_reducible refine w_join ?_
  | with_reducible refine w_joinO ?_
  | with_reducible refine w_joinR ?_
  | with_reducible refine w_gInS ?_
  | with_reducible refine w_gIxS ?_
  | with_reducible refine w_gSlS ?_
  | with_reducible refine w_iterS ?_
  | with_reducible refine w_gRepS ?_
  | with_reducible refine w_gCatS ?_
  | with_reducible refine w_gLenS ?_
  | with_reducible refine w_gStrI ?_
  | with_reducible refine w_gIntS ?_
  | with_reducible refine w_fmt ?_
  | with_reducible refine w_toFmtS ?_
  | with_reducible refine w_toFmtI ?_
  | with_reducible refine w_joined ?_
  | with_reducible refine w_jsCons ?_
  | with_reducible refine w_jsNil ?_
  | with_reducible refine w_gMin2 ?_
  | with_reducible refine w_gEqS ?_
  | with_reducible refine w_gNeS ?_
  | simp only [wipeS, backS, List.set_cons_zero, List.set_cons_succ, List.getElem?_cons_zero, List.getElem?_cons_succ, Option.join_some, Option.join_none, Bool.not_true, Bool.not_false]))
local macro_rules | `(tactic| walk_at "wv") => `(tactic| ((repeat (walk_at "wv1"; try dsimp only)); try simp only [List.set_cons_zero, List.set_cons_succ]))
local macro_rules | `(tactic| walk_at "st") => `(tactic| simp only [startS, List.map_cons, List.map_nil, List.length_cons, List.length_nil, Nat.reduceAdd, Nat.reduceSub, List.replicate_succ, List.replicate_zero, List.cons_append, List.nil_append])

section
/-! ### written systems: what is read -/
open PySem L2 TL
theorem nought : Str.ofString "0" = sg [48] := by decide +kernel
/-! a choice -/
/-! the lines -/
def STATE : List Nat := [115, 116, 97, 116, 101]
/-! the fault of a system -/
def endsG (m : Int) : Int → List (Int × Int) → Bool
  | _, [] => true
  | b, e :: r => decide (b < e.1) && decide (e.1 < m) && decide (1 ≤ e.2) && decide (e.2 ≤ 1000) && endsG m e.1 r
def endsB (m : Int) (es : List (Int × Int)) : Bool := decide (1 ≤ es.length) && decide (es.length ≤ 6) && endsG m (-1) es
def fltC (m st : Int) : Nat → List Cho → PyData
  | _, [] => .none
  | k, c :: r => if (decide (0 ≤ c.1) && decide (c.1 ≤ 1000)) = true then if endsB m c.2 = true then fltC m st (k + 1) r else .tuple [.str (Str.ofString "ends"), .int st, .int (k : Nat)] else .tuple [.str (Str.ofString "cost"), .int st, .int (k : Nat)]
def fltS (m st : Int) (s : List Cho) : PyData := if (decide (1 ≤ s.length) && decide (s.length ≤ 6)) = true then fltC m st 0 s else .tuple [.str (Str.ofString "choices"), .int st]
def fltY (m : Int) : Nat → List (List Cho) → PyData
  | _, [] => .none
  | k, s :: r => match fltS m (k : Nat) s with
    | .none => fltY m (k + 1) r
    | d => d
def flt (y : List (List Cho)) : PyData := if (decide (1 ≤ y.length) && decide (y.length ≤ 20)) = true then fltY (y.length : Nat) 0 y else .tuple [.str (Str.ofString "states")]
/-- a <= x <= b, a < x < b, not -/
theorem not_le3 {S : SS} {fa fb fc : VE} {a x b : Int} (ha : (fa S).okTo fun p => p = (.int a, S)) (hb : (fb S).okTo fun p => p = (.int x, S)) (hc : (fc S).okTo fun p => p = (.int b, S)) :
    (tNotF (vTst (vChain (gIB fun i j => decide (i ≤ j)) (gIB fun i j => decide (i ≤ j)) fa fb fc)) S).okTo fun p => p = (!(decide (a ≤ x) && decide (x ≤ b)), S) := by
  refine w_tnot (w_tst (w_chain (R.okTo.mono ha fun p e => ?_)))
  subst e
  refine R.okTo.mono hb fun p e => ?_
  subst e
  walk_at "wv"
  by_cases c : a ≤ x
  · rw [if_pos (decide_eq_true c), decide_eq_true c, Bool.true_and]
    refine R.okTo.mono hc fun p e => ?_
    subst e
    walk_at "wv"
  · rw [if_neg (by simpa using c), decide_eq_false c]
    rfl
theorem not_lt3 {S : SS} {fa fb fc : VE} {a x b : Int} (ha : (fa S).okTo fun p => p = (.int a, S)) (hb : (fb S).okTo fun p => p = (.int x, S)) (hc : (fc S).okTo fun p => p = (.int b, S)) :
    (tNotF (vTst (vChain (gIB fun i j => decide (i < j)) (gIB fun i j => decide (i < j)) fa fb fc)) S).okTo fun p => p = (!(decide (a < x) && decide (x < b)), S) := by
  refine w_tnot (w_tst (w_chain (R.okTo.mono ha fun p e => ?_)))
  subst e
  refine R.okTo.mono hb fun p e => ?_
  subst e
  walk_at "wv"
  by_cases c : a < x
  · rw [if_pos (decide_eq_true c), decide_eq_true c, Bool.true_and]
    refine R.okTo.mono hc fun p e => ?_
    subst e
    walk_at "wv"
  · rw [if_neg (by simpa using c), decide_eq_false c]
    rfl
theorem ends_ok5 {m : Nat} {es : List (Int × Int)} {k : PyData → Prop} (q : k (.bool (endsB (m : Nat) es))) : (den_are_ends [.int (m : Nat), .tuple (es.map prD)]).okTo k := by
  unfold den_are_ends body_are_ends
  refine w_denP ?_
  walk_at "st"
  have c1 : ∀ S : SS, S = [some (.dat (.int (m : Nat))), some (.dat (.tuple (es.map prD))), none, none, none] → (vCall gLen (vCons (vVar 1) vNil) S).okTo fun p => p = (.int (es.length : Nat), S) := by
    rintro S rfl
    walk_at "wv"
    rw [List.length_map]
  refine w_seq (w_ifS (R.okTo.mono (not_le3 (a := 1) (b := 6) (by walk_at "wv") (c1 _ rfl) (by walk_at "wv")) fun p e => ?_))
  subst e
  dsimp only
  by_cases c : (decide (1 ≤ es.length) && decide (es.length ≤ 6)) = true
  · have c' : (decide ((1 : Int) ≤ (es.length : Nat)) && decide (((es.length : Nat) : Int) ≤ 6)) = true := by
      rw [Bool.and_eq_true, decide_eq_true_iff, decide_eq_true_iff] at c ⊢
      omega
    have eb : endsB (m : Nat) es = endsG (m : Nat) (-1) es := by
      unfold endsB
      rw [c, Bool.true_and]
    rw [eb] at q
    rw [c', if_neg (by decide)]
    walk_at "wv"
    try
      refine okTo_eq (a := PyData.int (-1)) rfl ?_
      walk_at "wv"
    refine ⟨_, rfl, ?_⟩
    refine loop_ok (fun t S => ∃ b : Int, endsG (m : Nat) (-1) es = endsG (m : Nat) b (es.drop t) ∧ S = [some (.dat (.int (m : Nat))), some (.dat (.tuple (es.map prD))), some (.dat (.int b)), none, none]) ?_ ?_ ⟨-1, rfl, rfl⟩
    · rintro t d S hd ⟨b, hb, rfl⟩
      rw [List.getElem?_map] at hd
      obtain ⟨e, he, rfl⟩ := Option.map_eq_some_iff.mp hd
      have hdr : es.drop t = e :: es.drop (t + 1) := by
        obtain ⟨hlt, z⟩ := List.getElem?_eq_some_iff.mp he
        rw [List.drop_eq_getElem_cons hlt, z]
      rw [hdr] at hb
      unfold prD
      refine w_aTup rfl (w_aCons (w_aName (w_aCons (w_aName (w_aNil ?_)))))
      refine w_then ?_
      refine w_seq (w_ifS (R.okTo.mono (not_lt3 (a := b) (x := e.1) (b := (m : Nat)) ?_ ?_ ?_) fun p z => ?_))
      · walk_at "wv"
      · walk_at "wv"
      · walk_at "wv"
      subst z
      dsimp only
      have hb' : endsG (m : Nat) (-1) es = (decide (b < e.1) && decide (e.1 < (m : Nat)) && decide (1 ≤ e.2) && decide (e.2 ≤ 1000) && endsG (m : Nat) e.1 (es.drop (t + 1))) := hb
      cases c1 : (decide (b < e.1) && decide (e.1 < (m : Nat))) with
      | false =>
        rw [if_pos (by decide)]
        rw [c1, Bool.false_and, Bool.false_and, Bool.false_and] at hb'
        walk_at "wv"
        rw [hb'] at q
        exact q
      | true =>
        rw [if_neg (by decide)]
        rw [c1, Bool.true_and] at hb'
        refine w_next ?_
        dsimp only
        refine w_seq (w_ifS (R.okTo.mono (not_le3 (a := 1) (x := e.2) (b := 1000) ?_ ?_ ?_) fun p z => ?_))
        · walk_at "wv"
        · walk_at "wv"
        · walk_at "wv"
        subst z
        dsimp only
        cases c2 : (decide (1 ≤ e.2) && decide (e.2 ≤ 1000)) with
        | false =>
          rw [if_pos (by decide)]
          rw [c2, Bool.false_and] at hb'
          walk_at "wv"
          rw [hb'] at q
          exact q
        | true =>
          rw [if_neg (by decide)]
          rw [c2, Bool.true_and] at hb'
          walk_at "wv"
          exact ⟨e.1, hb', rfl⟩
    · rintro S ⟨b, hb, rfl⟩
      rw [List.length_map, List.drop_length] at hb
      walk_at "wv"
      rw [hb] at q
      exact q
  · have c' : (decide ((1 : Int) ≤ (es.length : Nat)) && decide (((es.length : Nat) : Int) ≤ 6)) = false := by
      rw [Bool.and_eq_true, decide_eq_true_iff, decide_eq_true_iff] at c
      refine Bool.eq_false_iff.mpr fun z => c ?_
      rw [Bool.and_eq_true, decide_eq_true_iff, decide_eq_true_iff] at z
      omega
    have eb : endsB (m : Nat) es = false := by
      unfold endsB
      rw [Bool.eq_false_iff.mpr c, Bool.false_and]
    rw [c', if_pos (by decide)]
    walk_at "wv"
    rw [eb] at q
    exact q
theorem enumD_map {α : Type} (f : α → PyData) : ∀ (l : List α) (k : Nat) (t : Nat) (d : PyData), ((l.map f).zipIdx k |>.map fun p => PyData.tuple [.int (p.2 : Nat), p.1])[t]? = some d → ∃ x, l[t]? = some x ∧ d = .tuple [.int ((k + t : Nat) : Int), f x] := by
  intro l
  induction l with
  | nil => intro k t d h; cases h
  | cons x r ih =>
    intro k t d h
    rw [List.map_cons, List.zipIdx_cons, List.map_cons] at h
    cases t with
    | zero =>
      have e := (Option.some.inj h).symm
      exact ⟨x, rfl, e⟩
    | succ t =>
      obtain ⟨y, h1, h2⟩ := ih (k + 1) t d h
      exact ⟨y, h1, by rw [h2]; congr 4; omega⟩
theorem fst_ok {m st : Int} {mN : Nat} (hm : m = (mN : Nat)) {s : List Cho} {k : PyData → Prop} (q : k (fltS m st s)) : (den_fault_in_state [.int m, .int st, dS s]).okTo k := by
  subst hm
  unfold den_fault_in_state body_fault_in_state
  refine w_denP ?_
  walk_at "st"
  have c1 : ∀ S : SS, S = [some (.dat (.int (mN : Nat))), some (.dat (.int st)), some (.dat (dS s)), none, none, none] → (vCall gLen (vCons (vVar 2) vNil) S).okTo fun p => p = (.int (s.length : Nat), S) := by
    rintro S rfl
    unfold dS
    walk_at "wv"
    rw [List.length_map]
  refine w_seq (w_ifS (R.okTo.mono (not_le3 (a := 1) (b := 6) (by walk_at "wv") (c1 _ rfl) (by walk_at "wv")) fun p e => ?_))
  subst e
  dsimp only
  have ce : (decide ((1 : Int) ≤ (s.length : Nat)) && decide (((s.length : Nat) : Int) ≤ 6)) = (decide (1 ≤ s.length) && decide (s.length ≤ 6)) := by
    rw [Bool.eq_iff_iff, Bool.and_eq_true, Bool.and_eq_true, decide_eq_true_iff, decide_eq_true_iff, decide_eq_true_iff, decide_eq_true_iff]
    omega
  rw [ce]
  unfold fltS at q
  cases c : (decide (1 ≤ s.length) && decide (s.length ≤ 6)) with
  | false =>
    rw [if_pos (by decide)]
    rw [c, if_neg Bool.false_ne_true] at q
    walk_at "wv"
    exact ⟨by simp, q⟩
  | true =>
    rw [if_neg (by decide)]
    rw [c, if_pos rfl] at q
    walk_at "wv"
    refine ⟨dS s, s.map dC, rfl, rfl, ?_⟩
    refine loop_ok (fun t S => fltC (mN : Nat) st 0 s = fltC (mN : Nat) st t (s.drop t) ∧ S = [some (.dat (.int (mN : Nat))), some (.dat (.int st)), some (.dat (dS s)), none, none, none]) ?_ ?_ ⟨rfl, rfl⟩
    · rintro t d S hd ⟨hb, rfl⟩
      obtain ⟨x, hx, rfl⟩ := enumD_map dC s 0 t d hd
      rw [Nat.zero_add]
      have hdr : s.drop t = x :: s.drop (t + 1) := by
        obtain ⟨hlt, z⟩ := List.getElem?_eq_some_iff.mp hx
        rw [List.drop_eq_getElem_cons hlt, z]
      rw [hdr] at hb
      have hb' : fltC (mN : Nat) st 0 s = if (decide (0 ≤ x.1) && decide (x.1 ≤ 1000)) = true then if endsB (mN : Nat) x.2 = true then fltC (mN : Nat) st (t + 1) (s.drop (t + 1)) else .tuple [.str (Str.ofString "ends"), .int st, .int (t : Nat)] else .tuple [.str (Str.ofString "cost"), .int st, .int (t : Nat)] := hb
      unfold dC
      refine w_aTup rfl (w_aCons (w_aName (w_aCons (w_aTup rfl (w_aCons (w_aName (w_aCons (w_aName (w_aNil (w_aNil ?_)))))))))) 
      refine w_then ?_
      refine w_seq (w_ifS (R.okTo.mono (not_le3 (a := 0) (x := x.1) (b := 1000) ?_ ?_ ?_) fun p z => ?_))
      · walk_at "wv"
      · walk_at "wv"
      · walk_at "wv"
      subst z
      dsimp only
      cases c2 : (decide (0 ≤ x.1) && decide (x.1 ≤ 1000)) with
      | false =>
        rw [if_pos (by decide)]
        rw [c2, if_neg Bool.false_ne_true] at hb'
        walk_at "wv"
        rw [hb'] at q
        exact ⟨by simp, q⟩
      | true =>
        rw [if_neg (by decide)]
        rw [c2, if_pos rfl] at hb'
        walk_at "wv"
        refine ⟨rfl, ends_ok5 ?_⟩
        walk_at "wv"
        cases c3 : endsB (mN : Nat) x.2 with
        | false =>
          rw [if_pos (by decide)]
          rw [c3, if_neg Bool.false_ne_true] at hb'
          walk_at "wv"
          rw [hb'] at q
          exact ⟨by simp, q⟩
        | true =>
          rw [if_neg (by decide)]
          rw [c3, if_pos rfl] at hb'
          walk_at "wv"
          exact ⟨hb', by first | trivial | rfl⟩
    · rintro S ⟨hb, rfl⟩
      rw [enumD_len, List.length_map, List.drop_length] at hb
      walk_at "wv"
      rw [hb] at q
      exact q
theorem fltS_form (m st : Int) (s : List Cho) : fltS m st s = .none ∨ isNone (fltS m st s) = false := by
  have go : ∀ (l : List Cho) (k : Nat), fltC m st k l = .none ∨ isNone (fltC m st k l) = false := by
    intro l
    induction l with
    | nil => intro k; exact .inl rfl
    | cons c r ih =>
      intro k
      unfold fltC
      split
      · split
        · exact ih (k + 1)
        · exact .inr rfl
      · exact .inr rfl
  unfold fltS
  split
  · exact go s 0
  · exact .inr rfl
theorem fltY_cons {m : Int} {k : Nat} {s : List Cho} {r : List (List Cho)} : fltY m k (s :: r) = if isNone (fltS m (k : Nat) s) = true then fltY m (k + 1) r else fltS m (k : Nat) s := by
  show (match fltS m (k : Nat) s with
    | .none => fltY m (k + 1) r
    | d => d) = _
  rcases fltS_form m (k : Nat) s with h | h
  · rw [h]
    rfl
  · rw [h, if_neg Bool.false_ne_true]
    cases e : fltS m (k : Nat) s <;> first | rfl | (rw [e] at h; cases h)
theorem fault_ok {y : List (List Cho)} {k : PyData → Prop} (q : k (flt y)) : (den_fault [dY y]).okTo k := by
  unfold den_fault body_fault
  refine w_denP ?_
  walk_at "st"
  have c1 : ∀ S : SS, S = [some (.dat (dY y)), none, none, none] → (vCall gLen (vCons (vVar 0) vNil) S).okTo fun p => p = (.int (y.length : Nat), S) := by
    rintro S rfl
    unfold dY
    walk_at "wv"
    rw [List.length_map]
  refine w_seq (w_ifS (R.okTo.mono (not_le3 (a := 1) (b := 20) (by walk_at "wv") (c1 _ rfl) (by walk_at "wv")) fun p e => ?_))
  subst e
  dsimp only
  have ce : (decide ((1 : Int) ≤ (y.length : Nat)) && decide (((y.length : Nat) : Int) ≤ 20)) = (decide (1 ≤ y.length) && decide (y.length ≤ 20)) := by
    rw [Bool.eq_iff_iff, Bool.and_eq_true, Bool.and_eq_true, decide_eq_true_iff, decide_eq_true_iff, decide_eq_true_iff, decide_eq_true_iff]
    omega
  rw [ce]
  unfold flt at q
  cases c : (decide (1 ≤ y.length) && decide (y.length ≤ 20)) with
  | false =>
    rw [if_pos (by decide)]
    rw [c, if_neg Bool.false_ne_true] at q
    walk_at "wv"
    exact ⟨by simp, q⟩
  | true =>
    rw [if_neg (by decide)]
    rw [c, if_pos rfl] at q
    walk_at "wv"
    refine ⟨dY y, y.map dS, rfl, rfl, ?_⟩
    refine loop_ok (fun t S => fltY (y.length : Nat) 0 y = fltY (y.length : Nat) t (y.drop t) ∧ S = [some (.dat (dY y)), none, none, none]) ?_ ?_ ⟨rfl, rfl⟩
    · rintro t d S hd ⟨hb, rfl⟩
      obtain ⟨x, hx, rfl⟩ := enumD_map dS y 0 t d hd
      rw [Nat.zero_add]
      have hdr : y.drop t = x :: y.drop (t + 1) := by
        obtain ⟨hlt, z⟩ := List.getElem?_eq_some_iff.mp hx
        rw [List.drop_eq_getElem_cons hlt, z]
      rw [hdr, fltY_cons] at hb
      have gl : gLen [dY y] = .ok (.int (y.length : Nat)) := by
        unfold dY gLen
        simp
      walk_at "wv"
      refine okTo_eq gl ?_
      walk_at "wv"
      refine ⟨rfl, fst_ok rfl ?_⟩
      walk_at "wv"
      rcases fltS_form (y.length : Nat) (t : Nat) x with h | h
      · rw [h] at hb ⊢
        rw [show isNone PyData.none = true from rfl, if_pos rfl] at hb
        rw [if_neg (by decide)]
        walk_at "wv"
        exact ⟨hb, by first | trivial | rfl⟩
      · rw [h, if_neg Bool.false_ne_true] at hb
        rw [h, if_pos (by decide)]
        walk_at "wv"
        rw [hb] at q
        exact q
    · rintro S ⟨hb, rfl⟩
      rw [enumD_len, List.length_map, List.drop_length] at hb
      walk_at "wv"
      rw [hb] at q
      exact q

end
end Bo
/-! ### d not in xs, xs a slot's own list of data of any depth -/
namespace Bo
open PySem L2
section
variable {K : PySem.W.Frag} {n : Nat} {C : Ct K n}
end
end Bo

/-! ### [e for x in xs for y in ys] -/
namespace Bo
open PySem PyProof.Rows L2
section
variable {K : PySem.W.Frag} {n : Nat} {C : Ct K n}
end
end Bo

/-! ### X(), X an own exception class without own __init__ -/
namespace Bo
open PySem PySem.W PyProof.Rows L2
theorem pmk_own0A {X : Cx} {C : Addr} {bmB : List Value} {B newId initId : String} {x : Str} {p pos : Pos} (F : ExcBaseFacts B newId initId bmB) (q : PySem.W.excIn X.K C bmB newId = true) (gC : X.mg x = some (.ref C))
    (kC : PySem.W.keepIn X.K (.ref C) = true) (r : Raises X (.ref C)) (hg : L2.Gl X x) (ha : PA X [] tNil) (hdb : (x == ("__debug__" : Str)) = false := by decide) :
    PMk X (.Call (.Name x p) [] [] pos) (fun σ H Q => tNil σ H fun vs H1 => vs.length ≤ sizeLine ∧ Q (.ref C) none H1) := by
  intro pins s σ H Q I h
  obtain ⟨hz, q1⟩ : ([] : List V).length ≤ sizeLine ∧ Q (.ref C) none H := h
  refine wpAny_Call_Name_kw (ld_glob I hg gC ?_ hdb)
  refine PySem.W.callWith_K0 I.kIn kC ?_
  show wpAny _ _ (call (.ref C) []) _ _ _
  obtain ⟨bm, N, nm, qn, bs, hdct, sn, sub, ab, col, dd, k0, k1, k2, k3, k5, mN, hC, hN, hni, T⟩ := exc_obj I.kIn q
  refine wpAny_call_exc_subT F T hC hN hni (fun h' e hm => ?_) (by exact hz)
  exact mk_of I hm r q1 (I.hok.gone hm.new)
end Bo

/-! ### means, better ones: the worth of the program's defs, as gen2 reads them -/
namespace Bo
open PySem L2
noncomputable section
end
end Bo

namespace Bo
open PySem L2
noncomputable section
def body_check : VS :=
    (vSeq (vAsg (vCallP 1 den_fault (vCons (vVar 0) vNil)) (aName 1))
    (vIfS (vTst (vOp (fun d e => R.when (isNone e = true) (.ok (.bool (!isNone d)))) (vVar 1) (vC .none))) (vRaise "InvalidSystem" (vCons (vVar 1) vNil)) vNext))
def den_check := denP 2 body_check
def body_Bench_init : VS :=
    (vSeq (vDrop (vCallXO "Bench" 0 1 den_check (vCons (vVar 1) vNil)))
    (vSeq (vSetF "Bench" 0 "_now" (vVar 1))
    (vSeq (vSetFO "Bench" 0 "_past" (vLstF vNil))
    (vSeq (vSetFO "Bench" 0 "_ahead" (vLstF vNil))
    (vSeq (vSetFD "Bench" 0 "_wishes")
    (vSetF "Bench" 0 "_many_solved" (vC (.int 0))))))))
def den_Bench_init := denO "Bench" 2 body_Bench_init
def body_Bench__turn_to : VS :=
    (vSeq (vSetF "Bench" 0 "_now" (vVar 2))
    (vThen [3] (vForNo "Bench" 0 "_wishes")))
def den_Bench__turn_to := denO "Bench" 4 body_Bench__turn_to
def body_Bench_undo : VS :=
    (vSeq (vIfS (tNotF (vTruF "Bench" 0 "_past")) (vRet (vC (.bool false))) vNext)
    (vSeq (vAsg (vPopF "Bench" 0 "_past") (aTup 2 (aCons (aName 1) (aCons (aName 2) aNil))))
    (vSeq (vDrop (vAppF "Bench" 0 "_ahead" (qTup (qCons (qVar 1) (qCons (qFld "Bench" 0 "_now") qNil)))))
    (vSeq (vDrop (vMeth "Bench" "_turn_to" 2 den_Bench__turn_to 0 (vCons (vVar 1) (vCons (vVar 2) vNil))))
    (vRet (vC (.bool true)))))))
def den_Bench_undo := denO "Bench" 3 body_Bench_undo
def body_Bench_redo : VS :=
    (vSeq (vIfS (tNotF (vTruF "Bench" 0 "_ahead")) (vRet (vC (.bool false))) vNext)
    (vSeq (vAsg (vPopF "Bench" 0 "_ahead") (aTup 2 (aCons (aName 1) (aCons (aName 2) aNil))))
    (vSeq (vDrop (vAppF "Bench" 0 "_past" (qTup (qCons (qVar 1) (qCons (qFld "Bench" 0 "_now") qNil)))))
    (vSeq (vDrop (vMeth "Bench" "_turn_to" 2 den_Bench__turn_to 0 (vCons (vVar 1) (vCons (vVar 2) vNil))))
    (vRet (vC (.bool true)))))))
def den_Bench_redo := denO "Bench" 3 body_Bench_redo
def body_Bench_system : VS :=
    (vRet (vFld "Bench" 0 "_now"))
def den_Bench_system := denO "Bench" 1 body_Bench_system
def body_Bench_changes : VS :=
    (vRet (vLenF "Bench" 0 "_past"))
def den_Bench_changes := denO "Bench" 1 body_Bench_changes
def body_Bench_undone : VS :=
    (vRet (vLenF "Bench" 0 "_ahead"))
def den_Bench_undone := denO "Bench" 1 body_Bench_undone
def body_Bench__choices : VS :=
    (vSeq (vIfS (tNotF (vTst (vChain (gIB fun i j => decide (i ≤ j)) (gIB fun i j => decide (i < j)) (vC (.int 0)) (vVar 1) (vCall gLen (vCons (vFld "Bench" 0 "_now") vNil))))) (vRaiseO "Bench" 0 "NoSuchState" (vCons (vVar 1) vNil)) vNext)
    (vRet (vOp gIxT (vFld "Bench" 0 "_now") (vVar 1))))
def den_Bench__choices := denO "Bench" 2 body_Bench__choices
def body_Bench__others : VS :=
    (vSeq (vAsg (vMethX "Bench" "_choices" 1 den_Bench__choices 0 (vCons (vVar 1) vNil)) (aName 3))
    (vSeq (vIfS (tNotF (vTst (vChain (gIB fun i j => decide (i ≤ j)) (gIB fun i j => decide (i < j)) (vC (.int 0)) (vVar 2) (vCall gLen (vCons (vVar 3) vNil))))) (vRaiseO "Bench" 0 "NoSuchChoice" (vCons (vVar 2) vNil)) vNext)
    (vRet (vTup (vCons (vSl gSlT (vVar 3) vNoPart (vPart (vVar 2))) (vCons (vSl gSlT (vVar 3) (vPart (vOp (gI fun i j => i + j) (vVar 2) (vC (.int 1)))) vNoPart) vNil))))))
def den_Bench__others := denO "Bench" 4 body_Bench__others
def body_Bench__change : VS :=
    (vSeq (vAsg (vTup (vStar (vSl gSlT (vFld "Bench" 0 "_now") vNoPart (vPart (vVar 1))) (vCons (vVar 2) (vStar (vSl gSlT (vFld "Bench" 0 "_now") (vPart (vOp (gI fun i j => i + j) (vVar 1) (vC (.int 1)))) vNoPart) vNil)))) (aName 3))
    (vSeq (vDrop (vCallXO "Bench" 0 1 den_check (vCons (vVar 3) vNil)))
    (vSeq (vIfS (vTst (vOp (gIB fun i j => decide (j ≤ i)) (vLenF "Bench" 0 "_past") (vC (.int 100)))) (vRaiseO0 "Bench" 0 "TooManyChanges" vNil) vNext)
    (vSeq (vDrop (vAppF "Bench" 0 "_past" (qTup (qCons (qVar 1) (qCons (qFld "Bench" 0 "_now") qNil)))))
    (vSeq (vSetFO "Bench" 0 "_ahead" (vLstF vNil))
    (vDrop (vMeth "Bench" "_turn_to" 2 den_Bench__turn_to 0 (vCons (vVar 1) (vCons (vVar 3) vNil)))))))))
def den_Bench__change := denO "Bench" 4 body_Bench__change
def body_Bench_remove_choice : VS :=
    (vSeq (vAsg (vMethX "Bench" "_others" 2 den_Bench__others 0 (vCons (vVar 1) (vCons (vVar 2) vNil))) (aTup 2 (aCons (aName 3) (aCons (aName 4) aNil))))
    (vDrop (vMethX "Bench" "_change" 2 den_Bench__change 0 (vCons (vVar 1) (vCons (vTup (vStar (vVar 3) (vStar (vVar 4) vNil))) vNil)))))
def den_Bench_remove_choice := denO "Bench" 5 body_Bench_remove_choice
def body_Bench_add_choice : VS :=
    (vSeq (vAsg (vMethX "Bench" "_choices" 1 den_Bench__choices 0 (vCons (vVar 1) vNil)) (aName 4))
    (vDrop (vMethX "Bench" "_change" 2 den_Bench__change 0 (vCons (vVar 1) (vCons (vTup (vStar (vVar 4) (vCons (vTup (vCons (vVar 2) (vCons (vVar 3) vNil))) vNil))) vNil)))))
def den_Bench_add_choice := denO "Bench" 5 body_Bench_add_choice
def body_Bench_set_choice : VS :=
    (vSeq (vAsg (vMethX "Bench" "_others" 2 den_Bench__others 0 (vCons (vVar 1) (vCons (vVar 2) vNil))) (aTup 2 (aCons (aName 5) (aCons (aName 6) aNil))))
    (vDrop (vMethX "Bench" "_change" 2 den_Bench__change 0 (vCons (vVar 1) (vCons (vTup (vStar (vVar 5) (vCons (vTup (vCons (vVar 3) (vCons (vVar 4) vNil))) (vStar (vVar 6) vNil)))) vNil)))))
def den_Bench_set_choice := denO "Bench" 7 body_Bench_set_choice
def body_l_edit : VS :=
    (vSeq (vAsg (vOp (gI fun i j => i - j) (vCallB 1 den_l_take 0 (vCons (vOp (gI fun i j => i + j) (vCall gLen (vCons (vVar 1) vNil)) (vC (.int 2))) vNil)) (vCall gInt (vCons (vOp gEq (vCallB 1 den_l_take 0 (vCons (vC (.int 9)) vNil)) (vC (.int 0))) vNil))) (aName 2))
    (vSeq (vAsg (vC (.int 2)) (aName 3))
    (vSeq (vIfS (vTst (vChain (gIB fun i j => decide (i ≤ j)) (gIB fun i j => decide (i < j)) (vC (.int 0)) (vVar 2) (vCall gLen (vCons (vVar 1) vNil)))) (vAsg (vCall gLen (vCons (vOp gIxT (vVar 1) (vVar 2)) vNil)) (aName 3)) vNext)
    (vSeq (vAsg (vOp (gI fun i j => i - j) (vCallB 1 den_l_take 0 (vCons (vOp (gI fun i j => i + j) (vVar 3) (vC (.int 1))) vNil)) (vCall gInt (vCons (vOp gEq (vCallB 1 den_l_take 0 (vCons (vC (.int 9)) vNil)) (vC (.int 0))) vNil))) (aName 4))
    (vSeq (vAsg (vOp gIxL (vLst (vCons (vC (.int 0)) (vCons (vC (.int 1)) (vCons (vC (.int 3)) (vCons (vC (.int 1000)) (vCons (vC (.int 1001)) (vCons (vOp (gI fun i j => i - j) (vC (.int 0)) (vC (.int 1))) vNil))))))) (vCallB 1 den_l_take 0 (vCons (vOp (gI fun i j => i + j) (vC (.int 4)) (vOp (gIC cMulS fun i j => i * j) (vC (.int 2)) (vCall gInt (vCons (vOp gEq (vCallB 1 den_l_take 0 (vCons (vC (.int 6)) vNil)) (vC (.int 0))) vNil)))) vNil))) (aName 5))
    (vSeq (vAsg (vCallB 1 den_l_ends 0 (vCons (vCall gLen (vCons (vVar 1) vNil)) vNil)) (aName 6))
    (vSeq (vIfS (vTst (vOp gEq (vCallB 1 den_l_take 0 (vCons (vC (.int 8)) vNil)) (vC (.int 0)))) (vAsg (vOp gIxL (vLst (vCons (vTup vNil) (vCons (vOp gCatT (vVar 6) (vTup (vCons (vTup (vCons (vCall gLen (vCons (vVar 1) vNil)) (vCons (vC (.int 1)) vNil))) vNil))) (vCons (vOp gCatT (vSl gSlT (vVar 6) vNoPart (vPart (vC (.int 1)))) (vVar 6)) (vCons (vTup (vCons (vTup (vCons (vC (.int 0)) (vCons (vC (.int 0)) vNil))) vNil)) vNil))))) (vCallB 1 den_l_take 0 (vCons (vC (.int 4)) vNil))) (aName 6)) vNext)
    (vRet (vTup (vCons (vOp gIxL (vLst (vCons (vC (.str "add")) (vCons (vC (.str "set")) (vCons (vC (.str "remove")) vNil)))) (vCallB 1 den_l_take 0 (vCons (vC (.int 3)) vNil))) (vCons (vVar 2) (vCons (vVar 4) (vCons (vVar 5) (vCons (vVar 6) vNil))))))))))))))
def den_l_edit := denB 7 body_l_edit
def body_l_after : VS :=
    (vSeq (vAsg (vVar 1) (aTup 5 (aCons (aName 3) (aCons (aName 4) (aCons (aName 5) (aCons (aName 6) (aCons (aName 7) aNil)))))))
    (vSeq (vAsg (vOp gIxT (vVar 0) (vVar 4)) (aName 2))
    (vSeq (vIfS (vTst (vOp gEq (vVar 3) (vC (.str "add")))) (vAsg (vOp gCatT (vVar 2) (vTup (vCons (vTup (vCons (vVar 6) (vCons (vVar 7) vNil))) vNil))) (aName 2)) (vIfS (vTst (vOp gEq (vVar 3) (vC (.str "set")))) (vAsg (vOp gCatT (vOp gCatT (vSl gSlT (vVar 2) vNoPart (vPart (vVar 5))) (vTup (vCons (vTup (vCons (vVar 6) (vCons (vVar 7) vNil))) vNil))) (vSl gSlT (vVar 2) (vPart (vOp (gI fun i j => i + j) (vVar 5) (vC (.int 1)))) vNoPart)) (aName 2)) (vAsg (vOp gCatT (vSl gSlT (vVar 2) vNoPart (vPart (vVar 5))) (vSl gSlT (vVar 2) (vPart (vOp (gI fun i j => i + j) (vVar 5) (vC (.int 1)))) vNoPart)) (aName 2))))
    (vRet (vOp gCatT (vOp gCatT (vSl gSlT (vVar 0) vNoPart (vPart (vVar 4))) (vTup (vCons (vVar 2) vNil))) (vSl gSlT (vVar 0) (vPart (vOp (gI fun i j => i + j) (vVar 4) (vC (.int 1)))) vNoPart))))))
def den_l_after := denP 8 body_l_after
def body_l_refusal : VS :=
    (vSeq (vAsg (vVar 1) (aTup 5 (aCons (aName 3) (aCons (aName 4) (aCons (aName 5) (aCons (aName 6) (aCons (aName 7) aNil)))))))
    (vSeq (vIfS (tOrF (vTst (vOp (gIB fun i j => decide (i < j)) (vVar 4) (vC (.int 0)))) (vTst (vOp (gIB fun i j => decide (j ≤ i)) (vVar 4) (vCall gLen (vCons (vVar 0) vNil))))) (vRet (vTup (vCons (vC (.str "state")) (vCons (vVar 4) vNil)))) vNext)
    (vSeq (vIfS (tAndF (vTst (vOp gNe (vVar 3) (vC (.str "add")))) (tOrF (vTst (vOp (gIB fun i j => decide (i < j)) (vVar 5) (vC (.int 0)))) (vTst (vOp (gIB fun i j => decide (j ≤ i)) (vVar 5) (vCall gLen (vCons (vOp gIxT (vVar 0) (vVar 4)) vNil)))))) (vRet (vTup (vCons (vC (.str "choice")) (vCons (vVar 5) vNil)))) vNext)
    (vSeq (vAsg (vCallP 1 den_fault (vCons (vCallP 2 den_l_after (vCons (vVar 0) (vCons (vVar 1) vNil))) vNil)) (aName 2))
    (vSeq (vIfS (vTst (vOp (fun d e => R.when (isNone e = true) (.ok (.bool (!isNone d)))) (vVar 2) (vC .none))) (vRet (vTup (vCons (vC (.str "fault")) (vCons (vVar 2) vNil)))) vNext)
    (vRet (vC .none)))))))
def den_l_refusal := denP 8 body_l_refusal
def body_l_done : VS :=
    (vSeq (vAsg (vVar 1) (aTup 5 (aCons (aName 3) (aCons (aName 4) (aCons (aName 5) (aCons (aName 6) (aCons (aName 7) aNil)))))))
    (vThen [2] (vTryR "Bench" (vSeq (vIfS (vTst (vOp gEq (vVar 3) (vC (.str "add")))) (vRet (vMethX "Bench" "add_choice" 3 den_Bench_add_choice 0 (vCons (vVar 4) (vCons (vVar 6) (vCons (vVar 7) vNil))))) vNext)
    (vSeq (vIfS (vTst (vOp gEq (vVar 3) (vC (.str "set")))) (vRet (vMethX "Bench" "set_choice" 4 den_Bench_set_choice 0 (vCons (vVar 4) (vCons (vVar 5) (vCons (vVar 6) (vCons (vVar 7) vNil)))))) vNext)
    (vRet (vMethX "Bench" "remove_choice" 2 den_Bench_remove_choice 0 (vCons (vVar 4) (vCons (vVar 5) vNil)))))) kindD)))
def den_l_done := denO "Bench" 8 body_l_done
end
end Bo

namespace Bo
open PySem L2
noncomputable section
def den_l_refused : List PyData → R PyData := fun ds => match ds with
  | [x] => match den_Bench_init [] [x] with
    | .err e => if e.cls = "InvalidSystem" then match e.arg with
      | some f => (den_fault [x]).bind fun g => gEqD f g
      | none => .bad
      else .bad
    | .ok z => R.when (isNonD z.1 = true) (.ok (.bool false))
    | .bad => .bad
  | _ => .bad
def body_law : VS :=
    (vSeq (vOwn 1 (vLstF (vCons (vCallS den_l_tape 0) (vCons (vC (.int 0)) vNil))))
    (vSeq (vAsg (vCallB 1 den_l_system 1 (vCons (vC (.int 4)) vNil)) (aName 2))
    (vSeq (vMake "Bench" 1 den_Bench_init 3 (vCons (vVar 2) vNil))
    (vSeq (vOwn 4 (vLstF vNil))
    (vSeq (vOwn 5 (vLstF vNil))
    (vSeq (vThen [5, 6, 8, 9, 10] (vFor (vRange1 (vCons (vOp (gI fun i j => i + j) (vC (.int 4)) (vCallB 1 den_l_take 1 (vCons (vC (.int 12)) vNil))) vNil)) (aName 6) (vThen [6, 8] (vSeq (vAsg (vCallB 1 den_l_take 1 (vCons (vC (.int 6)) vNil)) (aName 8))
    (vSeq (vThen [9, 10] (vIfS (vTst (vOp gEq (vVar 8) (vC (.int 0)))) (vSeq (vIfS (tNotF (vTst (vCallP 2 (denEq 7) (vCons (vMeth "Bench" "undo" 0 den_Bench_undo 3 vNil) (vCons (vOp (gIB fun i j => decide (j < i)) (vLenO 4) (vC (.int 0))) vNil))))) (vRet (vC (.bool false))) vNext)
    (vIfS (vTst (vOp (gIB fun i j => decide (j < i)) (vLenO 4) (vC (.int 0)))) (vSeq (vDrop (vApp 5 (vVar 2)))
    (vAsg (vPop 4) (aName 2))) vNext)) (vThen [9, 10] (vIfS (vTst (vOp gEq (vVar 8) (vC (.int 1)))) (vSeq (vIfS (tNotF (vTst (vCallP 2 (denEq 7) (vCons (vMeth "Bench" "redo" 0 den_Bench_redo 3 vNil) (vCons (vOp (gIB fun i j => decide (j < i)) (vLenO 5) (vC (.int 0))) vNil))))) (vRet (vC (.bool false))) vNext)
    (vIfS (vTst (vOp (gIB fun i j => decide (j < i)) (vLenO 5) (vC (.int 0)))) (vSeq (vDrop (vApp 4 (vVar 2)))
    (vAsg (vPop 5) (aName 2))) vNext)) (vSeq (vAsg (vCallB 1 den_l_edit 1 (vCons (vVar 2) vNil)) (aName 9))
    (vSeq (vAsg (vCallP 2 den_l_refusal (vCons (vVar 2) (vCons (vVar 9) vNil))) (aName 10))
    (vSeq (vIfS (tNotF (vTst (vCallP 2 (denEq 7) (vCons (vCallO "Bench" 1 den_l_done 3 (vCons (vVar 9) vNil)) (vCons (vVar 10) vNil))))) (vRet (vC (.bool false))) vNext)
    (vIfS (vTst (vOp (fun d e => R.when (isNone e = true) (.ok (.bool (isNone d)))) (vVar 10) (vC .none))) (vSeq (vDrop (vApp 4 (vVar 2)))
    (vSeq (vOwn 5 (vLstF vNil))
    (vAsg (vCallP 2 den_l_after (vCons (vVar 2) (vCons (vVar 9) vNil))) (aName 2)))) vNext))))))))
    (vIfS (tNotF (vTst (vCallP 2 (denEq 7) (vCons (vLst (vCons (vMeth "Bench" "system" 0 den_Bench_system 3 vNil) (vCons (vMeth "Bench" "changes" 0 den_Bench_changes 3 vNil) (vCons (vMeth "Bench" "undone" 0 den_Bench_undone 3 vNil) vNil)))) (vCons (vLst (vCons (vVar 2) (vCons (vLenO 4) (vCons (vLenO 5) vNil)))) vNil))))) (vRet (vC (.bool false))) vNext))))))
    (vSeq (vAsg (vCallB 1 den_l_take 1 (vCons (vCall gLen (vCons (vVar 2) vNil)) vNil)) (aName 7))
    (vRet (vAnd (vCallP 1 den_l_refused (vCons (vOp gCatT (vOp gCatT (vSl gSlT (vVar 2) vNoPart (vPart (vVar 7))) (vTup (vCons (vTup vNil) vNil))) (vSl gSlT (vVar 2) (vPart (vOp (gI fun i j => i + j) (vVar 7) (vC (.int 1)))) vNoPart)) vNil)) (vCallP 1 den_l_refused (vCons (vTup vNil) vNil)))))))))))
def den_law := denS 11 body_law
end
end Bo

namespace Bo
open PySem L2
local macro_rules | `(tactic| walk_at "wv1") => `(tactic| (first
  | ((with_reducible refine w_var (d := ?wd) ?wh ?wq); (case wh => exact rfl))
  | with_reducible refine w_cons ?_
  | with_reducible refine w_nil ?_
  | with_reducible refine w_op ?_
  | with_reducible refine w_c ?_
  | with_reducible refine w_aName ?_
  | with_reducible refine w_seq ?_
  | with_reducible refine w_asg ?_
  | with_reducible refine w_toB ?_
  | with_reducible refine w_callP ?_
  | with_reducible refine w_tst ?_
  | with_reducible refine w_gIxT ?_
  | with_reducible refine w_call ?_
  | with_reducible refine w_ret ?_
  | with_reducible refine w_ifS ?_
  | with_reducible refine w_next ?_
  | ((with_reducible refine w_own (ds := ?wd) ?wh ?wq); (case wh => exact rfl))
  | with_reducible refine w_for ?_
  | with_reducible refine w_fr ?_
  | with_reducible refine w_lc ?_
  | with_reducible refine w_tup ?_
  | with_reducible refine w_iter ?_
  | with_reducible refine w_itFT ?_
  | with_reducible refine w_aCons ?_
  | with_reducible refine w_gIxL ?_
  | with_reducible refine w_tnot ?_
  | with_reducible refine w_tor ?_
  | with_reducible refine w_range1 ?_
  | with_reducible refine w_yes ?_
  | with_reducible refine w_itTT ?_
  | with_reducible refine w_iterT ?_
  | with_reducible refine w_lst ?_
  | with_reducible refine w_toI ?_
  | with_reducible refine w_ownS ?_
  | with_reducible refine w_aTup rfl ?_
  | with_reducible refine w_aNil ?_
  | ((with_reducible refine w_frz (ds := ?wd) ?wh ?wq); (case wh => exact rfl))
  | with_reducible refine w_itT ?_
  | with_reducible refine w_tand ?_
  | with_reducible refine w_gEqI ?_
  | with_reducible refine w_gNeI ?_
  | with_reducible refine w_gLenT ?_
  | with_reducible refine w_lstF ?_
  | with_reducible refine w_callB ?_
  | with_reducible refine w_app ?_
  | with_reducible refine w_setI ?_
  | with_reducible refine w_gNeD ?_
  | with_reducible refine w_gEqD ?_
  | with_reducible refine w_drop ?_
  | with_reducible refine w_gIB ?_
  | with_reducible refine w_gBools ?_
  | with_reducible refine w_and ?_
  | with_reducible refine w_isN ?_
  | with_reducible refine w_or ?_
  | with_reducible refine w_ixO ?_
  | with_reducible refine w_gI ?_
  | with_reducible refine w_gLenL ?_
  | with_reducible refine w_gTuple ?_
  | with_reducible refine w_gInts ?_
  | with_reducible refine w_un ?_
  | with_reducible refine w_if ?_
  | with_reducible refine w_chain ?_
  | ((with_reducible refine w_callS (ns := ?wd) ?wh ?wq); (case wh => exact rfl))
  | with_reducible refine w_sl ?_
  | with_reducible refine w_noPart ?_
  | with_reducible refine w_part ?_
  | with_reducible refine w_listRg ?_
  | with_reducible refine w_enumK ?_
  | with_reducible refine w_repF ?_
  | with_reducible refine w_gIC ?_
  | with_reducible refine w_gCat ?_
  | with_reducible refine w_gCatT ?_
  | with_reducible refine w_notN ?_
  | with_reducible refine w_listF ?_
  | with_reducible refine w_neg ?_
  | with_reducible refine w_not ?_
  | with_reducible refine w_tru ?_
  | with_reducible refine w_callL ?_
  | with_reducible refine w_consO ?_
  | with_reducible refine w_lenO ?_
  | with_reducible refine w_tupleO ?_
  | with_reducible refine w_listO ?_
  | with_reducible refine w_inO ?_
  | with_reducible refine w_truO ?_
  | with_reducible refine w_zipK ?_
  | with_reducible refine w_retN ?_
  | ((with_reducible refine w_aug (a := ?wd) ?wh ?wq); (case wh => exact rfl))
  | with_reducible refine w_gInL ?_
  | with_reducible refine w_gIntI ?_
  | with_reducible refine w_gRevL ?_
  | with_reducible refine w_gSlL ?_
  | with_reducible refine w_gSlT ?_
  | with_reducible refine w_itF ?_
  | with_reducible refine w_gList ?_
  | with_reducible refine w_gSortI ?_
  | with_reducible refine w_range2 ?_
  | ((with_reducible refine w_lcO (ds := ?wd) ?wh ?wq ?wr); (case wh => exact rfl); (case wq => exact rfl))
  | with_reducible refine w_aUnl rfl ?_
  | with_reducible refine w_brk ?_
  | with_reducible refine w_cnt ?_
  | with_reducible refine w_gIntB ?_
  | simp only [wipeS, backS, List.set_cons_zero, List.set_cons_succ, List.getElem?_cons_zero, List.getElem?_cons_succ, Option.join_some, Option.join_none, Bool.not_true, Bool.not_false]))
local macro_rules | `(tactic| walk_at "wv") => `(tactic| ((repeat (walk_at "wv1"; try dsimp only)); try simp only [List.set_cons_zero, List.set_cons_succ]))
local macro_rules | `(tactic| walk_at "st") => `(tactic| simp only [startS, List.map_cons, List.map_nil, List.length_cons, List.length_nil, Nat.reduceAdd, Nat.reduceSub, List.replicate_succ, List.replicate_zero, List.cons_append, List.nil_append])

section
/-! ### k10: what its defs answer -/
open PySem L2

end
section
/-! ### k10: a row of fractions made whole -/
open PySem L2
def lcms (qs : List Rat) : Nat := qs.foldl (fun c q => Nat.lcm c q.den) 1
def whole (qs : List Rat) : List Int := qs.map fun q => q.num * Int.fdiv (lcms qs : Int) (q.den : Int)

end
section
/-! ### k10: the values, from the last step back -/
open PySem L2
structure BkOk (b : Int) (acc s : List Int) : Prop where
  ne : s ≠ []
  last : cMul b (s.getLastD 0) = true
  pair : ∀ p ∈ s.tail.zip acc, cMul p.1 p.2 = true
  div : ∀ i, cFdiv i (s.headD 0) = true

end
section
/-! ### k10: solve -/
open PySem L2
theorem w_star {fa : VE} {fr : VA} {S : SS} {kA : List PyData × SS → Prop} (h : (fa S).okTo fun p => ∃ ds, itemsD p.1 = some ds ∧ (fr p.2).okTo fun q => kA (ds ++ q.1, q.2)) : (vStar fa fr S).okTo kA := by
  unfold vStar
  refine okTo_bind.mpr (h.mono fun p ⟨ds, e, q⟩ => ?_)
  rw [e]
  exact okTo_bind.mpr q
/-- what holds of the table, the steps and the number before, at each turn -/
structure Steady (Gd : List (List Int) → List (List Int) → Int → Prop) : Prop where
  size : ∀ {t st b}, Gd t st b → t.length ≤ 1000 ∧ (∀ r ∈ t, r ≠ [] ∧ r.length ≤ 1000) ∧ st.length ≤ 1000 ∧ cFdiv 0 b = true
  mul : ∀ {t st b i s}, Gd t st b → pick t = some i → t[i]? = some s → ∀ row ∈ t, (∀ x ∈ row.tail, cMul (s.headD 0) x = true) ∧ ∀ x ∈ s.tail, cMul (row.headD 0) x = true
  next : ∀ {t st b i s}, Gd t st b → pick t = some i → t[i]? = some s → Gd ((t.eraseIdx i).map fun row => bRow s row b) (st ++ [s]) (s.headD 0)
  last : ∀ {st b}, Gd [] st b → b ≠ 0 ∧ b.natAbs < 2 ^ 8000 ∧ (∀ s ∈ st, s.length ≤ 1000) ∧ ∀ p s, st.reverse[p]? = some s → BkOk b (bBack b (st.reverse.take p) []) s

end
end Bo
namespace Bo
open PySem L2
local macro_rules | `(tactic| walk_at "wv1") => `(tactic| (first
  | ((with_reducible refine w_var (d := ?wd) ?wh ?wq); (case wh => exact rfl))
  | with_reducible refine w_cons ?_
  | with_reducible refine w_nil ?_
  | with_reducible refine w_op ?_
  | with_reducible refine w_c ?_
  | with_reducible refine w_aName ?_
  | with_reducible refine w_seq ?_
  | with_reducible refine w_asg ?_
  | with_reducible refine w_toB ?_
  | with_reducible refine w_callP ?_
  | with_reducible refine w_tst ?_
  | with_reducible refine w_then ?_
  | with_reducible refine w_gIxT ?_
  | with_reducible refine w_call ?_
  | with_reducible refine w_ret ?_
  | with_reducible refine w_ifS ?_
  | with_reducible refine w_next ?_
  | ((with_reducible refine w_own (ds := ?wd) ?wh ?wq); (case wh => exact rfl))
  | with_reducible refine w_for ?_
  | with_reducible refine w_fr ?_
  | with_reducible refine w_lc ?_
  | with_reducible refine w_tup ?_
  | with_reducible refine w_iter ?_
  | with_reducible refine w_itFT ?_
  | with_reducible refine w_aCons ?_
  | with_reducible refine w_gIxL ?_
  | with_reducible refine w_tnot ?_
  | with_reducible refine w_pre ?_
  | ((with_reducible refine w_dic (kvs := ?wd) ?wh ?wq); (case wh => exact rfl))
  | with_reducible refine w_tor ?_
  | with_reducible refine w_range1 ?_
  | with_reducible refine w_yes ?_
  | with_reducible refine w_itTT ?_
  | with_reducible refine w_iterT ?_
  | with_reducible refine w_lst ?_
  | with_reducible refine w_toI ?_
  | with_reducible refine w_ownS ?_
  | with_reducible refine w_aTup rfl ?_
  | with_reducible refine w_aNil ?_
  | ((with_reducible refine w_frz (ds := ?wd) ?wh ?wq); (case wh => exact rfl))
  | with_reducible refine w_itT ?_
  | with_reducible refine w_callD ?_
  | with_reducible refine w_tand ?_
  | with_reducible refine w_gEqI ?_
  | with_reducible refine w_gNeI ?_
  | with_reducible refine w_gLenT ?_
  | with_reducible refine w_lstF ?_
  | with_reducible refine w_callB ?_
  | with_reducible refine w_app ?_
  | with_reducible refine w_setI ?_
  | with_reducible refine w_drop ?_
  | with_reducible refine w_gIB ?_
  | with_reducible refine w_gBools ?_
  | with_reducible refine w_and ?_
  | with_reducible refine w_isN ?_
  | with_reducible refine w_or ?_
  | with_reducible refine w_ixO ?_
  | with_reducible refine w_gI ?_
  | with_reducible refine w_gLenL ?_
  | with_reducible refine w_gTuple ?_
  | with_reducible refine w_gInts ?_
  | ((with_reducible refine w_newS (ns := ?wd) ?wh ?wq); (case wh => exact rfl))
  | with_reducible refine w_un ?_
  | with_reducible refine w_if ?_
  | with_reducible refine w_chain ?_
  | ((with_reducible refine w_callS (ns := ?wd) ?wh ?wq); (case wh => exact rfl))
  | with_reducible refine w_sl ?_
  | with_reducible refine w_noPart ?_
  | with_reducible refine w_part ?_
  | with_reducible refine w_listRg ?_
  | with_reducible refine w_enumK ?_
  | with_reducible refine w_repF ?_
  | with_reducible refine w_gIC ?_
  | with_reducible refine w_gCat ?_
  | with_reducible refine w_gCatT ?_
  | with_reducible refine w_notN ?_
  | with_reducible refine w_listF ?_
  | with_reducible refine w_neg ?_
  | with_reducible refine w_gIsB ?_
  | with_reducible refine w_not ?_
  | with_reducible refine w_tru ?_
  | with_reducible refine w_callL ?_
  | with_reducible refine w_consO ?_
  | with_reducible refine w_lenO ?_
  | with_reducible refine w_tupleO ?_
  | with_reducible refine w_listO ?_
  | with_reducible refine w_inO ?_
  | with_reducible refine w_truO ?_
  | with_reducible refine w_zipK ?_
  | with_reducible refine w_retN ?_
  | ((with_reducible refine w_aug (a := ?wd) ?wh ?wq); (case wh => exact rfl))
  | with_reducible refine w_gInL ?_
  | with_reducible refine w_gIntI ?_
  | with_reducible refine w_gRevL ?_
  | with_reducible refine w_gSlL ?_
  | with_reducible refine w_gSlT ?_
  | with_reducible refine w_itF ?_
  | with_reducible refine w_gList ?_
  | with_reducible refine w_gSortI ?_
  | with_reducible refine w_range2 ?_
  | ((with_reducible refine w_lcO (ds := ?wd) ?wh ?wq ?wr); (case wh => exact rfl); (case wq => exact rfl))
  | with_reducible refine w_aUnl rfl ?_
  | with_reducible refine w_brk ?_
  | with_reducible refine w_cnt ?_
  | with_reducible refine w_gIntB ?_
  | with_reducible refine w_getD ?_
  | with_reducible refine w_keyS ?_
  | with_reducible refine w_keyI ?_
  | with_reducible refine w_putD ?_
  | with_reducible refine w_ownCallD ?_
  | with_reducible refine w_callDF ?_
  | with_reducible refine w_gIxQL ?_
  | with_reducible refine w_gIxQT ?_
  | ((with_reducible refine w_revO (ds := ?wd) ?wh ?wq); (case wh => exact rfl))
  | ((with_reducible refine w_isNOd (d := ?wd) ?wh ?wq); (case wh => exact rfl))
  | ((with_reducible refine w_isNOo (ds := ?wd) ?wh ?wq); (case wh => exact rfl))
  | with_reducible refine w_toS ?_
  | with_reducible refine w_m0 ?_
  | with_reducible refine w_m1 ?_
  | with_reducible refine w_gIsdigit ?_
  | with_reducible refine w_gIsascii ?_
  | with_reducible refine w_gRemoveprefix ?_
  | with_reducible refine w_gPartition ?_
  | with_reducible refine w_gSplit ?_
  | with_reducible refine w_join ?_
  | with_reducible refine w_joinO ?_
  | with_reducible refine w_joinR ?_
  | with_reducible refine w_gInS ?_
  | with_reducible refine w_gIxS ?_
  | with_reducible refine w_gSlS ?_
  | with_reducible refine w_iterS ?_
  | with_reducible refine w_gRepS ?_
  | with_reducible refine w_gCatS ?_
  | with_reducible refine w_gLenS ?_
  | with_reducible refine w_gStrI ?_
  | with_reducible refine w_gIntS ?_
  | with_reducible refine w_fmt ?_
  | with_reducible refine w_toFmtS ?_
  | with_reducible refine w_toFmtI ?_
  | with_reducible refine w_joined ?_
  | with_reducible refine w_jsCons ?_
  | with_reducible refine w_jsNil ?_
  | with_reducible refine w_gMin2 ?_
  | with_reducible refine w_gEqS ?_
  | with_reducible refine w_gNeS ?_
  | simp only [wipeS, backS, List.set_cons_zero, List.set_cons_succ, List.getElem?_cons_zero, List.getElem?_cons_succ, Option.join_some, Option.join_none, Bool.not_true, Bool.not_false]))
local macro_rules | `(tactic| walk_at "wv") => `(tactic| ((repeat (walk_at "wv1"; try dsimp only)); try simp only [List.set_cons_zero, List.set_cons_succ]))
local macro_rules | `(tactic| walk_at "st") => `(tactic| simp only [startS, List.map_cons, List.map_nil, List.length_cons, List.length_nil, Nat.reduceAdd, Nat.reduceSub, List.replicate_succ, List.replicate_zero, List.cons_append, List.nil_append])

section
/-! ### benches: what the methods are worth -/
open PySem L2 PySem.W
theorem ifP {c p q : Prop} [Decidable c] (h : c) (x : p) : if c then p else q := by
  rw [if_pos h]
  exact x
theorem ifN {c p q : Prop} [Decidable c] (h : ¬ c) (x : q) : if c then p else q := by
  rw [if_neg h]
  exact x
/-- the fields of a bench that keeps no wish -/
def bF (n : PyData) (P A : List PyData) : List (Str × FV) := [("_now", .dat n), ("_past", .own P), ("_ahead", .own A), ("_wishes", .dic []), ("_many_solved", .dat (.int 0))]
section
variable {n m : PyData} {P A Q : List PyData}
theorem bF_now : List.lookup ("_now" : Str) (bF n P A) = some (FV.dat n) := rfl
theorem bF_past : List.lookup ("_past" : Str) (bF n P A) = some (FV.own P) := rfl
theorem bF_ahead : List.lookup ("_ahead" : Str) (bF n P A) = some (FV.own A) := rfl
theorem bF_wishes : List.lookup ("_wishes" : Str) (bF n P A) = some (FV.dic []) := rfl
theorem bF_pnow : putFD "_now" (.dat m) (bF n P A) = bF m P A := rfl
theorem bF_ppast : putFD "_past" (.own Q) (bF n P A) = bF n Q A := rfl
theorem bF_pahead : putFD "_ahead" (.own Q) (bF n P A) = bF n P Q := rfl
theorem bF_turn : (List.lookup ("_turn_to" : Str) (bF n P A)).isNone = true := rfl
theorem bF_ch : (List.lookup ("_choices" : Str) (bF n P A)).isNone = true := rfl
theorem bF_ot : (List.lookup ("_others" : Str) (bF n P A)).isNone = true := rfl
theorem bF_cg : (List.lookup ("_change" : Str) (bF n P A)).isNone = true := rfl
theorem bF_add : (List.lookup ("add_choice" : Str) (bF n P A)).isNone = true := rfl
theorem bF_set : (List.lookup ("set_choice" : Str) (bF n P A)).isNone = true := rfl
theorem bF_rem : (List.lookup ("remove_choice" : Str) (bF n P A)).isNone = true := rfl
theorem bF_undo : (List.lookup ("undo" : Str) (bF n P A)).isNone = true := rfl
theorem bF_redo : (List.lookup ("redo" : Str) (bF n P A)).isNone = true := rfl
theorem bF_sys : (List.lookup ("system" : Str) (bF n P A)).isNone = true := rfl
theorem bF_chs : (List.lookup ("changes" : Str) (bF n P A)).isNone = true := rfl
theorem bF_und : (List.lookup ("undone" : Str) (bF n P A)).isNone = true := rfl
theorem bF_len : (bF n P A).length < 1000 := by show 5 < 1000; decide
theorem turn_ok {s : Int} {k : PyData × List (Str × FV) → Prop} (q : k (.none, bF m P A)) : (den_Bench__turn_to (bF n P A) [.int s, m]).okTo k := by
  unfold den_Bench__turn_to body_Bench__turn_to
  refine w_denO ?_
  walk_at "st"
  refine w_seq (w_setF ?_)
  walk_at "wv"
  refine ⟨_, _, rfl, bF_len, bF_pnow, ?_⟩
  refine w_then (w_forNo (by rfl) bF_wishes ?_)
  exact ⟨_, rfl, q⟩
theorem sys_told {k : PyData × List (Str × FV) → Prop} (q : k (n, bF n P A)) : (den_Bench_system (bF n P A) []).okTo k := by
  unfold den_Bench_system body_Bench_system
  refine w_denO ?_
  walk_at "st"
  refine w_ret (w_fld (by rfl) bF_now ?_)
  exact ⟨_, rfl, q⟩
theorem changes_told {k : PyData × List (Str × FV) → Prop} (q : k (.int P.length, bF n P A)) : (den_Bench_changes (bF n P A) []).okTo k := by
  unfold den_Bench_changes body_Bench_changes
  refine w_denO ?_
  walk_at "st"
  refine w_ret (w_lenF (by rfl) bF_past ?_)
  exact ⟨_, rfl, q⟩
theorem undone_told {k : PyData × List (Str × FV) → Prop} (q : k (.int A.length, bF n P A)) : (den_Bench_undone (bF n P A) []).okTo k := by
  unfold den_Bench_undone body_Bench_undone
  refine w_denO ?_
  walk_at "st"
  refine w_ret (w_lenF (by rfl) bF_ahead ?_)
  exact ⟨_, rfl, q⟩
theorem undo_none {k : PyData × List (Str × FV) → Prop} (q : k (.bool false, bF n [] A)) : (den_Bench_undo (bF n [] A) []).okTo k := by
  unfold den_Bench_undo body_Bench_undo
  refine w_denO ?_
  walk_at "st"
  refine w_seq (w_ifS (w_tnot (w_truF (by rfl) bF_past ?_)))
  refine ifP rfl ?_
  walk_at "wv"
  exact ⟨_, rfl, q⟩
theorem redo_none {k : PyData × List (Str × FV) → Prop} (q : k (.bool false, bF n P [])) : (den_Bench_redo (bF n P []) []).okTo k := by
  unfold den_Bench_redo body_Bench_redo
  refine w_denO ?_
  walk_at "st"
  refine w_seq (w_ifS (w_tnot (w_truF (by rfl) bF_ahead ?_)))
  refine ifP rfl ?_
  walk_at "wv"
  exact ⟨_, rfl, q⟩
theorem last_get (Q : List PyData) (d : PyData) : (Q ++ [d])[(Q ++ [d]).length - 1]? = some d := by
  rw [List.length_append, List.length_singleton, Nat.add_sub_cancel, List.getElem?_append_right (Nat.le_refl _), Nat.sub_self]
  rfl
theorem last_emp (Q : List PyData) (d : PyData) : (!(!(Q ++ [d]).isEmpty)) = false := by
  cases Q <;> rfl
theorem undo_some {s : Int} {k : PyData × List (Str × FV) → Prop} (hA : A.length < 100000) (q : k (.bool true, bF m Q (A ++ [.tuple [.int s, n]]))) : (den_Bench_undo (bF n (Q ++ [.tuple [.int s, m]]) A) []).okTo k := by
  unfold den_Bench_undo body_Bench_undo
  refine w_denO ?_
  walk_at "st"
  refine w_seq (w_ifS (w_tnot (w_truF (by rfl) bF_past ?_)))
  refine ifN (by rw [last_emp]; exact Bool.false_ne_true) ?_
  walk_at "wv"
  refine w_popF (by rfl) bF_past (last_get _ _) bF_ppast ?_
  rw [List.dropLast_concat]
  walk_at "wv"
  refine w_appF (by rfl) bF_ahead ?_
  refine w_qTup (w_qCons (w_qVar (by rfl) (w_qCons (w_qFld (by rfl) bF_now (w_qNil ?_)))))
  refine ⟨by simp, hA, _, bF_pahead, ?_⟩
  dsimp only
  refine w_seq (w_drop (w_meth (by rfl) bF_turn ?_))
  walk_at "wv"
  refine ⟨_, rfl, rfl, turn_ok ?_⟩
  walk_at "wv"
  exact ⟨_, rfl, q⟩
theorem redo_some {s : Int} {k : PyData × List (Str × FV) → Prop} (hP : P.length < 100000) (q : k (.bool true, bF m (P ++ [.tuple [.int s, n]]) Q)) : (den_Bench_redo (bF n P (Q ++ [.tuple [.int s, m]])) []).okTo k := by
  unfold den_Bench_redo body_Bench_redo
  refine w_denO ?_
  walk_at "st"
  refine w_seq (w_ifS (w_tnot (w_truF (by rfl) bF_ahead ?_)))
  refine ifN (by rw [last_emp]; exact Bool.false_ne_true) ?_
  walk_at "wv"
  refine w_popF (by rfl) bF_ahead (last_get _ _) bF_pahead ?_
  rw [List.dropLast_concat]
  walk_at "wv"
  refine w_appF (by rfl) bF_past ?_
  refine w_qTup (w_qCons (w_qVar (by rfl) (w_qCons (w_qFld (by rfl) bF_now (w_qNil ?_)))))
  refine ⟨by simp, hP, _, bF_ppast, ?_⟩
  dsimp only
  refine w_seq (w_drop (w_meth (by rfl) bF_turn ?_))
  walk_at "wv"
  refine ⟨_, rfl, rfl, turn_ok ?_⟩
  walk_at "wv"
  exact ⟨_, rfl, q⟩
/-! errors, choices -/
theorem check_ok {y : List (List Cho)} {k : PyData → Prop} {ke : Exc → Prop} (h1 : flt y = .none → k .none) (h2 : flt y ≠ .none → ke ⟨"InvalidSystem", some (flt y), none⟩) : (den_check [dY y]).ends k ke := by
  unfold den_check body_check
  refine e_denP ?_
  walk_at "st"
  refine e_cut [some (.dat (dY y)), some (.dat (flt y))] ?_ ?_
  · walk_at "wv"
    refine ⟨rfl, fault_ok ?_⟩
    walk_at "wv"
  · refine e_ifS ?_
    walk_at "wv"
    by_cases c : flt y = .none
    · rw [c]
      refine ifN (by decide) ?_
      exact endsOk (h1 c)
    · refine ifP ?_ ?_
      · cases e : flt y with
        | none => exact absurd e c
        | _ => rfl
      · refine e_raise ?_
        walk_at "wv"
        exact ⟨_, rfl, h2 c⟩
theorem init_ok {y : List (List Cho)} {k : PyData × List (Str × FV) → Prop} {ke : Exc → Prop} (h1 : flt y = .none → k (.none, bF (dY y) [] [])) (h2 : flt y ≠ .none → ke ⟨"InvalidSystem", some (flt y), some []⟩) : (den_Bench_init [] [dY y]).ends k ke := by
  unfold den_Bench_init body_Bench_init
  refine e_denO ?_
  walk_at "st"
  refine e_seq (e_drop (e_callXO ?_))
  walk_at "wv"
  refine ⟨_, rfl, rfl, check_ok (fun c => ?_) fun c => h2 c⟩
  refine endsOk ?_
  refine w_seq (w_setF ?_)
  walk_at "wv"
  refine ⟨_, _, rfl, (by show 0 < 1000; decide), rfl, ?_⟩
  refine w_seq (w_setFO ?_)
  walk_at "wv"
  refine ⟨by simp, _, _, rfl, (by show 1 < 1000; decide), rfl, ?_⟩
  try dsimp only
  refine w_seq (w_setFO ?_)
  walk_at "wv"
  refine ⟨by simp, _, _, rfl, (by show 2 < 1000; decide), rfl, ?_⟩
  try dsimp only
  refine w_seq (w_setFD (by rfl) (by show 3 < 1000; decide) rfl ?_)
  refine w_setF ?_
  walk_at "wv"
  refine ⟨_, _, rfl, (by show 4 < 1000; decide), rfl, ?_⟩
  exact ⟨_, rfl, h1 c⟩
/-- a <= x < b, not -/
theorem not_lelt {S : SS} {fa fb fc : VE} {a x b : Int} (ha : (fa S).okTo fun p => p = (.int a, S)) (hb : (fb S).okTo fun p => p = (.int x, S)) (hc : (fc S).okTo fun p => p = (.int b, S)) :
    (tNotF (vTst (vChain (gIB fun i j => decide (i ≤ j)) (gIB fun i j => decide (i < j)) fa fb fc)) S).okTo fun p => p = (!(decide (a ≤ x) && decide (x < b)), S) := by
  refine w_tnot (w_tst (w_chain (R.okTo.mono ha fun p e => ?_)))
  subst e
  refine R.okTo.mono hb fun p e => ?_
  subst e
  walk_at "wv"
  by_cases c : a ≤ x
  · rw [if_pos (decide_eq_true c), decide_eq_true c, Bool.true_and]
    refine R.okTo.mono hc fun p e => ?_
    subst e
    walk_at "wv"
  · rw [if_neg (by simpa using c), decide_eq_false c]
    walk_at "wv"
    rfl
theorem cutTo {α : Type} (l : List α) (i : Nat) (h : i ≤ l.length) : cutD l none (some (i : Int)) = l.take i := by
  unfold cutD
  rw [HT.sIx_none, HT.sIx_nat, List.drop_zero, Nat.sub_zero, Nat.min_eq_left h]
theorem cutFrom {α : Type} (l : List α) (i : Nat) (h : i ≤ l.length) : cutD l (some (i : Int)) none = l.drop i := by
  unfold cutD
  rw [HT.sIx_none, HT.sIx_nat, Nat.min_eq_left h]
  exact List.take_of_length_le (by rw [List.length_drop]; exact Nat.le_refl _)
/-- a state of a system -/
theorem dY_at {y : List (List Cho)} {t : Nat} (h : t < y.length) : ixD (y.map dS) (t : Int) = .ok (dS (y.getD t [])) := ixD_nat (by rw [List.getElem?_map, List.getD_eq_getElem?_getD, List.getElem?_eq_getElem h]; rfl)
theorem choices_told {y : List (List Cho)} {st : Int} {k : PyData × List (Str × FV) → Prop} {ke : Exc → Prop} (h1 : ∀ t : Nat, st = (t : Int) → t < y.length → k (dS (y.getD t []), bF (dY y) P A)) (h2 : st < 0 ∨ (y.length : Int) ≤ st → ke ⟨"NoSuchState", some (.int st), some (bF (dY y) P A)⟩) :
    (den_Bench__choices (bF (dY y) P A) [.int st]).ends k ke := by
  unfold den_Bench__choices body_Bench__choices
  refine e_denO ?_
  walk_at "st"
  refine e_seq (e_ifS ((not_lelt (a := 0) (x := st) (b := (y.length : Nat)) ?_ ?_ ?_).mono fun p e => ?_))
  · walk_at "wv"
  · walk_at "wv"
  · refine w_call (w_cons (w_fld (by rfl) bF_now (w_nil ?_)))
    unfold dY
    walk_at "wv"
    rw [List.length_map]
  subst e
  dsimp only
  by_cases c : 0 ≤ st ∧ st < (y.length : Int)
  · rw [decide_eq_true c.1, decide_eq_true c.2]
    refine ifN (by decide) ?_
    obtain ⟨t, rfl⟩ := Int.eq_ofNat_of_zero_le c.1
    have ht : t < y.length := by omega
    refine endsOk (w_next ?_)
    refine endsOk (w_ret (w_op (w_fld (by rfl) bF_now ?_)))
    walk_at "wv"
    refine okTo_eq (dY_at ht) ?_
    exact ⟨_, rfl, h1 t rfl ht⟩
  · have e : (!(decide (0 ≤ st) && decide (st < (y.length : Int)))) = true := by
      rw [Bool.not_eq_true', Bool.and_eq_false_iff, decide_eq_false_iff_not, decide_eq_false_iff_not]
      omega
    refine ifP e ?_
    refine e_raiseO ?_
    walk_at "wv"
    exact ⟨_, _, rfl, rfl, h2 (by omega)⟩
theorem dS_len (s : List Cho) : ∀ S : SS, (gLen [dS s]) = .ok (.int (s.length : Nat)) := fun _ => by
  unfold dS gLen
  simp
/-- the choices before one and those after it -/
theorem others_told {y : List (List Cho)} {st nu : Int} {k : PyData × List (Str × FV) → Prop} {ke : Exc → Prop} (h1 : ∀ t u : Nat, st = (t : Int) → t < y.length → nu = (u : Int) → u < (y.getD t []).length → k (.tuple [dS ((y.getD t []).take u), dS ((y.getD t []).drop (u + 1))], bF (dY y) P A))
    (h2 : st < 0 ∨ (y.length : Int) ≤ st → ke ⟨"NoSuchState", some (.int st), some (bF (dY y) P A)⟩) (h3 : ∀ t : Nat, st = (t : Int) → t < y.length → nu < 0 ∨ ((y.getD t []).length : Int) ≤ nu → ke ⟨"NoSuchChoice", some (.int nu), some (bF (dY y) P A)⟩) :
    (den_Bench__others (bF (dY y) P A) [.int st, .int nu]).ends k ke := by
  unfold den_Bench__others body_Bench__others
  refine e_denO ?_
  walk_at "st"
  refine e_seq (e_asg (e_methX (by rfl) bF_ch ?_))
  walk_at "wv"
  refine ⟨_, rfl, rfl, choices_told (fun t e ht => ?_) h2⟩
  refine w_aName ?_
  refine e_seq (e_ifS ((not_lelt (a := 0) (x := nu) (b := ((y.getD t []).length : Nat)) ?_ ?_ ?_).mono fun p e => ?_))
  · walk_at "wv"
  · walk_at "wv"
  · walk_at "wv"
    refine okTo_eq (dS_len _ []) ?_
    rfl
  subst e
  dsimp only
  by_cases c : 0 ≤ nu ∧ nu < ((y.getD t []).length : Int)
  · rw [decide_eq_true c.1, decide_eq_true c.2]
    refine ifN (by decide) ?_
    obtain ⟨u, rfl⟩ := Int.eq_ofNat_of_zero_le c.1
    have hu : u < (y.getD t []).length := by omega
    refine endsOk (w_next ?_)
    refine endsOk ?_
    walk_at "wv"
    unfold dS
    walk_at "wv"
    rw [cutTo _ _ (by rw [List.length_map]; omega), show ((u : Int) + 1) = ((u + 1 : Nat) : Int) from rfl, cutFrom _ _ (by rw [List.length_map]; omega), ← List.map_take, ← List.map_drop]
    refine ⟨by simp, _, rfl, h1 t u e ht rfl hu⟩
  · have e2 : (!(decide (0 ≤ nu) && decide (nu < ((y.getD t []).length : Int)))) = true := by
      rw [Bool.not_eq_true', Bool.and_eq_false_iff, decide_eq_false_iff_not, decide_eq_false_iff_not]
      omega
    refine ifP e2 ?_
    refine e_raiseO ?_
    walk_at "wv"
    exact ⟨_, _, rfl, rfl, h3 t e ht (by omega)⟩
/-- a state's choices changed -/
theorem change_told {y : List (List Cho)} {t : Nat} {s : List Cho} {k : PyData × List (Str × FV) → Prop} {ke : Exc → Prop} (ht : t < y.length) (hl : y.length ≤ 50000) (hP : P.length < 100) (h1 : flt (y.set t s) = .none → k (.none, bF (dY (y.set t s)) (P ++ [.tuple [.int (t : Int), dY y]]) []))
    (h2 : flt (y.set t s) ≠ .none → ke ⟨"InvalidSystem", some (flt (y.set t s)), some (bF (dY y) P A)⟩) : (den_Bench__change (bF (dY y) P A) [.int (t : Int), dS s]).ends k ke := by
  unfold den_Bench__change body_Bench__change
  refine e_denO ?_
  walk_at "st"
  have set_eq : (y.map dS).take t ++ (dS s :: (y.map dS).drop (t + 1)) = (y.set t s).map dS := by
    rw [List.set_eq_take_append_cons_drop, if_pos ht, List.map_append, List.map_cons, List.map_take, List.map_drop]
  refine e_cut [some (.obj "Bench" (bF (dY y) P A)), some (.dat (.int (t : Int))), some (.dat (dS s)), some (.dat (dY (y.set t s)))] ?_ ?_
  · refine w_asg (w_tup (w_star (w_sl (w_fld (by rfl) bF_now ?_))))
    walk_at "wv"
    have g1 : gSlT (dY y) none (some (t : Int)) = .ok (.tuple ((y.map dS).take t)) := by
      show R.ok (PyData.tuple (cutD (y.map dS) none (some (t : Int)))) = _
      rw [cutTo _ _ (by rw [List.length_map]; omega)]
    have g2 : gSlT (dY y) (some ((t : Int) + 1)) none = .ok (.tuple ((y.map dS).drop (t + 1))) := by
      show R.ok (PyData.tuple (cutD (y.map dS) (some ((t + 1 : Nat) : Int)) none)) = _
      rw [cutFrom _ _ (by rw [List.length_map]; omega)]
    refine okTo_eq g1 ?_
    refine ⟨_, rfl, ?_⟩
    refine w_cons ?_
    walk_at "wv"
    refine w_star (w_sl (w_fld (by rfl) bF_now ?_))
    walk_at "wv"
    refine okTo_eq g2 ?_
    refine ⟨_, rfl, w_nil ?_⟩
    rw [List.append_nil]
    dsimp only
    rw [set_eq]
    refine ⟨by rw [List.length_map, List.length_set]; omega, w_aName ?_⟩
    rfl
  refine e_seq (e_drop (e_callXO ?_))
  walk_at "wv"
  refine ⟨_, rfl, rfl, check_ok (fun c => ?_) fun c => h2 c⟩
  refine endsOk ?_
  refine w_seq (w_ifS (w_tst (w_op (w_lenF (by rfl) bF_past ?_))))
  walk_at "wv"
  refine ifN (by rw [decide_eq_true_iff]; omega) ?_
  walk_at "wv"
  refine w_appF (by rfl) bF_past ?_
  refine w_qTup (w_qCons (w_qVar (by rfl) (w_qCons (w_qFld (by rfl) bF_now (w_qNil ?_)))))
  refine ⟨by simp, by omega, _, bF_ppast, ?_⟩
  dsimp only
  refine w_seq (w_setFO ?_)
  walk_at "wv"
  refine ⟨by simp, _, _, rfl, bF_len, bF_pahead, ?_⟩
  try dsimp only
  refine w_drop (w_meth (by rfl) bF_turn ?_)
  walk_at "wv"
  refine ⟨_, rfl, rfl, turn_ok ?_⟩
  exact ⟨_, rfl, h1 c⟩
/-- the choices behind an edit -/
def chs (way : Str) (s : List Cho) (u : Nat) (c : Cho) : List Cho := if way = "add" then s ++ [c] else if way = "set" then s.take u ++ [c] ++ s.drop (u + 1) else s.take u ++ s.drop (u + 1)
theorem add_told {y : List (List Cho)} {st co : Int} {es : List (Int × Int)} {k : PyData × List (Str × FV) → Prop} {ke : Exc → Prop} (hl : y.length ≤ 50000) (hs : ∀ s ∈ y, s.length ≤ 50000) (hP : P.length < 100) (h0 : st < 0 ∨ (y.length : Int) ≤ st → ke ⟨"NoSuchState", some (.int st), some (bF (dY y) P A)⟩)
    (h1 : ∀ t : Nat, st = (t : Int) → t < y.length → flt (y.set t (y.getD t [] ++ [(co, es)])) = .none → k (.none, bF (dY (y.set t (y.getD t [] ++ [(co, es)]))) (P ++ [.tuple [.int (t : Int), dY y]]) []))
    (h2 : ∀ t : Nat, st = (t : Int) → t < y.length → flt (y.set t (y.getD t [] ++ [(co, es)])) ≠ .none → ke ⟨"InvalidSystem", some (flt (y.set t (y.getD t [] ++ [(co, es)]))), some (bF (dY y) P A)⟩) :
    (den_Bench_add_choice (bF (dY y) P A) [.int st, .int co, .tuple (es.map prD)]).ends k ke := by
  unfold den_Bench_add_choice body_Bench_add_choice
  refine e_denO ?_
  walk_at "st"
  refine e_seq (e_asg (e_methX (by rfl) bF_ch ?_))
  walk_at "wv"
  refine ⟨_, rfl, rfl, choices_told (fun t e ht => ?_) h0⟩
  subst e
  refine w_aName ?_
  have hm : (y.getD t []).length ≤ 50000 := by
    rw [List.getD_eq_getElem?_getD, List.getElem?_eq_getElem ht]
    exact hs _ (List.getElem_mem ht)
  refine e_drop (e_methX (by rfl) bF_cg ?_)
  walk_at "wv"
  refine w_star ?_
  walk_at "wv"
  refine ⟨(y.getD t []).map dC, rfl, ?_⟩
  walk_at "wv"
  have e2 : PyData.tuple ((y.getD t []).map dC ++ [.tuple [.int co, .tuple (es.map prD)]]) = dS (y.getD t [] ++ [(co, es)]) := by
    unfold dS
    rw [List.map_append]
    rfl
  refine ⟨by simp, by rw [List.length_append, List.length_map, List.length_singleton]; omega, ?_⟩
  rw [e2]
  exact ⟨_, rfl, rfl, change_told ht hl hP (fun c => ⟨_, rfl, h1 t rfl ht c⟩) fun c => h2 t rfl ht c⟩
theorem set_told {y : List (List Cho)} {st nu co : Int} {es : List (Int × Int)} {k : PyData × List (Str × FV) → Prop} {ke : Exc → Prop} (hl : y.length ≤ 50000) (hs : ∀ s ∈ y, s.length ≤ 50000) (hP : P.length < 100) (h0 : st < 0 ∨ (y.length : Int) ≤ st → ke ⟨"NoSuchState", some (.int st), some (bF (dY y) P A)⟩)
    (h3 : ∀ t : Nat, st = (t : Int) → t < y.length → nu < 0 ∨ ((y.getD t []).length : Int) ≤ nu → ke ⟨"NoSuchChoice", some (.int nu), some (bF (dY y) P A)⟩)
    (h1 : ∀ t u : Nat, st = (t : Int) → t < y.length → nu = (u : Int) → u < (y.getD t []).length → flt (y.set t ((y.getD t []).take u ++ [(co, es)] ++ (y.getD t []).drop (u + 1))) = .none → k (.none, bF (dY (y.set t ((y.getD t []).take u ++ [(co, es)] ++ (y.getD t []).drop (u + 1)))) (P ++ [.tuple [.int (t : Int), dY y]]) []))
    (h2 : ∀ t u : Nat, st = (t : Int) → t < y.length → nu = (u : Int) → u < (y.getD t []).length → flt (y.set t ((y.getD t []).take u ++ [(co, es)] ++ (y.getD t []).drop (u + 1))) ≠ .none → ke ⟨"InvalidSystem", some (flt (y.set t ((y.getD t []).take u ++ [(co, es)] ++ (y.getD t []).drop (u + 1)))), some (bF (dY y) P A)⟩) :
    (den_Bench_set_choice (bF (dY y) P A) [.int st, .int nu, .int co, .tuple (es.map prD)]).ends k ke := by
  unfold den_Bench_set_choice body_Bench_set_choice
  refine e_denO ?_
  walk_at "st"
  refine e_seq (e_asg (e_methX (by rfl) bF_ot ?_))
  walk_at "wv"
  refine ⟨_, rfl, rfl, others_told (fun t u e ht e2 hu => ?_) h0 h3⟩
  subst e e2
  have hm : (y.getD t []).length ≤ 50000 := by
    rw [List.getD_eq_getElem?_getD, List.getElem?_eq_getElem ht]
    exact hs _ (List.getElem_mem ht)
  walk_at "wv"
  refine e_drop (e_methX (by rfl) bF_cg ?_)
  walk_at "wv"
  refine w_star ?_
  walk_at "wv"
  refine ⟨((y.getD t []).take u).map dC, rfl, ?_⟩
  walk_at "wv"
  refine ⟨by simp, ?_⟩
  refine w_star ?_
  walk_at "wv"
  refine ⟨((y.getD t []).drop (u + 1)).map dC, rfl, ?_⟩
  walk_at "wv"
  have e2 : PyData.tuple (((y.getD t []).take u).map dC ++ .tuple [.int co, .tuple (es.map prD)] :: ((y.getD t []).drop (u + 1)).map dC) = dS ((y.getD t []).take u ++ [(co, es)] ++ (y.getD t []).drop (u + 1)) := by
    unfold dS
    rw [List.map_append, List.map_append, List.append_assoc]
    rfl
  rw [List.append_nil]
  refine ⟨by simp only [List.length_append, List.length_map, List.length_cons, List.length_take, List.length_drop]; omega, ?_⟩
  rw [e2]
  exact ⟨_, rfl, rfl, change_told ht hl hP (fun c => ⟨_, rfl, h1 t u rfl ht rfl hu c⟩) fun c => h2 t u rfl ht rfl hu c⟩
theorem rem_told {y : List (List Cho)} {st nu : Int} {k : PyData × List (Str × FV) → Prop} {ke : Exc → Prop} (hl : y.length ≤ 50000) (hs : ∀ s ∈ y, s.length ≤ 50000) (hP : P.length < 100) (h0 : st < 0 ∨ (y.length : Int) ≤ st → ke ⟨"NoSuchState", some (.int st), some (bF (dY y) P A)⟩)
    (h3 : ∀ t : Nat, st = (t : Int) → t < y.length → nu < 0 ∨ ((y.getD t []).length : Int) ≤ nu → ke ⟨"NoSuchChoice", some (.int nu), some (bF (dY y) P A)⟩)
    (h1 : ∀ t u : Nat, st = (t : Int) → t < y.length → nu = (u : Int) → u < (y.getD t []).length → flt (y.set t ((y.getD t []).take u ++ (y.getD t []).drop (u + 1))) = .none → k (.none, bF (dY (y.set t ((y.getD t []).take u ++ (y.getD t []).drop (u + 1)))) (P ++ [.tuple [.int (t : Int), dY y]]) []))
    (h2 : ∀ t u : Nat, st = (t : Int) → t < y.length → nu = (u : Int) → u < (y.getD t []).length → flt (y.set t ((y.getD t []).take u ++ (y.getD t []).drop (u + 1))) ≠ .none → ke ⟨"InvalidSystem", some (flt (y.set t ((y.getD t []).take u ++ (y.getD t []).drop (u + 1)))), some (bF (dY y) P A)⟩) :
    (den_Bench_remove_choice (bF (dY y) P A) [.int st, .int nu]).ends k ke := by
  unfold den_Bench_remove_choice body_Bench_remove_choice
  refine e_denO ?_
  walk_at "st"
  refine e_seq (e_asg (e_methX (by rfl) bF_ot ?_))
  walk_at "wv"
  refine ⟨_, rfl, rfl, others_told (fun t u e ht e2 hu => ?_) h0 h3⟩
  subst e e2
  have hm : (y.getD t []).length ≤ 50000 := by
    rw [List.getD_eq_getElem?_getD, List.getElem?_eq_getElem ht]
    exact hs _ (List.getElem_mem ht)
  walk_at "wv"
  refine e_drop (e_methX (by rfl) bF_cg ?_)
  walk_at "wv"
  refine w_star ?_
  walk_at "wv"
  refine ⟨((y.getD t []).take u).map dC, rfl, ?_⟩
  refine w_star ?_
  walk_at "wv"
  refine ⟨((y.getD t []).drop (u + 1)).map dC, rfl, ?_⟩
  walk_at "wv"
  have e2 : PyData.tuple (((y.getD t []).take u).map dC ++ ((y.getD t []).drop (u + 1)).map dC) = dS ((y.getD t []).take u ++ (y.getD t []).drop (u + 1)) := by
    unfold dS
    rw [List.map_append]
  rw [List.append_nil]
  refine ⟨by simp only [List.length_append, List.length_map, List.length_take, List.length_drop]; omega, ?_⟩
  rw [e2]
  exact ⟨_, rfl, rfl, change_told ht hl hP (fun c => ⟨_, rfl, h1 t u rfl ht rfl hu c⟩) fun c => h2 t u rfl ht rfl hu c⟩
end

end
section
/-! ### benches: edits, what they are to tell, what they leave -/
open PySem L2 PySem.W
def edD (way : Str) (st nu co : Int) (es : List (Int × Int)) : PyData := .tuple [.str way, .int st, .int nu, .int co, .tuple (es.map prD)]
def wayS (way : Str) : Prop := way = "add" ∨ way = "set" ∨ way = "remove"
/-- the system behind an edit -/
def aft (y : List (List Cho)) (way : Str) (t u : Nat) (c : Cho) : List (List Cho) := y.set t (chs way (y.getD t []) u c)
theorem chs_add {s : List Cho} {u : Nat} {c : Cho} : chs "add" s u c = s ++ [c] := if_pos rfl
theorem chs_set {s : List Cho} {u : Nat} {c : Cho} : chs "set" s u c = s.take u ++ [c] ++ s.drop (u + 1) := by
  unfold chs
  rw [if_neg (by decide), if_pos rfl]
theorem chs_rem {s : List Cho} {u : Nat} {c : Cho} : chs "remove" s u c = s.take u ++ s.drop (u + 1) := by
  unfold chs
  rw [if_neg (by decide), if_neg (by decide)]
theorem getD_mem {y : List (List Cho)} {t : Nat} (ht : t < y.length) : y.getD t [] ∈ y := by
  rw [List.getD_eq_getElem?_getD, List.getElem?_eq_getElem ht]
  exact List.getElem_mem ht
theorem slY_lo {y : List (List Cho)} {t : Nat} (h : t ≤ y.length) : gSlT (dY y) none (some (t : Int)) = .ok (.tuple ((y.take t).map dS)) := by
  show R.ok (PyData.tuple (cutD (y.map dS) none (some (t : Int)))) = _
  rw [cutTo _ _ (by rw [List.length_map]; omega), ← List.map_take]
theorem slY_hi {y : List (List Cho)} {t : Nat} (h : t + 1 ≤ y.length) : gSlT (dY y) (some ((t : Int) + 1)) none = .ok (.tuple ((y.drop (t + 1)).map dS)) := by
  show R.ok (PyData.tuple (cutD (y.map dS) (some ((t + 1 : Nat) : Int)) none)) = _
  rw [cutFrom _ _ (by rw [List.length_map]; omega), ← List.map_drop]
theorem slS_lo {s : List Cho} {t : Nat} (h : t ≤ s.length) : gSlT (dS s) none (some (t : Int)) = .ok (.tuple ((s.take t).map dC)) := by
  show R.ok (PyData.tuple (cutD (s.map dC) none (some (t : Int)))) = _
  rw [cutTo _ _ (by rw [List.length_map]; omega), ← List.map_take]
theorem slS_hi {s : List Cho} {t : Nat} (h : t + 1 ≤ s.length) : gSlT (dS s) (some ((t : Int) + 1)) none = .ok (.tuple ((s.drop (t + 1)).map dC)) := by
  show R.ok (PyData.tuple (cutD (s.map dC) (some ((t + 1 : Nat) : Int)) none)) = _
  rw [cutFrom _ _ (by rw [List.length_map]; omega), ← List.map_drop]
theorem after_ok {y : List (List Cho)} {way : Str} {t u : Nat} {nu co : Int} {es : List (Int × Int)} {k : PyData → Prop} (hl : y.length ≤ 50000) (hs : ∀ s ∈ y, s.length ≤ 50000) (hw : wayS way) (ht : t < y.length) (hu : way = "add" ∨ (nu = (u : Int) ∧ u < (y.getD t []).length)) (q : k (dY (aft y way t u (co, es)))) :
    (den_l_after [dY y, edD way (t : Int) nu co es]).okTo k := by
  unfold den_l_after body_l_after
  refine w_denP ?_
  walk_at "st"
  unfold edD
  walk_at "wv"
  have hm := hs _ (getD_mem ht)
  -- the state
  have st : ∀ s' : List Cho, s'.length ≤ 100000 → (vRet (vOp gCatT (vOp gCatT (vSl gSlT (vVar 0) vNoPart (vPart (vVar 4))) (vTup (vCons (vVar 2) vNil))) (vSl gSlT (vVar 0) (vPart (vOp (gI fun i j => i + j) (vVar 4) (vC (.int 1)))) vNoPart))
      [some (.dat (dY y)), some (.dat (.tuple [.str way, .int (t : Int), .int nu, .int co, .tuple (es.map prD)])), some (.dat (dS s')), some (.dat (.str way)), some (.dat (.int (t : Int))), some (.dat (.int nu)), some (.dat (.int co)), some (.dat (.tuple (es.map prD)))]).okTo fun fl => match fl with
      | .nx _ => False
      | .rt d _ => d = dY (y.set t s')
      | _ => False := fun s' hs' => by
    walk_at "wv"
    refine okTo_eq (slY_lo (Nat.le_of_lt ht)) ?_
    walk_at "wv"
    refine ⟨by simp, w_gCatT ⟨by simp only [List.length_append, List.length_map, List.length_take, List.length_drop, List.length_cons, List.length_nil]; omega, ?_⟩⟩
    walk_at "wv"
    refine okTo_eq (slY_hi ht) ?_
    refine w_gCatT ⟨by simp only [List.length_append, List.length_map, List.length_take, List.length_drop, List.length_cons, List.length_nil]; omega, ?_⟩
    unfold dY
    rw [List.set_eq_take_append_cons_drop, if_pos ht, List.map_append, List.map_cons, List.append_assoc]
    rfl
  refine okTo_eq (dY_at ht) ?_
  walk_at "wv"
  have fin : ∀ s' : List Cho, s'.length ≤ 100000 → s' = chs way (y.getD t []) u (co, es) → (vRet (vOp gCatT (vOp gCatT (vSl gSlT (vVar 0) vNoPart (vPart (vVar 4))) (vTup (vCons (vVar 2) vNil))) (vSl gSlT (vVar 0) (vPart (vOp (gI fun i j => i + j) (vVar 4) (vC (.int 1)))) vNoPart))
      [some (.dat (dY y)), some (.dat (.tuple [.str way, .int (t : Int), .int nu, .int co, .tuple (es.map prD)])), some (.dat (dS s')), some (.dat (.str way)), some (.dat (.int (t : Int))), some (.dat (.int nu)), some (.dat (.int co)), some (.dat (.tuple (es.map prD)))]).okTo fun fl => match fl with
      | .nx _ => k .none
      | .rt d _ => k d
      | _ => False := fun s' hs' e => by
    refine (st s' hs').mono fun fl h => ?_
    cases fl with
    | nx S => exact h.elim
    | rt d S =>
      subst e
      have h : d = dY (y.set t (chs way (y.getD t []) u (co, es))) := h
      subst h
      exact q
    | bk S => exact h
    | ct S => exact h
  rcases hw with rfl | rfl | rfl
  · refine ifP (by decide) ?_
    walk_at "wv"
    refine ⟨by simp, ?_⟩
    walk_at "wv"
    refine ⟨by simp, w_gCatT ⟨by simp only [List.length_append, List.length_map, List.length_cons, List.length_nil]; omega, ?_⟩⟩
    refine w_aName ?_
    have e : PyData.tuple ((y.getD t []).map dC ++ [.tuple [.int co, .tuple (es.map prD)]]) = dS (y.getD t [] ++ [(co, es)]) := by
      unfold dS
      rw [List.map_append]
      rfl
    rw [e]
    exact fin _ (by rw [List.length_append, List.length_singleton]; omega) chs_add.symm
  · obtain ⟨rfl, hu2⟩ := hu.resolve_left (by decide)
    refine ifN (by decide) ?_
    walk_at "wv"
    refine ifP (by decide) ?_
    walk_at "wv"
    refine okTo_eq (slS_lo (Nat.le_of_lt hu2)) ?_
    walk_at "wv"
    refine ⟨by simp, ?_⟩
    walk_at "wv"
    refine ⟨by simp, w_gCatT ⟨by simp only [List.length_append, List.length_map, List.length_take, List.length_cons, List.length_nil]; omega, ?_⟩⟩
    walk_at "wv"
    refine okTo_eq (slS_hi hu2) ?_
    refine w_gCatT ⟨by simp only [List.length_append, List.length_map, List.length_take, List.length_drop, List.length_cons, List.length_nil]; omega, ?_⟩
    refine w_aName ?_
    have e : PyData.tuple (((y.getD t []).take u).map dC ++ [.tuple [.int co, .tuple (es.map prD)]] ++ ((y.getD t []).drop (u + 1)).map dC) = dS ((y.getD t []).take u ++ [(co, es)] ++ (y.getD t []).drop (u + 1)) := by
      unfold dS
      rw [List.map_append, List.map_append]
      rfl
    rw [e]
    exact fin _ (by simp only [List.length_append, List.length_take, List.length_drop, List.length_cons, List.length_nil]; omega) chs_set.symm
  · obtain ⟨rfl, hu2⟩ := hu.resolve_left (by decide)
    refine ifN (by decide) ?_
    walk_at "wv"
    refine ifN (by decide) ?_
    walk_at "wv"
    refine okTo_eq (slS_lo (Nat.le_of_lt hu2)) ?_
    walk_at "wv"
    refine okTo_eq (slS_hi hu2) ?_
    refine w_gCatT ⟨by simp only [List.length_append, List.length_map, List.length_take, List.length_drop, List.length_cons, List.length_nil]; omega, ?_⟩
    refine w_aName ?_
    have e : PyData.tuple (((y.getD t []).take u).map dC ++ ((y.getD t []).drop (u + 1)).map dC) = dS ((y.getD t []).take u ++ (y.getD t []).drop (u + 1)) := by
      unfold dS
      rw [List.map_append]
    rw [e]
    exact fin _ (by simp only [List.length_append, List.length_take, List.length_drop]; omega) chs_rem.symm
/-- what an edit is to tell -/
def rfs (y : List (List Cho)) (way : Str) (st nu : Int) (c : Cho) : PyData :=
  if st < 0 ∨ (y.length : Int) ≤ st then .tuple [.str "state", .int st]
  else if way ≠ "add" ∧ (nu < 0 ∨ ((y.getD st.toNat []).length : Int) ≤ nu) then .tuple [.str "choice", .int nu]
  else match flt (aft y way st.toNat nu.toNat c) with
    | .none => .none
    | d => .tuple [.str "fault", d]
theorem rfs_state {y : List (List Cho)} {way : Str} {st nu : Int} {c : Cho} (h : st < 0 ∨ (y.length : Int) ≤ st) : rfs y way st nu c = .tuple [.str "state", .int st] := if_pos h
theorem rfs_choice {y : List (List Cho)} {way : Str} {t : Nat} {nu : Int} {c : Cho} (ht : t < y.length) (hw : way ≠ "add") (h : nu < 0 ∨ ((y.getD t []).length : Int) ≤ nu) : rfs y way (t : Int) nu c = .tuple [.str "choice", .int nu] := by
  unfold rfs
  rw [if_neg (by omega), Int.toNat_natCast, if_pos ⟨hw, h⟩]
theorem rfs_none {y : List (List Cho)} {way : Str} {t : Nat} {nu : Int} {c : Cho} (ht : t < y.length) (h : way = "add" ∨ ∃ u : Nat, nu = (u : Int) ∧ u < (y.getD t []).length) (f : flt (aft y way t nu.toNat c) = .none) : rfs y way (t : Int) nu c = .none := by
  unfold rfs
  rw [if_neg (by omega), Int.toNat_natCast, if_neg, f]
  rintro ⟨h1, h2⟩
  rcases h with h | ⟨u, rfl, h⟩
  · exact h1 h
  · omega
theorem rfs_fault {y : List (List Cho)} {way : Str} {t : Nat} {nu : Int} {c : Cho} (ht : t < y.length) (h : way = "add" ∨ ∃ u : Nat, nu = (u : Int) ∧ u < (y.getD t []).length) (f : flt (aft y way t nu.toNat c) ≠ .none) : rfs y way (t : Int) nu c = .tuple [.str "fault", flt (aft y way t nu.toNat c)] := by
  unfold rfs
  rw [if_neg (by omega), Int.toNat_natCast, if_neg]
  · cases e : flt (aft y way t nu.toNat c) with
    | none => exact absurd e f
    | _ => rfl
  · rintro ⟨h1, h2⟩
    rcases h with h | ⟨u, rfl, h⟩
    · exact h1 h
    · omega
theorem refusal_ok {y : List (List Cho)} {way : Str} {st nu co : Int} {es : List (Int × Int)} {k : PyData → Prop} (hl : y.length ≤ 50000) (hs : ∀ s ∈ y, s.length ≤ 50000) (hw : wayS way) (q : k (rfs y way st nu (co, es))) :
    (den_l_refusal [dY y, edD way st nu co es]).okTo k := by
  unfold den_l_refusal body_l_refusal
  refine w_denP ?_
  walk_at "st"
  have ed : edD way st nu co es = .tuple [.str way, .int st, .int nu, .int co, .tuple (es.map prD)] := rfl
  refine w_cut [some (.dat (dY y)), some (.dat (edD way st nu co es)), none, some (.dat (.str way)), some (.dat (.int st)), some (.dat (.int nu)), some (.dat (.int co)), some (.dat (.tuple (es.map prD)))] ?_ ?_
  · rw [ed]
    walk_at "wv"
  have gl : gLen [dY y] = .ok (.int (y.length : Nat)) := by
    unfold dY gLen
    simp
  refine w_seq (w_ifS ?_)
  refine R.okTo.mono (k := fun p => p = (decide (st < 0 ∨ (y.length : Int) ≤ st), [some (.dat (dY y)), some (.dat (edD way st nu co es)), none, some (.dat (.str way)), some (.dat (.int st)), some (.dat (.int nu)), some (.dat (.int co)), some (.dat (.tuple (es.map prD)))])) ?_ ?_
  · walk_at "wv"
    by_cases c : st < 0
    · refine ifP (decide_eq_true c) ?_
      rw [decide_eq_true (show st < 0 ∨ (y.length : Int) ≤ st from .inl c)]
    · refine ifN (by rw [decide_eq_true_iff]; exact c) ?_
      walk_at "wv"
      refine okTo_eq gl ?_
      walk_at "wv"
      have : decide ((y.length : Int) ≤ st) = decide (st < 0 ∨ (y.length : Int) ≤ st) := by
        rw [decide_eq_decide]
        omega
      rw [← this]
  rintro p rfl
  dsimp only
  by_cases c : st < 0 ∨ (y.length : Int) ≤ st
  · refine ifP (decide_eq_true c) ?_
    walk_at "wv"
    rw [rfs_state c] at q
    exact ⟨by simp, q⟩
  refine ifN (by rw [decide_eq_true_iff]; exact c) ?_
  refine w_next ?_
  obtain ⟨t, rfl⟩ : ∃ t : Nat, st = (t : Int) := ⟨st.toNat, by omega⟩
  have ht : t < y.length := by omega
  refine w_seq (w_ifS ?_)
  refine R.okTo.mono (k := fun p => p = (decide (way ≠ "add" ∧ (nu < 0 ∨ ((y.getD t []).length : Int) ≤ nu)), [some (.dat (dY y)), some (.dat (edD way (t : Int) nu co es)), none, some (.dat (.str way)), some (.dat (.int (t : Int))), some (.dat (.int nu)), some (.dat (.int co)), some (.dat (.tuple (es.map prD)))])) ?_ ?_
  · walk_at "wv"
    by_cases cw : way = "add"
    · refine ifN (by rw [decide_eq_true cw]; decide) ?_
      rw [decide_eq_false (p := way ≠ "add" ∧ (nu < 0 ∨ ((y.getD t []).length : Int) ≤ nu)) fun z => z.1 cw]
    · refine ifP (by rw [decide_eq_false cw]; rfl) ?_
      walk_at "wv"
      by_cases c2 : nu < 0
      · refine ifP (decide_eq_true c2) ?_
        rw [decide_eq_true (p := way ≠ "add" ∧ (nu < 0 ∨ ((y.getD t []).length : Int) ≤ nu)) ⟨cw, .inl c2⟩]
      · refine ifN (by rw [decide_eq_true_iff]; exact c2) ?_
        walk_at "wv"
        refine okTo_eq (dY_at ht) ?_
        walk_at "wv"
        refine okTo_eq (dS_len _ []) ?_
        walk_at "wv"
        have : decide (((y.getD t []).length : Int) ≤ nu) = decide (way ≠ "add" ∧ (nu < 0 ∨ ((y.getD t []).length : Int) ≤ nu)) := by
          rw [decide_eq_decide]
          exact ⟨fun z => ⟨cw, .inr z⟩, fun z => z.2.resolve_left c2⟩
        rw [← this]
  rintro p rfl
  dsimp only
  by_cases c3 : way ≠ "add" ∧ (nu < 0 ∨ ((y.getD t []).length : Int) ≤ nu)
  · refine ifP (decide_eq_true c3) ?_
    walk_at "wv"
    rw [rfs_choice ht c3.1 c3.2] at q
    exact ⟨by simp, q⟩
  refine ifN (by rw [decide_eq_true_iff]; exact c3) ?_
  refine w_next ?_
  have hn : way = "add" ∨ ∃ u : Nat, nu = (u : Int) ∧ u < (y.getD t []).length := by
    by_cases cw : way = "add"
    · exact .inl cw
    · have h3 : ¬ (nu < 0 ∨ ((y.getD t []).length : Int) ≤ nu) := fun z => c3 ⟨cw, z⟩
      exact .inr ⟨nu.toNat, by omega, by omega⟩
  have hn2 : way = "add" ∨ (nu = ((nu.toNat : Nat) : Int) ∧ nu.toNat < (y.getD t []).length) := by
    rcases hn with h | ⟨u, rfl, h⟩
    · exact .inl h
    · exact .inr ⟨by rw [Int.toNat_natCast], by rw [Int.toNat_natCast]; exact h⟩
  walk_at "wv"
  refine ⟨rfl, after_ok (u := nu.toNat) hl hs hw ht hn2 ?_⟩
  refine ⟨rfl, fault_ok ?_⟩
  walk_at "wv"
  by_cases f : flt (aft y way t nu.toNat (co, es)) = .none
  · rw [rfs_none ht hn f] at q
    rw [f]
    refine ifN (by decide) ?_
    walk_at "wv"
    exact q
  · rw [rfs_fault ht hn f] at q
    refine ifP ?_ ?_
    · cases e : flt (aft y way t nu.toNat (co, es)) with
      | none => exact absurd e f
      | _ => rfl
    · walk_at "wv"
      exact ⟨by simp, q⟩
/-- the bench behind an edit -/
def bAft (y : List (List Cho)) (P A : List PyData) (way : Str) (st nu : Int) (c : Cho) : List (Str × FV) := match rfs y way st nu c with
  | .none => bF (dY (aft y way st.toNat nu.toNat c)) (P ++ [.tuple [.int st, dY y]]) []
  | _ => bF (dY y) P A
theorem done_ok {y : List (List Cho)} {P A : List PyData} {way : Str} {st nu co : Int} {es : List (Int × Int)} {k : PyData × List (Str × FV) → Prop} (hl : y.length ≤ 50000) (hs : ∀ s ∈ y, s.length ≤ 50000) (hP : P.length < 100) (hw : wayS way) (q : k (rfs y way st nu (co, es), bAft y P A way st nu (co, es))) :
    (den_l_done (bF (dY y) P A) [edD way st nu co es]).okTo k := by
  unfold den_l_done body_l_done
  refine w_denO ?_
  walk_at "st"
  have ed : edD way st nu co es = .tuple [.str way, .int st, .int nu, .int co, .tuple (es.map prD)] := rfl
  refine w_cut [some (.obj "Bench" (bF (dY y) P A)), some (.dat (edD way st nu co es)), none, some (.dat (.str way)), some (.dat (.int st)), some (.dat (.int nu)), some (.dat (.int co)), some (.dat (.tuple (es.map prD)))] ?_ ?_
  · rw [ed]
    walk_at "wv"
  refine w_then (w_tryR (by rfl) (by rfl) ?_)
  -- the ways out
  have err : ∀ {d : PyData} {cls : String} {arg : Option PyData}, kindD ⟨cls, arg, some (bF (dY y) P A)⟩ = some d → rfs y way st nu (co, es) = d → d ≠ .none → ∃ d' fs, kindD ⟨cls, arg, some (bF (dY y) P A)⟩ = some d' ∧ some (bF (dY y) P A) = some fs ∧ ∃ fs', (some (SV.obj "Bench" fs) :: List.replicate 7 none)[0]? = some (some (SV.obj "Bench" fs')) ∧ k (d', fs') := fun {d cls arg} h1 h2 h3 => by
    refine ⟨d, _, h1, rfl, _, rfl, ?_⟩
    unfold bAft at q
    rw [h2] at q
    cases d with
    | none => exact absurd rfl h3
    | _ => exact q
  have suc : ∀ {t u : Nat} {z : List (List Cho)}, st = (t : Int) → t < y.length → (way = "add" ∨ (nu = (u : Int) ∧ u < (y.getD t []).length)) → z = aft y way t u (co, es) → flt z = .none → k (.none, bF (dY z) (P ++ [.tuple [.int (t : Int), dY y]]) []) := fun {t u z} e ht hn ez f => by
    subst e ez
    have en : aft y way t nu.toNat (co, es) = aft y way t u (co, es) := by
      rcases hn with rfl | ⟨rfl, _⟩
      · unfold aft
        rw [chs_add, chs_add]
      · rw [Int.toNat_natCast]
    have r := rfs_none (c := (co, es)) ht (hn.imp_right fun z => ⟨u, z⟩) (by rw [en]; exact f)
    unfold bAft at q
    rw [r] at q
    rw [Int.toNat_natCast, en] at q
    exact q
  rcases hw with rfl | rfl | rfl
  · refine e_seq (e_ifS ?_)
    walk_at "wv"
    refine ifP (by decide) ?_
    refine e_ret (e_methX (by rfl) bF_add ?_)
    walk_at "wv"
    refine ⟨_, rfl, rfl, add_told hl hs hP (fun h => err (by rfl) (rfs_state h) (fun z => nomatch z)) (fun t e ht f => ⟨_, rfl, ?_⟩) fun t e ht f => ?_⟩
    · exact suc (u := 0) e ht (.inl rfl) (by unfold aft; rw [chs_add]) f
    · subst e
      have f' : flt (aft y "add" t nu.toNat (co, es)) ≠ .none := by
        unfold aft
        rw [chs_add]
        exact f
      have r := rfs_fault (c := (co, es)) ht (.inl rfl) f'
      unfold aft at r
      rw [chs_add] at r
      exact err (by rfl) r (fun z => nomatch z)
  · refine e_seq (e_ifS ?_)
    walk_at "wv"
    refine ifN (by decide) ?_
    refine endsOk (w_next ?_)
    refine e_seq (e_ifS ?_)
    walk_at "wv"
    refine ifP (by decide) ?_
    refine e_ret (e_methX (by rfl) bF_set ?_)
    walk_at "wv"
    refine ⟨_, rfl, rfl, set_told hl hs hP (fun h => err (by rfl) (rfs_state h) (fun z => nomatch z)) (fun t e ht h => ?_) (fun t u e ht e2 hu f => ⟨_, rfl, ?_⟩) fun t u e ht e2 hu f => ?_⟩
    · subst e
      exact err (by rfl) (rfs_choice ht (by decide) h) (fun z => nomatch z)
    · exact suc (u := u) e ht (.inr ⟨e2, hu⟩) (by unfold aft; rw [chs_set]) f
    · subst e e2
      have f' : flt (aft y "set" t ((u : Int)).toNat (co, es)) ≠ .none := by
        unfold aft
        rw [Int.toNat_natCast, chs_set]
        exact f
      have r := rfs_fault (c := (co, es)) ht (.inr ⟨u, rfl, hu⟩) f'
      unfold aft at r
      rw [Int.toNat_natCast, chs_set] at r
      exact err (by rfl) r (fun z => nomatch z)
  · refine e_seq (e_ifS ?_)
    walk_at "wv"
    refine ifN (by decide) ?_
    refine endsOk (w_next ?_)
    refine e_seq (e_ifS ?_)
    walk_at "wv"
    refine ifN (by decide) ?_
    refine endsOk (w_next ?_)
    refine e_ret (e_methX (by rfl) bF_rem ?_)
    walk_at "wv"
    refine ⟨_, rfl, rfl, rem_told hl hs hP (fun h => err (by rfl) (rfs_state h) (fun z => nomatch z)) (fun t e ht h => ?_) (fun t u e ht e2 hu f => ⟨_, rfl, ?_⟩) fun t u e ht e2 hu f => ?_⟩
    · subst e
      exact err (by rfl) (rfs_choice ht (by decide) h) (fun z => nomatch z)
    · exact suc (u := u) e ht (.inr ⟨e2, hu⟩) (by unfold aft; rw [chs_rem]) f
    · subst e e2
      have f' : flt (aft y "remove" t ((u : Int)).toNat (co, es)) ≠ .none := by
        unfold aft
        rw [Int.toNat_natCast, chs_rem]
        exact f
      have r := rfs_fault (c := (co, es)) ht (.inr ⟨u, rfl, hu⟩) f'
      unfold aft at r
      rw [Int.toNat_natCast, chs_rem] at r
      exact err (by rfl) r (fun z => nomatch z)

end
section
/-! ### written systems: a text read -/
open PySem L2 TL

end
section
/-! ### written systems: a text written -/
open PySem L2 TL
def numI (z : Int) : List Nat := numL z.toNat
def endW (e : Int × Int) : List Nat := numI e.1 ++ 58 :: numI e.2
def lineC (c : Cho) : List Nat := numI c.1 ++ c.2.flatMap fun e => 32 :: endW e
def lines (y : List (List Cho)) : List (List Nat) := y.flatMap fun s => STATE :: s.map lineC
structure Num (z : Int) : Prop where
  lo : 0 ≤ z
  hi : z ≤ 1000
theorem Num.len {z : Int} (h : Num z) : (numI z).length ≤ 4 := numL_len (by decide) (by have := h.hi; omega)
theorem Num.small {z : Int} (h : Num z) : z.natAbs < 2 ^ 1900 := Nat.lt_of_lt_of_le (show z.natAbs < 2 ^ 10 from by have := h.lo; have := h.hi; omega) (Nat.pow_le_pow_right (by decide) (by decide))
structure EndN (e : Int × Int) : Prop where
  g : Num e.1
  w : Num e.2
structure ChoN (c : Cho) : Prop where
  cost : Num c.1
  ends : ∀ e ∈ c.2, EndN e
  len : c.2.length ≤ 6
structure SysN (y : List (List Cho)) : Prop where
  ne : 1 ≤ y.length
  len : y.length ≤ 20
  st : ∀ s ∈ y, 1 ≤ s.length ∧ s.length ≤ 6
  cho : ∀ s ∈ y, ∀ c ∈ s, ChoOk y.length 6 c
theorem SysN.num {y : List (List Cho)} (h : SysN y) : ∀ s ∈ y, ∀ c ∈ s, ChoN c := fun s hs c hc => by
  have q := h.cho s hs c hc
  refine ⟨⟨q.cost.1, q.cost.2⟩, fun e he => ?_, q.len⟩
  have := q.ends e he
  have := h.len
  exact ⟨⟨by omega, by omega⟩, ⟨by omega, by omega⟩⟩
theorem endsG_ok {m : Int} : ∀ {es : List (Int × Int)} {b : Int}, (∀ e ∈ es, b < e.1 ∧ e.1 < m ∧ 1 ≤ e.2 ∧ e.2 ≤ 1000) → (es.Pairwise fun x y => x.1 < y.1) → endsG m b es = true
  | [], _, _, _ => rfl
  | e :: es, b, h, hp => by
    obtain ⟨h1, h2, h3, h4⟩ := h e List.mem_cons_self
    rw [List.pairwise_cons] at hp
    show (decide (b < e.1) && decide (e.1 < m) && decide (1 ≤ e.2) && decide (e.2 ≤ 1000) && endsG m e.1 es) = true
    rw [endsG_ok (fun x hx => ⟨hp.1 x hx, (h x (List.mem_cons_of_mem _ hx)).2⟩) hp.2, decide_eq_true h1, decide_eq_true h2, decide_eq_true h3, decide_eq_true h4]
    rfl
theorem ends_true {m : Nat} {c : Cho} (h : ChoOk m 6 c) : endsB (m : Nat) c.2 = true := by
  unfold endsB
  rw [endsG_ok (fun e he => ?_) h.rise, decide_eq_true (show 1 ≤ c.2.length from List.length_pos_iff.mpr h.ne), decide_eq_true h.len]
  · rfl
  · have := h.ends e he
    omega
theorem fltC_none {m : Nat} {st : Int} : ∀ {s : List Cho} {k : Nat}, (∀ c ∈ s, ChoOk m 6 c) → fltC (m : Nat) st k s = .none
  | [], _, _ => rfl
  | c :: s, k, h => by
    have q := h c List.mem_cons_self
    unfold fltC
    rw [if_pos (by rw [decide_eq_true q.cost.1, decide_eq_true q.cost.2]; rfl), if_pos (ends_true q), fltC_none fun x hx => h x (List.mem_cons_of_mem _ hx)]
theorem fltY_none {m : Nat} : ∀ {ss : List (List Cho)} {k : Nat}, (∀ s ∈ ss, (1 ≤ s.length ∧ s.length ≤ 6) ∧ ∀ c ∈ s, ChoOk m 6 c) → fltY (m : Nat) k ss = .none
  | [], _, _ => rfl
  | s :: ss, k, h => by
    have q := h s List.mem_cons_self
    have e : fltS (m : Nat) (k : Nat) s = .none := by
      unfold fltS
      rw [if_pos (by rw [decide_eq_true q.1.1, decide_eq_true q.1.2]; rfl), fltC_none q.2]
    rw [fltY_cons, e, if_pos (show isNone PyData.none = true from rfl), fltY_none fun x hx => h x (List.mem_cons_of_mem _ hx)]
theorem flt_none {y : List (List Cho)} (h : SysN y) : flt y = .none := by
  unfold flt
  rw [if_pos (by rw [decide_eq_true h.ne, decide_eq_true h.len]; rfl), fltY_none fun s hs => ⟨h.st s hs, h.cho s hs⟩]
theorem dn_pr {n : Nat} (e : Int × Int) : Dn (n + 1) (prD e) := .tup (by simp) fun d hd => by
  simp only [List.mem_cons, List.not_mem_nil, or_false] at hd
  rcases hd with rfl | rfl <;> exact .int _ _
theorem dn_cho {n : Nat} {c : Cho} (h : c.2.length ≤ 6) : Dn (n + 3) (dC c) := .tup (by simp) fun d hd => by
  simp only [List.mem_cons, List.not_mem_nil, or_false] at hd
  rcases hd with rfl | rfl
  · exact .int _ _
  · refine .tup (by rw [List.length_map]; omega) fun d hd => ?_
    obtain ⟨e, _, rfl⟩ := List.mem_map.mp hd
    exact dn_pr e
theorem dn_sys {y : List (List Cho)} (h : SysN y) : Dn 6 (dY y) := .tup (by rw [List.length_map]; have := h.len; omega) fun d hd => by
  obtain ⟨s, hs, rfl⟩ := List.mem_map.mp hd
  refine .tup (by rw [List.length_map]; have := (h.st s hs).2; omega) fun d hd => ?_
  obtain ⟨c, hc, rfl⟩ := List.mem_map.mp hd
  exact dn_cho (h.cho s hs c hc).len
theorem sysN_small {y : List (List Cho)} (h : SysOk 3 y.length y) (hl : y.length ≤ 6) : SysN y := ⟨h.ne, h.len, fun s hs => by have := h.st s hs; omega, fun s hs c hc => by
  have q := h.cho s hs c hc
  exact ⟨q.cost, q.ne, by have := q.len; omega, q.ends, q.rise⟩⟩

end
section
/-! ### benches: valid systems, drawn edits -/
open PySem L2 PySem.W
theorem endsG_of {m : Int} : ∀ {es : List (Int × Int)} {b : Int}, endsG m b es = true → (∀ e ∈ es, b < e.1 ∧ e.1 < m ∧ 1 ≤ e.2 ∧ e.2 ≤ 1000) ∧ es.Pairwise fun x y => x.1 < y.1
  | [], b, _ => ⟨fun e h => (by cases h), .nil⟩
  | e :: r, b, h => by
    unfold endsG at h
    simp only [Bool.and_eq_true, decide_eq_true_iff] at h
    obtain ⟨⟨⟨⟨h1, h2⟩, h3⟩, h4⟩, h5⟩ := h
    obtain ⟨i1, i2⟩ := endsG_of h5
    refine ⟨fun x hx => ?_, .cons (fun x hx => (i1 x hx).1) i2⟩
    rcases List.mem_cons.mp hx with rfl | hx
    · exact ⟨h1, h2, h3, h4⟩
    · have := i1 x hx
      omega
theorem fltC_cho {m : Nat} {st : Int} : ∀ {s : List Cho} {k : Nat}, fltC (m : Nat) st k s = .none → ∀ c ∈ s, ChoOk m 6 c
  | [], k, _, c, h => by cases h
  | x :: r, k, e, c, h => by
    unfold fltC at e
    split at e
    · rename_i h1
      split at e
      · rename_i h2
        rcases List.mem_cons.mp h with rfl | h
        · unfold endsB at h2
          simp only [Bool.and_eq_true, decide_eq_true_iff] at h1 h2
          obtain ⟨i1, i2⟩ := endsG_of h2.2
          refine ⟨h1, fun z => ?_, h2.1.2, fun e he => ?_, i2⟩
          · rw [z] at h2
            simp at h2
          · have := i1 e he
            omega
        · exact fltC_cho e c h
      · cases e
    · cases e
theorem fltY_all {m : Nat} : ∀ {y : List (List Cho)} {k : Nat}, fltY (m : Nat) k y = .none → ∀ s ∈ y, (1 ≤ s.length ∧ s.length ≤ 6) ∧ ∀ c ∈ s, ChoOk m 6 c
  | [], k, _, s, h => by cases h
  | x :: r, k, e, s, h => by
    rw [fltY_cons] at e
    by_cases c : isNone (fltS (m : Nat) (k : Nat) x) = true
    · rw [if_pos c] at e
      rcases List.mem_cons.mp h with rfl | h
      · have z : fltS (m : Nat) (k : Nat) s = .none := by
          cases q : fltS (m : Nat) (k : Nat) s with
          | none => rfl
          | _ => rw [q] at c; cases c
        unfold fltS at z
        split at z
        · rename_i h1
          simp only [Bool.and_eq_true, decide_eq_true_iff] at h1
          exact ⟨h1, fltC_cho z⟩
        · cases z
      · exact fltY_all e s h
    · rw [if_neg c] at e
      rw [e] at c
      exact absurd rfl c
theorem flt_sys {y : List (List Cho)} (h : flt y = .none) : SysN y := by
  unfold flt at h
  split at h
  · rename_i h1
    simp only [Bool.and_eq_true, decide_eq_true_iff] at h1
    have z := fltY_all h
    exact ⟨h1.1, h1.2, fun s hs => (z s hs).1, fun s hs => (z s hs).2⟩
  · cases h
theorem w_denBW {N : Nat} {fs : VS} {bs ds : List PyData} {k : PyData × List PyData → Prop} (h : (fs (some (.own bs) :: startS (N - 1) ds)).okTo fun fl => match fl with
    | .nx S => ∃ cs, S.head? = some (some (.own cs)) ∧ k (.none, cs)
    | .rt d S => ∃ cs, S.head? = some (some (.own cs)) ∧ k (d, cs)
    | _ => False) : (denB N fs bs ds).okTo k := by
  unfold denB endB
  refine okTo_bind.mpr (h.mono fun fl q => ?_)
  cases fl with
  | nx S =>
    obtain ⟨cs, e, q⟩ := q
    cases S with
    | nil => cases e
    | cons x S => cases e; exact q
  | rt d S =>
    obtain ⟨cs, e, q⟩ := q
    cases S with
    | nil => cases e
    | cons x S => cases e; exact q
  | bk S => exact q.elim
  | ct S => exact q.elim
theorem gInt_b (b : Bool) : ∃ z : Int, (0 ≤ z ∧ z ≤ 1) ∧ gInt [.bool b] = .ok (.int z) := by
  cases b
  · exact ⟨0, by decide, rfl⟩
  · exact ⟨1, by decide, rfl⟩
theorem edit_ok {ts : List Int} {n : Int} {y : List (List Cho)} {bs : List PyData} {k : PyData × List PyData → Prop} (b : Box ts n bs) (hn : n ≤ 2 ^ 36) (hy : SysN y)
    (h : ∀ (way : Str) (st nu co : Int) (es : List (Int × Int)) bs', wayS way → Box ts (n + 100) bs' → k (edD way st nu co es, bs')) : (den_l_edit bs [dY y]).okTo k := by
  have y1 := hy.ne
  have y2 := hy.len
  unfold den_l_edit body_l_edit
  refine w_denBW ?_
  walk_at "st"
  have gl : gLen [dY y] = .ok (.int (y.length : Nat)) := by
    unfold dY gLen
    simp
  walk_at "wv"
  refine okTo_eq gl ?_
  walk_at "wv"
  refine ⟨rfl, take_ok b (by omega) (by omega) fun r1 bs1 a1 a2 b1 => ?_⟩
  walk_at "wv"
  refine ⟨rfl, take_ok b1 (by omega) (by decide) fun r2 bs2 a3 a4 b2 => ?_⟩
  walk_at "wv"
  obtain ⟨z1, hz1, e1⟩ := gInt_b (decide (r2 = 0))
  refine okTo_eq e1 (w_gI (w_aName ?_))
  refine w_seq (w_asg (w_c (w_aName ?_)))
  refine w_seq (R.okTo.mono (k := fun fl => ∃ sz : Nat, fl = .nx [some (.own bs2), some (.dat (dY y)), some (.dat (.int (r1 - z1))), some (.dat (.int (sz : Nat))), none, none, none]) ?_ ?_)
  · refine w_ifS (w_tst (w_chain ?_))
    walk_at "wv"
    by_cases c1 : 0 ≤ r1 - z1
    · refine ifP (decide_eq_true c1) ?_
      walk_at "wv"
      refine okTo_eq gl ?_
      walk_at "wv"
      by_cases c2 : r1 - z1 < (y.length : Int)
      · refine ifP (decide_eq_true c2) ?_
        obtain ⟨t, ht⟩ : ∃ t : Nat, r1 - z1 = (t : Int) := ⟨(r1 - z1).toNat, by omega⟩
        rw [ht]
        walk_at "wv"
        refine okTo_eq (dY_at (by omega)) ?_
        walk_at "wv"
        refine okTo_eq (dS_len _ []) ?_
        walk_at "wv"
        exact ⟨_, rfl⟩
      · refine ifN (by rw [decide_eq_true_iff]; exact c2) ?_
        walk_at "wv"
        exact ⟨2, rfl⟩
    · rw [decide_eq_false c1]
      simp only [Bool.false_eq_true, if_false]
      walk_at "wv"
      exact ⟨2, rfl⟩
  rintro fl ⟨sz, rfl⟩
  dsimp only
  refine w_seq (w_asg (w_op (w_callB ?_)))
  walk_at "wv"
  refine ⟨rfl, take_ok b2 (by omega) (by omega) fun r3 bs3 a5 a6 b3 => ?_⟩
  walk_at "wv"
  refine ⟨rfl, take_ok b3 (by omega) (by decide) fun r4 bs4 a7 a8 b4 => ?_⟩
  walk_at "wv"
  obtain ⟨z2, hz2, e2⟩ := gInt_b (decide (r4 = 0))
  refine okTo_eq e2 (w_gI (w_aName ?_))
  refine w_seq (w_asg (w_op (w_lst ?_)))
  walk_at "wv"
  refine ⟨by simp, ?_⟩
  refine w_callB ?_
  walk_at "wv"
  refine ⟨rfl, take_ok b4 (by omega) (by decide) fun r5 bs5 a9 a10 b5 => ?_⟩
  walk_at "wv"
  obtain ⟨z3, hz3, e3⟩ := gInt_b (decide (r5 = 0))
  refine okTo_eq e3 ?_
  walk_at "wv"
  refine ⟨cMulS_l (by decide), ?_⟩
  walk_at "wv"
  refine ⟨rfl, take_ok b5 (by omega) (by omega) fun r6 bs6 a11 a12 b6 => ?_⟩
  refine w_gIxL ?_
  refine pick_ok (ns := [0, 1, 3, 1000, 1001, 0 - 1]) a11 (by simp; omega) fun co hco => ?_
  refine w_aName ?_
  refine w_seq (w_asg (w_callB ?_))
  walk_at "wv"
  refine okTo_eq gl ?_
  walk_at "wv"
  refine ⟨rfl, ends_ok b6 ⟨y1, y2⟩ (by omega) fun es bs7 _ el _ _ b7 => ?_⟩
  refine w_aName ?_
  refine w_seq (R.okTo.mono (k := fun fl => ∃ (es : List (Int × Int)) (bs : List PyData), Box ts (n + 80) bs ∧ fl = .nx [some (.own bs), some (.dat (dY y)), some (.dat (.int (r1 - z1))), some (.dat (.int (sz : Nat))), some (.dat (.int (r3 - z2))), some (.dat (.int co)), some (.dat (.tuple (es.map prD)))]) ?_ ?_)
  · refine w_ifS ?_
    walk_at "wv"
    refine ⟨rfl, take_ok b7 (by omega) (by decide) fun r7 bs8 a13 a14 b8 => ?_⟩
    walk_at "wv"
    by_cases c : r7 = 0
    · refine ifP (decide_eq_true c) ?_
      refine w_asg (w_op (w_lst ?_))
      walk_at "wv"
      refine ⟨by simp, ?_⟩
      walk_at "wv"
      refine okTo_eq gl ?_
      walk_at "wv"
      have el2 : es.length ≤ 20 := by omega
      refine ⟨by simp, ?_⟩
      walk_at "wv"
      refine ⟨by simp, w_gCatT ⟨by simp only [List.length_append, List.length_map, List.length_cons, List.length_nil]; omega, ?_⟩⟩
      refine w_cons (w_op (w_sl ?_))
      walk_at "wv"
      have sl1 : cutD (es.map prD) none (some 1) = (es.take 1).map prD := by
        have : cutD (es.map prD) none (some 1) = (es.map prD).take 1 := by
          cases es with
          | nil => rfl
          | cons e r => exact cutTo ((e :: r).map prD) 1 (by simp)
        rw [this, ← List.map_take]
      rw [sl1]
      refine ⟨by simp only [List.length_map, List.length_take]; omega, ?_⟩
      walk_at "wv"
      refine ⟨by simp, ?_⟩
      walk_at "wv"
      refine ⟨by simp, by simp, ?_⟩
      refine w_callB ?_
      walk_at "wv"
      refine ⟨rfl, take_ok b8 (by omega) (by decide) fun r8 bs9 a15 a16 b9 => ?_⟩
      have r4 : r8 = 0 ∨ r8 = 1 ∨ r8 = 2 ∨ r8 = 3 := by omega
      rcases r4 with rfl | rfl | rfl | rfl
      · refine okTo_eq (a := .tuple []) rfl (w_aName ?_)
        exact ⟨[], bs9, b9.up (by omega), rfl⟩
      · refine okTo_eq (a := .tuple (es.map prD ++ [.tuple [.int (y.length : Nat), .int 1]])) rfl (w_aName ?_)
        refine ⟨es ++ [(((y.length : Nat) : Int), 1)], bs9, b9.up (by omega), ?_⟩
        rw [List.map_append]
        rfl
      · refine okTo_eq (a := .tuple ((es.take 1).map prD ++ es.map prD)) rfl (w_aName ?_)
        refine ⟨es.take 1 ++ es, bs9, b9.up (by omega), ?_⟩
        rw [List.map_append]
        rfl
      · refine okTo_eq (a := .tuple [.tuple [.int 0, .int 0]]) rfl (w_aName ?_)
        exact ⟨[(0, 0)], bs9, b9.up (by omega), rfl⟩
    · refine ifN (by rw [decide_eq_true_iff]; exact c) ?_
      exact ⟨es, bs8, b8.up (by omega), rfl⟩
  rintro fl ⟨es2, bs8, b8, rfl⟩
  dsimp only
  refine w_ret ?_
  walk_at "wv"
  refine ⟨by simp, ?_⟩
  refine w_callB ?_
  walk_at "wv"
  refine ⟨rfl, take_ok b8 (by omega) (by decide) fun r8 bs9 a15 a16 b9 => ?_⟩
  have r4 : r8 = 0 ∨ r8 = 1 ∨ r8 = 2 := by omega
  rcases r4 with rfl | rfl | rfl
  · refine okTo_eq (a := .str "add") rfl ?_
    walk_at "wv"
    exact ⟨by simp, _, rfl, h "add" _ _ _ _ _ (.inl rfl) (b9.up (by omega))⟩
  · refine okTo_eq (a := .str "set") rfl ?_
    walk_at "wv"
    exact ⟨by simp, _, rfl, h "set" _ _ _ _ _ (.inr (.inl rfl)) (b9.up (by omega))⟩
  · refine okTo_eq (a := .str "remove") rfl ?_
    walk_at "wv"
    exact ⟨by simp, _, rfl, h "remove" _ _ _ _ _ (.inr (.inr rfl)) (b9.up (by omega))⟩
/-- a bench of what is no system is refused -/
theorem refused_ok {y : List (List Cho)} {k : PyData → Prop} (f : flt y ≠ .none) (sh : SeqAt.shaped (flt y) = true) (el : PyData.eqv (flt y) (flt y) = true) (q : k (.bool true)) : (den_l_refused [dY y]).okTo k := by
  unfold den_l_refused
  dsimp only
  have h : (den_Bench_init [] [dY y]).ends (fun _ => False) fun e => e = ⟨"InvalidSystem", some (flt y), some []⟩ := init_ok (fun z => absurd z f) fun _ => rfl
  cases e : den_Bench_init [] [dY y] with
  | ok z =>
    rw [e] at h
    exact h.elim
  | bad =>
    rw [e] at h
    exact h.elim
  | err x =>
    rw [e] at h
    have h : x = ⟨"InvalidSystem", some (flt y), some []⟩ := h
    subst h
    dsimp only
    rw [if_pos rfl]
    refine okTo_bind.mpr (fault_ok ?_)
    unfold gEqD
    refine okTo_when.mpr ⟨⟨sh, sh⟩, okTo_ok.mpr ?_⟩
    rw [el]
    exact q
theorem fltY_app {m : Nat} : ∀ {a r : List (List Cho)} {k : Nat}, (∀ s ∈ a, (1 ≤ s.length ∧ s.length ≤ 6) ∧ ∀ c ∈ s, ChoOk m 6 c) → fltY (m : Nat) k (a ++ r) = fltY (m : Nat) (k + a.length) r
  | [], r, k, _ => rfl
  | s :: a, r, k, h => by
    have hs := h s List.mem_cons_self
    have z : fltS (m : Nat) (k : Nat) s = .none := by
      unfold fltS
      rw [decide_eq_true hs.1.1, decide_eq_true hs.1.2]
      exact fltC_none hs.2
    rw [List.cons_append, fltY_cons, z, if_pos (show isNone PyData.none = true from rfl), fltY_app fun s q => h s (List.mem_cons_of_mem _ q), List.length_cons]
    congr 1
    omega
theorem flt_hole {y : List (List Cho)} {t : Nat} (hy : SysN y) (ht : t < y.length) : flt (y.set t []) = .tuple [.str "choices", .int (t : Int)] := by
  have y1 := hy.ne
  have y2 := hy.len
  unfold flt
  rw [List.length_set, decide_eq_true y1, decide_eq_true y2, if_pos (by rfl)]
  rw [List.set_eq_take_append_cons_drop, if_pos ht, fltY_app fun s hs => ⟨hy.st s (List.mem_of_mem_take hs), hy.cho s (List.mem_of_mem_take hs)⟩]
  rw [List.length_take, Nat.min_eq_left (by omega), Nat.zero_add, fltY_cons]
  rfl

end
section
/-! ### benches: the law of changes -/
open PySem L2 PySem.W
theorem w_denS43 {N : Nat} {fs : VS} {ns : List Int} {kD : PyData → Prop} (h : (fs (some (.scr ns) :: List.replicate (N - 1) none)).okTo fun fl => match fl with
    | .nx _ => kD .none
    | .rt d _ => kD d
    | _ => False) : (denS N fs ns).okTo kD := by
  unfold denS
  refine okTo_bind.mpr (h.mono fun fl q => ?_)
  cases fl with
  | nx S => exact q
  | rt d S => exact q
  | bk S => exact q.elim
  | ct S => exact q.elim
abbrev Sys := List (List Cho)
def pD (p : Int × Sys) : PyData := .tuple [.int p.1, dY p.2]
def yD (p : Int × Sys) : PyData := dY p.2
theorem dn43_t2 {n : Nat} {x : Str} {d : PyData} (h : Dn n d) : Dn (n + 1) (.tuple [.str x, d]) := .tup (by simp) fun e he => by
  simp only [List.mem_cons, List.not_mem_nil, or_false] at he
  rcases he with rfl | rfl
  · exact .str _ _
  · exact h
theorem dn43_t3 {n : Nat} {x : Str} {i j : Int} : Dn (n + 1) (.tuple [.str x, .int i, .int j]) := .tup (by simp) fun d hd => by
  simp only [List.mem_cons, List.not_mem_nil, or_false] at hd
  rcases hd with rfl | rfl | rfl
  · exact .str _ _
  · exact .int _ _
  · exact .int _ _
theorem dn43_fltC {m st : Int} : ∀ {l : List Cho} {k : Nat}, Dn 5 (fltC m st k l)
  | [], _ => .non _
  | c :: r, k => by
    unfold fltC
    split
    · split
      · exact dn43_fltC
      · exact dn43_t3
    · exact dn43_t3
theorem dn43_fltS {m st : Int} {s : List Cho} : Dn 5 (fltS m st s) := by
  unfold fltS
  split
  · exact dn43_fltC
  · exact dn43_t2 (.int _ _)
theorem dn43_fltY {m : Int} : ∀ {y : List (List Cho)} {k : Nat}, Dn 5 (fltY m k y)
  | [], _ => .non _
  | s :: r, k => by
    rw [fltY_cons]
    split
    · exact dn43_fltY
    · exact dn43_fltS
theorem dn43_flt {y : List (List Cho)} : Dn 5 (flt y) := by
  unfold flt
  split
  · exact dn43_fltY
  · exact .tup (by simp) fun d hd => by
      rw [List.mem_singleton.mp hd]
      exact .str _ _

theorem rfs_inv {y : List (List Cho)} {way : Str} {st nu : Int} {c : Cho} (h : rfs y way st nu c = .none) : ∃ t : Nat, st = (t : Int) ∧ t < y.length ∧ (way = "add" ∨ (nu = ((nu.toNat : Nat) : Int) ∧ nu.toNat < (y.getD t []).length)) ∧ flt (aft y way t nu.toNat c) = .none := by
  unfold rfs at h
  by_cases c1 : st < 0 ∨ (y.length : Int) ≤ st
  · rw [if_pos c1] at h
    cases h
  rw [if_neg c1] at h
  by_cases c2 : way ≠ "add" ∧ (nu < 0 ∨ ((y.getD st.toNat []).length : Int) ≤ nu)
  · rw [if_pos c2] at h
    cases h
  rw [if_neg c2] at h
  refine ⟨st.toNat, by omega, by omega, ?_, ?_⟩
  · by_cases cw : way = "add"
    · exact .inl cw
    · have h3 : ¬ (nu < 0 ∨ ((y.getD st.toNat []).length : Int) ≤ nu) := fun z => c2 ⟨cw, z⟩
      exact .inr ⟨by omega, by omega⟩
  · cases e : flt (aft y way st.toNat nu.toNat c) with
    | none => rfl
    | _ =>
      rw [e] at h
      cases h
theorem dn_rfs {y : List (List Cho)} {way : Str} {st nu : Int} {c : Cho} : Dn 7 (rfs y way st nu c) := by
  unfold rfs
  split
  · exact .tup (by simp) fun d h => by
      simp only [List.mem_cons, List.not_mem_nil, or_false] at h
      rcases h with rfl | rfl
      · exact .str _ _
      · exact .int _ _
  split
  · exact .tup (by simp) fun d h => by
      simp only [List.mem_cons, List.not_mem_nil, or_false] at h
      rcases h with rfl | rfl
      · exact .str _ _
      · exact .int _ _
  have f := dn43_flt (y := aft y way st.toNat nu.toNat c)
  split
  · exact .non _
  · exact .tup (by simp) fun d h => by
      simp only [List.mem_cons, List.not_mem_nil, or_false] at h
      rcases h with rfl | rfl
      · exact .str _ _
      · exact f.up
theorem bAft_err {y : List (List Cho)} {P A : List PyData} {way : Str} {st nu : Int} {c : Cho} (h : isNone (rfs y way st nu c) = false) : bAft y P A way st nu c = bF (dY y) P A := by
  unfold bAft
  cases e : rfs y way st nu c with
  | none => rw [e] at h; cases h
  | _ => rfl
theorem rfs_form {y : List (List Cho)} {way : Str} {st nu : Int} {c : Cho} : rfs y way st nu c = .none ∨ isNone (rfs y way st nu c) = false := by
  cases e : rfs y way st nu c with
  | none => exact .inl rfl
  | _ => exact .inr rfl
theorem sh_a (t : Int) : SeqAt.shaped (PyData.tuple [PyData.str (Str.ofString "choices"), PyData.int t]) = true := by
  unfold SeqAt.shaped
  rw [Bool.and_eq_true, decide_eq_true_iff]
  refine ⟨?_, ?_⟩
  · simp only [PyData.canLay0, PyData.canLayAll0, Bool.and_true]
    decide +kernel
  · simp [PyData.depth, PyData.depthAll]
theorem sh_b : SeqAt.shaped (PyData.tuple [PyData.str (Str.ofString "states")]) = true := by
  unfold SeqAt.shaped
  rw [Bool.and_eq_true, decide_eq_true_iff]
  refine ⟨?_, ?_⟩
  · simp only [PyData.canLay0, PyData.canLayAll0, Bool.and_true]
    decide +kernel
  · simp [PyData.depth, PyData.depthAll]
/-- the law's slots within a turn, behind its step -/
def Mid43 (ns ts : List Int) (i : Nat) (way : Int) (fl : FL) : Prop := ∃ (bs : List PyData) (y : Sys) (P A : List (Int × Sys)), fl = .nx [some (.scr ns), some (.own bs), some (.dat (dY y)), some (.obj "Bench" (bF (dY y) (P.map pD) (A.map pD))), some (.own (P.map yD)), some (.own (A.map yD)), some (.dat (.int (0 + (i : Nat)))), none, some (.dat (.int way)), none, none] ∧
      Box ts (10001 + 200 * (i : Nat) + 150) bs ∧ SysN y ∧ (∀ p ∈ P, SysN p.2) ∧ (∀ p ∈ A, SysN p.2) ∧ P.length ≤ i + 1 ∧ A.length ≤ i + 1
theorem snoc_or {α : Type} (P : List α) : P = [] ∨ ∃ Q p, P = Q ++ [p] := by
  rcases List.eq_nil_or_concat P with h | ⟨Q, p, h⟩
  · exact .inl h
  · exact .inr ⟨Q, p, by rw [h, List.concat_eq_append]⟩
theorem w_popL {S : SS} {i : Nat} {ds : List PyData} {d : PyData} {kE : PyData × SS → Prop} (h : S[i]? = some (some (.own ds))) (l : ds[ds.length - 1]? = some d) (q : kE (d, S.set i (some (.own ds.dropLast)))) : (vPop i S).okTo kE := by
  unfold vPop ownD
  rw [h]
  show (match ds[ds.length - 1]? with | some d => _ | none => _ : R _).okTo kE
  rw [l]
  exact q
theorem last_pop (Q : List (Int × Sys)) (p : Int × Sys) : ((Q ++ [p]).map yD)[((Q ++ [p]).map yD).length - 1]? = some (dY p.2) := by
  rw [List.map_append]
  exact last_get (Q.map yD) (yD p)
theorem law_worth {ns : List Int} (hl : ns.length ≤ 63) : (den_law ns).okTo fun z => z = .bool true := by
  unfold den_law body_law
  refine w_denS43 ?_
  simp only [Nat.reduceSub, List.replicate_succ, List.replicate_zero]
  walk_at "wv"
  refine tape_ok hl fun ts ht => ?_
  walk_at "wv"
  refine ⟨by simp, ?_⟩
  have b : Box ts 0 [dL ts, .int 0] := ⟨ht, 0, Int.le_refl _, Int.le_refl _, rfl⟩
  walk_at "wv"
  refine ⟨rfl, system_ok b (by omega) (by decide) fun y bs1 hy yl b1 => ?_⟩
  have yn := sysN_small hy (by omega)
  walk_at "wv"
  refine w_make ?_
  walk_at "wv"
  have ini : (den_Bench_init [] [dY y]).okTo fun z => z = (.none, bF (dY y) [] []) := by
    have h : (den_Bench_init [] [dY y]).ends (fun z => z = (.none, bF (dY y) [] [])) fun _ => False := init_ok (fun _ => rfl) fun z => z (flt_none yn)
    cases e : den_Bench_init [] [dY y] with
    | ok z => rw [e] at h; exact h
    | bad => rw [e] at h; exact h.elim
    | err x => rw [e] at h; exact h.elim
  refine ⟨⟨rfl, rfl⟩, ini.mono fun z e => ?_⟩
  subst e
  refine ⟨rfl, ?_⟩
  walk_at "wv"
  refine ⟨by simp, ?_⟩
  refine w_seq (w_ownS (w_lstF (w_nil ⟨by simp, ?_⟩)))
  simp only [List.set_cons_zero, List.set_cons_succ]
  refine w_seq (w_then (w_for ?_))
  walk_at "wv"
  refine ⟨rfl, take_ok b1 (by omega) (by decide) fun r bs2 r0 r1 b2 => ?_⟩
  walk_at "wv"
  refine ⟨_, rfl, ⟨by omega, by omega⟩, ?_⟩
  refine loop_ok (fun i S => ∃ (bs : List PyData) (y : Sys) (P A : List (Int × Sys)), S = [some (.scr ns), some (.own bs), some (.dat (dY y)), some (.obj "Bench" (bF (dY y) (P.map pD) (A.map pD))), some (.own (P.map yD)), some (.own (A.map yD)), none, none, none, none, none] ∧
    Box ts (10001 + 200 * (i : Nat)) bs ∧ SysN y ∧ (∀ p ∈ P, SysN p.2) ∧ (∀ p ∈ A, SysN p.2) ∧ P.length ≤ i ∧ A.length ≤ i) ?_ ?_ ⟨bs2, y, [], [], rfl, b2.up (by omega), yn, (fun p h => nomatch h), (fun p h => nomatch h), Nat.le_refl _, Nat.le_refl _⟩
  · rintro i d S hi ⟨bs, y, P, A, rfl, b, hy, hP, hA, lP, lA⟩
    obtain ⟨hi1, rfl⟩ := rangeD_get hi
    have hi2 : i < 16 := by omega
    refine w_aName ?_
    simp only [List.set_cons_zero, List.set_cons_succ]
    refine w_then ?_
    refine w_seq (w_asg (w_callB ?_))
    walk_at "wv"
    refine ⟨rfl, take_ok b (by omega) (by decide) fun way bs3 w0 w1 b3 => ?_⟩
    refine w_aName ?_
    simp only [List.set_cons_zero, List.set_cons_succ]
    refine w_seq (R.okTo.mono (k := Mid43 ns ts i way) ?_ ?_)
    · refine w_then (w_ifS ?_)
      walk_at "wv"
      by_cases c0 : way = 0
      · refine ifP (decide_eq_true c0) ?_
        refine w_seq (w_ifS (w_tnot (w_tst (w_callP (w_cons (w_meth (by rfl) bF_undo ?_))))))
        walk_at "wv"
        rcases snoc_or P with rfl | ⟨Q, p, rfl⟩
        · refine ⟨_, rfl, rfl, undo_none ?_⟩
          walk_at "wv"
          refine ⟨rfl, okTo_eq (denEq_ok rfl (.bl _ _)) ?_⟩
          walk_at "wv"
          refine ifN (by simp) ?_
          walk_at "wv"
          exact ⟨bs3, y, [], A, rfl, b3.up (by omega), hy, hP, hA, by omega, by omega⟩
        · refine ⟨_, rfl, rfl, ?_⟩
          rw [show (Q ++ [p]).map pD = Q.map pD ++ [.tuple [.int p.1, dY p.2]] from List.map_append]
          refine undo_some (by rw [List.length_map]; omega) ?_
          walk_at "wv"
          have e1 : decide ((0 : Int) < (((Q ++ [p]).map yD).length : Int)) = true := by
            rw [decide_eq_true_iff, List.length_map, List.length_append, List.length_singleton]
            omega
          rw [e1]
          refine ⟨rfl, okTo_eq (denEq_ok rfl (.bl _ _)) ?_⟩
          walk_at "wv"
          refine ifP e1 ?_
          walk_at "wv"
          refine ⟨by rw [List.length_map]; omega, w_asg (w_popL (by rfl) (last_pop Q p) (w_aName ?_))⟩
          refine ⟨bs3, p.2, Q, A ++ [(p.1, y)], ?_, b3.up (by omega), hP p (by simp), fun q hq => hP q (by simp [hq]), fun q hq => ?_, by simp at lP; omega, by simp; omega⟩
          · simp only [List.map_append, List.set_cons_zero, List.set_cons_succ, List.map_cons, List.map_nil, List.dropLast_concat]
            rfl
          · rcases List.mem_append.mp hq with h | h
            · exact hA q h
            · rw [List.mem_singleton.mp h]
              exact hy
      · refine ifN (by rw [decide_eq_true_iff]; exact c0) ?_
        refine w_then (w_ifS ?_)
        walk_at "wv"
        by_cases c1 : way = 1
        · refine ifP (decide_eq_true c1) ?_
          refine w_seq (w_ifS (w_tnot (w_tst (w_callP (w_cons (w_meth (by rfl) bF_redo ?_))))))
          walk_at "wv"
          rcases snoc_or A with rfl | ⟨Q, p, rfl⟩
          · refine ⟨_, rfl, rfl, redo_none ?_⟩
            walk_at "wv"
            refine ⟨rfl, okTo_eq (denEq_ok rfl (.bl _ _)) ?_⟩
            walk_at "wv"
            refine ifN (by simp) ?_
            walk_at "wv"
            exact ⟨bs3, y, P, [], rfl, b3.up (by omega), hy, hP, hA, by omega, by omega⟩
          · refine ⟨_, rfl, rfl, ?_⟩
            rw [show (Q ++ [p]).map pD = Q.map pD ++ [.tuple [.int p.1, dY p.2]] from List.map_append]
            refine redo_some (by rw [List.length_map]; omega) ?_
            walk_at "wv"
            have e1 : decide ((0 : Int) < (((Q ++ [p]).map yD).length : Int)) = true := by
              rw [decide_eq_true_iff, List.length_map, List.length_append, List.length_singleton]
              omega
            rw [e1]
            refine ⟨rfl, okTo_eq (denEq_ok rfl (.bl _ _)) ?_⟩
            walk_at "wv"
            refine ifP e1 ?_
            walk_at "wv"
            refine ⟨by rw [List.length_map]; omega, w_asg (w_popL (by rfl) (last_pop Q p) (w_aName ?_))⟩
            refine ⟨bs3, p.2, P ++ [(p.1, y)], Q, ?_, b3.up (by omega), hA p (by simp), fun q hq => ?_, fun q hq => hA q (by simp [hq]), by simp; omega, by simp at lA; omega⟩
            · simp only [List.map_append, List.set_cons_zero, List.set_cons_succ, List.map_cons, List.map_nil, List.dropLast_concat]
              rfl
            · rcases List.mem_append.mp hq with h | h
              · exact hP q h
              · rw [List.mem_singleton.mp h]
                exact hy
        · refine ifN (by rw [decide_eq_true_iff]; exact c1) ?_
          walk_at "wv"
          refine ⟨rfl, edit_ok b3 (by omega) hy fun wy st nu co es bs4 hw b4 => ?_⟩
          walk_at "wv"
          have yl2 : y.length ≤ 50000 := by have := hy.len; omega
          have ys2 : ∀ s ∈ y, s.length ≤ 50000 := fun s hs => by have := (hy.st s hs).2; omega
          refine ⟨rfl, refusal_ok yl2 ys2 hw ?_⟩
          refine w_aName ?_
          refine w_seq (w_ifS (w_tnot (w_tst (w_callP (w_cons (w_callO (by rfl) ?_))))))
          walk_at "wv"
          refine ⟨_, rfl, rfl, done_ok yl2 ys2 (by rw [List.length_map]; omega) hw ?_⟩
          walk_at "wv"
          refine ⟨rfl, okTo_eq (denEq_ok rfl dn_rfs) ?_⟩
          walk_at "wv"
          rcases rfs_form (y := y) (way := wy) (st := st) (nu := nu) (c := (co, es)) with hr | hr
          · obtain ⟨t, rfl, ht, hn, hf⟩ := rfs_inv hr
            rw [hr]
            refine ifP (by rfl) ?_
            unfold bAft
            rw [hr]
            dsimp only
            walk_at "wv"
            refine ⟨by rw [List.length_map]; omega, ?_⟩
            walk_at "wv"
            refine ⟨by simp, w_asg (w_callP ?_)⟩
            walk_at "wv"
            refine ⟨rfl, after_ok (u := nu.toNat) yl2 ys2 hw ht hn ?_⟩
            refine w_aName ?_
            refine ⟨bs4, aft y wy t nu.toNat (co, es), P ++ [((t : Int), y)], [], ?_, b4.up (by omega), flt_sys hf, fun q hq => ?_, (fun q hq => nomatch hq), by simp; omega, by simp⟩
            · simp only [List.map_append, List.set_cons_zero, List.set_cons_succ, List.map_cons, List.map_nil, Int.toNat_natCast]
              rfl
            · rcases List.mem_append.mp hq with h | h
              · exact hP q h
              · rw [List.mem_singleton.mp h]
                exact hy
          · rw [hr]
            refine ifN (by decide) ?_
            walk_at "wv"
            refine ⟨bs4, y, P, A, ?_, b4.up (by omega), hy, hP, hA, by omega, by omega⟩
            rw [bAft_err hr]
    · rintro fl ⟨bs4, y2, P2, A2, rfl, b4, hy2, hP2, hA2, lP2, lA2⟩
      dsimp only
      refine w_ifS (w_tnot (w_tst (w_callP (w_cons (w_lst (w_cons (w_meth (by rfl) bF_sys (w_nil ⟨_, rfl, rfl, sys_told ?_⟩))))))))
      simp only [List.set_cons_zero, List.set_cons_succ]
      refine w_cons (w_meth (by rfl) bF_chs (w_nil ⟨_, rfl, rfl, changes_told ?_⟩))
      simp only [List.set_cons_zero, List.set_cons_succ]
      refine w_cons (w_meth (by rfl) bF_und (w_nil ⟨_, rfl, rfl, undone_told ?_⟩))
      simp only [List.set_cons_zero, List.set_cons_succ]
      walk_at "wv"
      rw [List.length_map, List.length_map]
      refine ⟨by simp, ?_⟩
      walk_at "wv"
      rw [List.length_map, List.length_map]
      refine ⟨by simp, rfl, okTo_eq (denEq_ok rfl ?_) ?_⟩
      · exact .lst (by simp) fun d h => by
          simp only [List.mem_cons, List.not_mem_nil, or_false] at h
          rcases h with rfl | rfl | rfl
          · exact dn_sys hy2
          · exact .int _ _
          · exact .int _ _
      walk_at "wv"
      exact ⟨bs4, y2, P2, A2, rfl, b4.up (by omega), hy2, hP2, hA2, lP2, lA2⟩
  · rintro S ⟨bs, y, P, A, rfl, b, hy, hP, hA, lP, lA⟩
    rw [rangeD_len] at b
    walk_at "wv"
    have gl : gLen [dY y] = .ok (.int (y.length : Nat)) := by
      unfold dY gLen
      simp
    have y1 := hy.ne
    have y2 := hy.len
    refine okTo_eq gl ?_
    walk_at "wv"
    refine ⟨rfl, take_ok b (by omega) (by omega) fun q bs3 q0 q1 b3 => ?_⟩
    obtain ⟨t, rfl⟩ : ∃ t : Nat, q = (t : Int) := ⟨q.toNat, by omega⟩
    have ht : t < y.length := by omega
    refine w_aName ?_
    refine w_ret (w_and (w_callP ?_))
    walk_at "wv"
    refine okTo_eq (slY_lo (Nat.le_of_lt ht)) ?_
    walk_at "wv"
    refine ⟨by simp, ?_⟩
    walk_at "wv"
    refine ⟨by simp, w_gCatT ⟨by simp only [List.length_map, List.length_take, List.length_cons, List.length_nil]; omega, ?_⟩⟩
    walk_at "wv"
    refine okTo_eq (slY_hi ht) ?_
    refine w_gCatT ⟨by simp only [List.length_append, List.length_map, List.length_take, List.length_drop, List.length_cons, List.length_nil]; omega, ?_⟩
    walk_at "wv"
    have e : PyData.tuple ((y.take t).map dS ++ [PyData.tuple []] ++ (y.drop (t + 1)).map dS) = dY (y.set t []) := by
      unfold dY
      rw [List.set_eq_take_append_cons_drop, if_pos ht, List.map_append, List.map_cons, List.append_assoc]
      rfl
    rw [e]
    have f := flt_hole hy ht
    refine ⟨rfl, refused_ok (by rw [f]; exact fun z => nomatch z) (by rw [f]; exact sh_a _) (by rw [f]; simp [PyData.eqv, PyData.eqvAll]) ?_⟩
    walk_at "wv"
    refine ⟨by simp, rfl, ?_⟩
    have f0 : flt [] = .tuple [.str "states"] := rfl
    exact refused_ok (y := []) (by rw [f0]; exact fun z => nomatch z) (by rw [f0]; exact sh_b) (by rw [f0]; simp [PyData.eqv, PyData.eqvAll]) rfl

end
end Bo
/-! ### walks while an exception is handled -/
namespace Bo
open PySem PySem.Spec L2
section
variable {prog : Program} {w : World} {A : Around} {E : Value → Shared → Prop} {s : Shared}
theorem stop_hot {α : Type} {x1 : Addr} {Q : α → Shared → Prop} (hot : HotX.HotAt A x1 s.heap) (hE : ∀ (h' : Heap) (e : Addr), (∀ b o, s.heap.get? b = some o → h'.get? b = some o) → (∃ o, h'.get? e = some o ∧ o.cls = .type "StopIteration") → E (.ref e) { s with heap := h' }) :
    wpAny (model prog w) A (Builtin.SmallTypes.stopIteration : Sem α) Q E s := by
  obtain ⟨hh, o1, vs1, h1, d1, c1⟩ := hot
  refine wpAny_bind ?_
  refine wpAny_bind ?_
  refine wpAny_newObj_type ?_ ?_
  rotate_left 1
  · show ([] : List Value).toArray.size ≤ sizeLine
    exact Nat.zero_le _
  refine wpAny_bind (wpAny_of_eq (rfl) ?_)
  refine wpAny_newObj_type ?_ (sizeOk_excFields _ _ _ _ _ _ _ _)
  refine HotX.raiseNew_hot (x1 := x1) ⟨hh, o1, vs1, ?_, d1, c1⟩ ?_ (Heap.get?_push_size _ rfl) rfl ?_ ?_
  · exact Heap.get?_push_of_some _ (Heap.get?_push_of_some _ h1)
  · exact Nat.ne_of_lt (Heap.lt_size (Heap.get?_push_of_some _ h1))
  · rw [Array.size_append]
    simp
    omega
  · refine hE _ _ (fun b o e => ?_) ⟨_, Heap.get?_update_self _ (Heap.get?_push_size _ rfl) rfl, rfl⟩
    rw [Heap.get?_update_other]
    · exact Heap.get?_push_of_some _ (Heap.get?_push_of_some _ e)
    · exact Nat.ne_of_gt (Heap.lt_size (Heap.get?_push_of_some _ e))
theorem tupnext_end_hot {it t x1 : Addr} {i : Nat} {items : Array Value} {Q : PySem.Fin → Shared → Prop} (hot : HotX.HotAt A x1 s.heap) (ne : x1 ≠ it) (hit : s.heap.IsTupleIter it t i) (ht : s.heap.IsTuple t items) (hx : items[i]? = none)
    (hE : ∀ (h' : Heap) (e : Addr), Heap.ExtBut it s.heap h' → (∃ o, h'.get? e = some o ∧ o.cls = .type "StopIteration") → E (.ref e) { s with heap := h' }) : wpAny (model prog w) A (Builtin.«tuple_iterator.__next__» { pos := [.ref it] }) Q E s := by
  obtain ⟨o, ho, hc, hd⟩ := id hit
  obtain ⟨ol, hol, _, nl, hdl⟩ := id ht
  obtain ⟨hh, o1, vs1, h1, d1, c1⟩ := hot
  refine wpAny_bind (wpAny_of_eq rfl ?_)
  refine wpAny_bind (wpAny_field ho hd rfl ?_)
  rw [if_neg (c := (#[Value.ref t, Value.int (i : Int) 0][0] == Value.none) = true) Bool.false_ne_true]
  refine wpAny_bind (wpAny_field ho hd rfl ?_)
  refine wpAny_bind (wpAny_seqItems hol hdl ?_)
  show wpAny _ _ (match items[((i : Int)).toNat]? with | some x => _ | none => _) _ _ _
  rw [Int.toNat_natCast, hx]
  refine wpAny_bind (wpAny_rule ?_)
  refine wpAny_bind (wpAny_setField ho hd (by simp) ?_)
  refine stop_hot (x1 := x1) ⟨hh, o1, vs1, ?_, d1, c1⟩ fun h' e keep ho' => ?_
  · rw [Heap.get?_update_other]
    · exact h1
    · exact Ne.symm ne
  · refine hE h' e (fun b x hb q => keep b x ?_) ho'
    rw [Heap.get?_update_other]
    · exact q
    · exact Ne.symm hb
theorem nextOf_tuple_end_hot {it t x1 : Addr} {i : Nat} {items : Array Value} {Q : Value → Shared → Prop} (hot : HotX.HotAt A x1 s.heap) (ne : x1 ≠ it) (hit : s.heap.IsTupleIter it t i) (ht : s.heap.IsTuple t items) (hx : items[i]? = none)
    (hE : ∀ (h' : Heap) (e : Addr), Heap.ExtBut it s.heap h' → (∃ o, h'.get? e = some o ∧ o.cls = .type "StopIteration") → E (.ref e) { s with heap := h' }) : wpAny (model prog w) A (Builtin.SmallTypes.nextOf (.ref it)) Q E s := by
  refine wpAny_bind ?_
  refine wpAny_callSpecial?_slot hit.typeIs F.slot_tuple_iterator_next ?_
  refine wpAny_call_entry F.slot_tuple_iterator_next hit.typeIs F.entry_tuple_iterator_next ?_ (F.args_tuple_iterator_next_1 _)
  exact tupnext_end_hot (A := A.in1) hot ne hit ht hx hE
theorem pyNext_tuple_end_hot {it t x1 : Addr} {i : Nat} {items : Array Value} {Q : Option Value → Shared → Prop} (hot : HotX.HotAt A x1 s.heap) (ne : x1 ≠ it) (hit : s.heap.IsTupleIter it t i) (ht : s.heap.IsTuple t items) (hx : items[i]? = none)
    (hQ : ∀ h' : Heap, Heap.ExtBut it s.heap h' → Q none { s with heap := h' }) : wpAny (model prog w) A (pyNext (.ref it)) Q E s := by
  refine wpAny_bind ?_
  refine wpAny_attempt ?_
  refine wpAny_callSpecial?_slot hit.typeIs F.slot_tuple_iterator_next ?_
  refine wpAny_call_entry F.slot_tuple_iterator_next hit.typeIs F.entry_tuple_iterator_next ?_ (F.args_tuple_iterator_next_1 _)
  refine tupnext_end_hot (A := A.in1) hot ne hit ht hx fun h' e ext ho' => ?_
  refine wpAny_bind (wpAny_isInstance ho' isSubtype_stop ?_)
  exact wpAny_pure (hQ h' ext)
/-- what a tuple gives, while an exception is handled -/
theorem draws_hot {it t x1 : Addr} (hh : A.handled = some (.ref x1)) (hne : t ≠ it) (ne : x1 ≠ it) (items : Array Value) : Draws prog w A it [it, t, x1] items.size (fun i v => items[i]? = some v)
    (fun i h => h.IsTupleIter it t i ∧ h.IsTuple t items ∧ ∃ o vs, h.get? x1 = some o ∧ o.data = .fields vs ∧ vs[2]? = some .none) where
  live := fun i h st => by
    obtain ⟨o, ho, _⟩ := st.1
    exact ⟨o, ho⟩
  frame := fun i h h' st k => by
    obtain ⟨s1, s2, o, vs, s3, s4, s5⟩ := st
    exact ⟨Heap.IsTupleIter.at s1 fun o e => k it (by simp) o e, Heap.IsTuple.at s2 fun o e => k t (by simp) o e, o, vs, k x1 (by simp) o s3, s4, s5⟩
  item := fun i s Q E hi st hQ => by
    obtain ⟨s1, s2, o, vs, s3, s4, s5⟩ := st
    refine wpAny_nextOf_tuple_item s1 s2 (x := items[i]) (by rw [Array.getElem?_eq_getElem hi]) fun h' hit' hs' => ?_
    have eb := Heap.SameBut.extBut hs'
    exact hQ items[i] h' s.toks (by rw [Array.getElem?_eq_getElem hi]) ⟨hit', Heap.IsTuple.extBut s2 eb hne, o, vs, eb x1 o ne s3, s4, s5⟩ hs'
  done := fun s Q E st hE => by
    obtain ⟨s1, s2, o, vs, s3, s4, s5⟩ := st
    exact nextOf_tuple_end_hot ⟨hh, o, vs, s3, s4, s5⟩ ne s1 s2 (by simp) hE
end
end Bo

/-! ### loops and targets while an exception is handled -/
namespace Bo
open PySem PySem.Spec L2
section
variable {prog : Program} {w : World} {A : Around} {E : Value → Shared → Prop} {s : Shared}
open PyProof.Rows in
theorem unpackItems_hot {x1 t : Addr} {items : Array Value} {Q : List Value → Shared → Prop} (hot : HotX.HotAt A x1 s.heap) (ht : IsTup s.heap t items)
    (hQ : ∀ h', Heap.ExtBut s.heap.objs.size s.heap h' → Q items.toList { s with heap := h' }) : wpAny (model prog w) A (unpackItems (.ref t) items.size none) Q E s := by
  have hlt : t ≠ s.heap.objs.size := by obtain ⟨o, ho, _⟩ := ht; exact Nat.ne_of_lt (Heap.lt_size ho)
  obtain ⟨hh, o1, vs1, g1, d1, c1⟩ := hot
  have hx : x1 ≠ s.heap.objs.size := Nat.ne_of_lt (Heap.lt_size g1)
  unfold unpackItems
  refine wpAny_bind ?_
  · unfold notIterableAtAll
    refine wpAny_bind (wpAny_specialOf ht.typeIs slot_tuple_iter.lookup ?_)
    refine wpAny_pure ?_
    simp only [Bool.false_eq_true, if_false]
    refine wpAny_bind (wpAny_holding (iter_tuple ht ?_))
    refine wpAny_bind (wpAny_holding (draw_tuple hlt items.size 0 _ _ ⟨_, Heap.get?_push_size _ rfl, rfl, rfl⟩ (ht.push _) (by omega) fun h₁ hit₁ hs₁ => ?_))
    have hall : List.take items.size (List.drop 0 items.toList) = items.toList := by
      rw [List.drop_zero]; exact List.take_of_length_le (by simp)
    rw [hall]
    rw [if_neg (by simp)]
    have ht₁ : IsTup h₁ t items := (ht.push _).extBut hs₁.extBut hlt
    have hot1 : HotX.HotAt A x1 h₁ := ⟨hh, o1, vs1, hs₁.extBut x1 o1 hx (Heap.get?_push_of_some _ g1), d1, c1⟩
    refine wpAny_bind (wpAny_holding (pyNext_tuple_end_hot (A := A) (s := { s with heap := h₁ }) hot1 hx hit₁ ht₁ (by simp) fun h₂ he₂ => ?_))
    simp only [Option.isSome_none, Bool.false_eq_true, if_false]
    refine wpAny_pure (hQ h₂ fun b o hb e => he₂ b o hb (hs₁.extBut b o hb (Heap.get?_push_of_some _ e)))
open PyProof.Rows in
theorem assign_tuple_hot {x1 : Addr} {env : Env} {elts : List Expr} {k} {pos : Pos} {t : Addr} {items : Array Value} {Q : Unit → Shared → Prop} (hot : HotX.HotAt A x1 s.heap) (ht : IsTup s.heap t items)
    (hn : (assignEach elts env).length = items.size) (hstar : (assignEach elts env).findIdx? (·.1) = none)
    (h : ∀ h', Heap.ExtBut s.heap.objs.size s.heap h' → wpAny (model prog w) A (assignInOrder ((assignEach elts env).map (·.2)) items.toList) Q E { s with heap := h' }) :
    wpAny (model prog w) A (assign (.Tuple elts k pos) env (.ref t)) Q E s := by
  rw [assign_Tuple]
  refine wpAny_bind (wpAny_standAt ?_)
  unfold unpack
  rw [hn, hstar]
  exact wpAny_bind (wpAny_holding (unpackItems_hot hot ht h))
end
theorem pg_tupH {X : Cx} {pos : Pos} (K : PySem.W.Frag) (hK : X.K = K) {es : List Expr} {k : Nat} {t : TGs} {n : Nat} (hc : L2H.HotC X) (h : PGs X es t)
    (hn : (assignEach es X.env).length = n := by rfl) (hst : (assignEach es X.env).findIdx? (·.1) = none := by rfl) : PG X (.Tuple es k pos) (gTup K n t) := by
  subst hK
  refine ⟨fun pins s σ H v u Q I r hw => ?_⟩
  obtain ⟨a, xs, e1, hq, hl, hw⟩ := hw
  subst e1
  cases r
  obtain ⟨its, rv, ht, hz⟩ := I.tuple hq
  obtain ⟨x1, hot⟩ := hc.at I
  refine assign_tuple_hot hot ht (by simp [hn, ← hl, rv.length]) hst fun h' hx => ?_
  have I1 : Inv X pins σ H { s with heap := h' } := I.kept (t' := s.toks) fun b o e => hx b o (Nat.ne_of_lt (Heap.lt_size e)) e
  exact h.run pins _ σ H xs _ Q I1 (by simpa using rv) hw
section
variable {P : Program} {w : World} {K : PySem.W.Frag} {tg : Expr} {elts : List Expr} {kk : Nat} {tpos : Pos}
theorem turn_tupH (a it : Addr) : L2H.TurnH P w K tg (Itt K a) [it] it (fun i h => h.IsTupleIter it a i) where
  mem := by simp
  obj := (turn_tuple (P := P) (w := w) (K := K) (tg := tg) a it).obj
  keep := (turn_tuple (P := P) (w := w) (K := K) (tg := tg) a it).keep
  item := by
    intro X hP hw hK hc i pins s σ H E I hf st hg
    subst hP hw hK
    obtain ⟨xs, x, hq, hx⟩ := hg
    obtain ⟨its, rv, p, hz⟩ := I.tuple hq
    obtain ⟨u, hu, ru⟩ := rv.get hx
    obtain ⟨f0, f1, f2, f3, f4, f5⟩ := hf it (by simp)
    refine wpAny_pyNext_tuple_item st (show s.heap.IsTuple a its.toArray from p) (x := u) (by simpa using hu) fun h' st' sb => ?_
    have I1 : Inv X pins σ H { s with heap := h' } := I.turned (t' := s.toks) (fun b o hb e => (sb.2 b hb).trans e) f0 f1 f3 f4 f5
    obtain ⟨o, e, c, d⟩ := id st'
    exact ⟨u, rfl, go_of (s := { s with heap := h' }) e c d (by decide) ⟨x, H, I1, ru, ⟨rfl, fun ys hy => by rw [I.tuple_inj hy hq]; exact hx⟩, st', fun b hb => (hf b hb).1⟩⟩
  done := by
    intro X hP hw hK hc i pins s σ H E I hf st hg
    subst hP hw hK
    obtain ⟨xs, hq, hx⟩ := hg
    obtain ⟨its, rv, p, hz⟩ := I.tuple hq
    obtain ⟨f0, f1, f2, f3, f4, f5⟩ := hf it (by simp)
    have hl := rv.length
    obtain ⟨q, ⟨hh, v1, e1, c1⟩, hp⟩ := hc
    have P1 := I.pin q (List.mem_append_left _ hp)
    exact pyNext_tuple_end_hot (x1 := q.1) ⟨hh, q.2, v1, P1.1, e1, c1⟩ (f5 q (List.mem_append_left _ hp)) st (show s.heap.IsTuple a its.toArray from p) (by simp; omega) fun h' eb => ⟨rfl, I.turned (t' := s.toks) (fun b o hb e => eb b o hb e) f0 f1 f3 f4 f5⟩
  self := fun _ _ _ _ _ st h => wpAny_pyIter_tupleiter st h
theorem pi_tupH {X : Cx} (K : PySem.W.Frag) (hK : X.K = K) {l : Expr} {tl : TE} (hl : PE X l tl) : L2H.PIH X tg l (iTup K tl) := by
  subst hK
  refine ⟨fun pins s σ H R I h => ?_⟩
  refine thn (hl.run pins s σ H _ I h) fun v s1 ⟨x, H1, I1, r1, q1⟩ => ?_
  obtain ⟨a, e, ⟨xs, hq⟩, q⟩ := q1
  subst e
  cases r1
  obtain ⟨its, rv, p, hz⟩ := I1.tuple hq
  refine wpAny_pyIter_tuple (show s1.heap.IsTuple a its.toArray from p) ?_
  refine ⟨s1.heap.objs.size, [s1.heap.objs.size], _, _, H1, rfl, I1.kept (t' := s1.toks) fun b o e => Heap.get?_push_of_some _ e, turn_tupH a _, ⟨_, Heap.get?_push_size _ rfl, rfl, rfl⟩, fun b hb => ?_, q⟩
  have e : b = s1.heap.objs.size := by simpa using hb
  subst e
  exact I1.fpOk (Nat.le_refl _) (I1.hok.fresh (Nat.le_refl _))
theorem turn_enumTH {e it a : Addr} (ne : e ≠ it) (na : a ≠ it) (nea : a ≠ e) : L2H.TurnH P w K (.Tuple elts kk tpos) (ItN K .T a) [e, it] e (fun i h => (∃ old, IsEnum h e it (0 + (i : Int)) old) ∧ h.IsTupleIter it a i) where
  mem := List.mem_cons_self
  obj := (turn_enumK (P := P) (w := w) (K := K) (elts := elts) (kk := kk) (tpos := tpos) (k := .T) ne na nea).obj
  keep := (turn_enumK (P := P) (w := w) (K := K) (elts := elts) (kk := kk) (tpos := tpos) (k := .T) ne na nea).keep
  item := by
    intro X hP hw hK hc i pins s σ H E I hf st hg
    subst hP hw hK
    obtain ⟨he, h1⟩ := st
    obtain ⟨xs, x, sx, ex⟩ := hg
    obtain ⟨us, ru, pu, _⟩ := I.tuple sx
    have lu := ru.length
    have l1 := (List.getElem?_eq_some_iff.mp ex).1
    obtain ⟨q, ⟨hh, v1, e1, c1⟩, hp⟩ := hc
    have P1 := I.pin q (List.mem_append_left _ hp)
    have f5 : ∀ b ∈ [e, it], q.1 ≠ b := fun b hb => (hf b hb).2.2.2.2.2 q (List.mem_append_left _ hp)
    have W := GoesN.enumFrom (prog := X.prog) (w := X.w) (A := X.A) (elts := elts) (x1 := kk) (pos := tpos) 0 (draws_hot (prog := X.prog) (w := X.w) (A := X.A.in1) (x1 := q.1) hh na (f5 it (by simp)) us.toArray) e ne (by simp [ne, Ne.symm nea, Ne.symm (f5 e (by simp))]) (by simp)
    refine W.goes i s _ E (by rw [List.size_toArray]; omega) ⟨he, h1, pu, q.2, v1, P1.1, e1, c1⟩ fun v h' tk hY st' hk _ => ?_
    obtain ⟨t, tt, u1, rfl, ht, e1, hT⟩ := hY
    obtain ⟨u, hu, r1⟩ := ru.get ex
    have q1 : u1 = u := Option.some.inj (e1.symm.trans (by simpa using hu))
    subst q1
    have z0 : (0 : Int) + (i : Int) = (i : Nat) := Int.zero_add _
    rw [z0] at hT
    refine ⟨.ref t, _, pair_step I (wr := [e, it]) hf hk ht hT (x := .int (i : Nat)) ⟨tt, rfl⟩ r1, rfl, ⟨t, _, x, rfl, I.hok.fresh ht, rfl, rfl, fun xs' s' => by rw [I.tuple_inj s' sx]; exact ex⟩, ⟨st'.1, st'.2.1⟩, fun c hc' => ?_⟩
    have hlt : c < s.heap.objs.size := by
      obtain ⟨o, e⟩ : ∃ o, s.heap.get? c = some o := by
        simp only [List.mem_cons, List.not_mem_nil, or_false] at hc'
        obtain ⟨_, he'⟩ := he
        rcases hc' with rfl | rfl
        · exact ⟨_, he'⟩
        · obtain ⟨o, e, _⟩ := h1
          exact ⟨o, e⟩
      exact Heap.lt_size e
    rw [upd_ne (Nat.ne_of_lt (Nat.lt_of_lt_of_le hlt ht))]
    exact (hf c hc').1
  done := by
    intro X hP hw hK hc i pins s σ H E I hf st hg
    subst hP hw hK
    obtain ⟨he, h1⟩ := st
    obtain ⟨xs, sx, ei⟩ := hg
    obtain ⟨us, ru, pu, _⟩ := I.tuple sx
    obtain ⟨q, ⟨hh, v1, e1, c1⟩, hp⟩ := hc
    have P1 := I.pin q (List.mem_append_left _ hp)
    have f5 : ∀ b ∈ [e, it], q.1 ≠ b := fun b hb => (hf b hb).2.2.2.2.2 q (List.mem_append_left _ hp)
    have W := GoesN.enumFrom (prog := X.prog) (w := X.w) (A := X.A) (elts := elts) (x1 := kk) (pos := tpos) 0 (draws_hot (prog := X.prog) (w := X.w) (A := X.A.in1) (x1 := q.1) hh na (f5 it (by simp)) us.toArray) e ne (by simp [ne, Ne.symm nea, Ne.symm (f5 e (by simp))]) (by simp)
    have ei' : us.toArray.size = i := by rw [List.size_toArray, ← ru.length, ei]
    exact W.stops s _ E (by rw [ei']; exact ⟨he, h1, pu, q.2, v1, P1.1, e1, c1⟩) fun h' tk hk _ => I.turnedL (t' := tk) (ch := [e, it]) hk hf
  self := (turn_enumK (P := P) (w := w) (K := K) (elts := elts) (kk := kk) (tpos := tpos) (k := .T) ne na nea).self
end
section
variable {X : Cx} {e : Expr} {ta : TA} {p pos tpos : Pos} {elts : List Expr} {kk : Nat}
open PySem.Spec PyProof.Rows in
theorem pi_enumTH (K : PySem.W.Frag) (hK : X.K = K) (hg : L2.Gl X "enumerate") (hm : X.mg "enumerate" = none) (ha : PA X [e] ta) (hs : starEach [e] X.env = [(false, eval e X.env)] := by rfl) : L2H.PIH X (.Tuple elts kk tpos) (.Call (.Name "enumerate" p) [e] [] pos) (iEnumK .T K ta) := by
  subst hK
  constructor
  intro pins s σ H R I h
  refine Call_ (ld_blt I hg hm boot_enumerate (callWith_type1 ?_ hs rfl))
  refine thn (ha.run pos pins s σ H _ I h) ?_
  rintro us s1 ⟨vs, H1, I1, rv, a, xs, rfl, qa, q⟩
  cases rv with
  | cons ra rest =>
    cases rest
    cases ra
    obtain ⟨ua, _, pa⟩ := Kd.told I1 qa
    have B := Kd.begins (k := .T) (a := a) (items := ua.toArray)
    have la := Kd.below pa
    refine callType_new F.called_enumerate (by decide) (F.typeCall_enumerate_1 _) (F.newCall_enumerate_1 _) (fun obj => F.args_object_init_2 obj _) F.entry_enumerate_new (enum_meets B) ⟨pa, ?_⟩
    have sz : (s1.heap.push (Kd.T.ob a)).objs.size = s1.heap.objs.size + 1 := Heap.size_push ..
    have e0 := Heap.get?_push_size (s1.heap.push (Kd.T.ob a)) (o := { cls := .type "enumerate", data := .fields #[.none, .bool false, .ref s1.heap.objs.size, rawInt 0, .none, .none] }) rfl
    rw [sz] at e0
    have old : ∀ c o, s1.heap.get? c = some o → ((s1.heap.push (Kd.T.ob a)).push { cls := .type "enumerate", data := .fields #[.none, .bool false, .ref s1.heap.objs.size, rawInt 0, .none, .none] }).get? c = some o := fun c o z => Heap.get?_push_of_some _ (Heap.get?_push_of_some _ z)
    have e1 := Heap.get?_push_of_some { cls := .type "enumerate", data := .fields #[.none, .bool false, .ref s1.heap.objs.size, rawInt 0, .none, .none] } (Heap.get?_push_size s1.heap (o := Kd.T.ob a) B.free)
    have en : IsEnum ((s1.heap.push (Kd.T.ob a)).push { cls := .type "enumerate", data := .fields #[.none, .bool false, .ref s1.heap.objs.size, rawInt 0, .none, .none] }) (s1.heap.objs.size + 1) s1.heap.objs.size (0 + ((0 : Nat) : Int)) .none := e0
    have ge : ∀ c ∈ [s1.heap.objs.size + 1, s1.heap.objs.size], s1.heap.objs.size ≤ c := fun c hc => by
      simp only [List.mem_cons, List.not_mem_nil, or_false] at hc
      omega
    rw [sz]
    exact ⟨⟨_, en, rfl⟩, wpAny_pyIter_enum en ⟨s1.heap.objs.size + 1, _, _, _, H1, rfl, I1.kept (t' := s1.toks) old, turn_enumTH (Nat.succ_ne_self _) (Nat.ne_of_lt la) (Nat.ne_of_lt (Nat.lt_succ_of_lt la)), ⟨⟨_, en⟩, Kd.start_ (k := .T) e1⟩,
      fun c hc => I1.fpOk (ge c hc) (I1.hok.fresh (ge c hc)), q⟩⟩
end
end Bo

/-! ### defs called while an exception is handled; errors whose context is None -/
namespace Bo
open PySem PySem.Spec L2
section
variable {P : Program} {w : World} {K : PySem.W.Frag} {mg : Str → Option Value} {base : Heap}
theorem hot_cx {CX : CXT} {N : List Str} {qual : Str} {scope : Scope} {f : Addr} {cd : Value} {A : Around} {outer : List PySem.Env} {s : Shared} {H : Hp} {E : XK} {p : Addr × Obj} (h : L2H.Hot1 A p) : L2H.HotC (L2H.cxH CX P w K mg base N qual scope f cd A outer s H E p) :=
  ⟨p, ⟨h.1, h.2⟩, List.mem_cons_self⟩
/-- a def, told while an exception is handled -/
theorem fun_okH {x qual : Str} {st : Stmt} {f : Addr} {fd : FuncData} {N ps : List Str} {k : Nat} {sp : Sp} (F : Fun K x qual st f fd) (S : FnScope N ps (defScope st)) (len : ∀ vs H Q E, sp vs H Q E → vs.length = ps.length)
    (hbody : ∀ (cdv : Value) (A : Around) (outer : List PySem.Env) (s : Shared) (H : Hp) (vs : List V) (Q : VK) (E : XK) (p : Addr × Obj), L2H.HotC (L2H.cxH CX0 P w K mg base N qual (defScope st) f cdv A outer s H E p) → L2H.RoomH k (A.deeper (PyProof.Rows.envOfC qual (defScope st) s.heap.objs.size f cdv)) → sp vs H Q E →
      ∃ t, PSs (L2H.cxH CX0 P w K mg base N qual (defScope st) f cdv A outer s H E p).nox (defBody st) t ∧ t { nx := fun _ H' => Q .non H', rt := Q } (L2.start N vs) H) : L2H.FnH P w K mg base CX0 (k + 1) f fd ps sp := by
  obtain ⟨oc, od, kV, doc, pm, an, cdv, ct, osl, rfl, lk, hcd⟩ := F.ex
  refine L2H.fn_ofH lk hcd S len fun A outer s H vs Q E p hot hr hsp => ?_
  obtain ⟨t, h, q⟩ := hbody cdv A outer s H vs Q E p (hot_cx hot) hr hsp
  exact ⟨t, h.nox, q⟩
/-- a def whose errors have no context -/
theorem fun_okN {x qual : Str} {st : Stmt} {f : Addr} {fd : FuncData} {N ps : List Str} {k : Nat} {sp : Sp} (F : Fun K x qual st f fd) (S : FnScope N ps (defScope st)) (len : ∀ vs H Q E, sp vs H Q E → vs.length = ps.length)
    (hbody : ∀ (cdv : Value) (A : Around) (outer : List PySem.Env) (s : Shared) (H : Hp) (vs : List V) (Q : VK) (E : XK), Room k (A.deeper (PyProof.Rows.envOfC qual (defScope st) s.heap.objs.size f cdv)) → sp vs H Q E →
      ∃ t, PSs (cxOf (L2N.CX P w) P w K mg base N qual (defScope st) f cdv A outer s H E) (defBody st) t ∧ t { nx := fun _ H' => Q .non H', rt := Q } (L2.start N vs) H) : FnOk P w K mg base (L2N.CX P w) (k + 1) f fd ps sp := by
  obtain ⟨oc, od, kV, doc, pm, an, cdv, ct, osl, rfl, lk, hcd⟩ := F.ex
  exact L2.fn_of lk hcd S len fun A outer s H vs Q E hr hsp => hbody cdv A outer s H vs Q E hr hsp
end
section
variable {X : Cx} {CX : CXT} {k : Nat} {f C : Addr} {fd : FuncData} {ps : List Str} {sp : Sp} {dvs : List V} {ds : List Value} {x : Str} {p pos : Pos} {e : Expr} {es : List Expr} {t : TA}
theorem pe_callH0 {E : XK} (F : L2H.FnH X.prog X.w X.K X.mg X.base CX0 k f fd ps sp) (hr : L2H.RoomH k X.A) (hc : L2H.HotC X) (hg : L2.Gl X x) (hm : X.mg x = some (.ref f)) (hk : PySem.W.keepIn X.K (.ref f) = true) (hb : Binds X.K fd ps [])
    (ha : PA X (e :: es) t) (hdb : (x == ("__debug__" : Str)) = false := by decide) (he : starEach (e :: es) X.env = (false, eval e X.env) :: starEach es X.env := by rfl) (hpl : (backTo pos (starEach es X.env)).any (·.1) = false := by rfl) :
    PE X (.Call (.Name x p) (e :: es) [] pos) (tCall sp [] E t) := by
  have same : tCall sp [] E t = tCallS sp (fun _ => E) t := by
    funext σ H Q
    simp only [tCall, tCallS, List.append_nil]
  rw [same]
  exact L2H.pe_callH F hr hc hg hm hk hb (fun _ _ _ _ _ _ _ h => h.elim) ha hdb he hpl
def tMakeS (C : Addr) (sp : Sp) (dvs : List V) (E : L2.St → XK) (t : TA) : TE := fun σ H Q => t σ H fun vs H1 => ∀ x dx, H1 x = none → H1 dx = none → dx ≠ x →
  sp (.ref x :: (vs ++ dvs)) (upd (upd H1 dx (.own x)) x (.ins C dx [])) (fun v H2 => v = .non ∧ Q (.ref x) H2) (E σ)
theorem pe_makeS {E : L2.St → XK} (M : Mk X.K C f) (F : FnOk X.prog X.w X.K X.mg X.base CX k f fd ps sp) (hr : Room (k + 1) X.A) (hg : L2.Gl X x) (hm : X.mg x = some (.ref C)) (hb : Binds X.K fd ps ds) (hd : Vals dvs ds) (hx : ∀ σ, PassesAt CX X σ (E σ))
    (ha : PA X (e :: es) t) (hdb : (x == ("__debug__" : Str)) = false := by decide) (he : starEach (e :: es) X.env = (false, eval e X.env) :: starEach es X.env := by rfl) (hpl : (backTo pos (starEach es X.env)).any (·.1) = false := by rfl) :
    PE X (.Call (.Name x p) (e :: es) [] pos) (tMakeS C sp dvs E t) := by
  refine ⟨fun pins s0 σ H0 Q I0 h0 => ?_⟩
  refine wpAny_Call_Name_kw (ld_glob I0 hg hm ?_ hdb)
  refine PySem.W.callWith_K (h₀ := X.base) I0.ok.mod.kin M.kp (thn (ha.run pos pins s0 σ H0 _ I0 h0) fun us s ⟨vs, H, I, r, h⟩ => ⟨I.kIn, ?_⟩) he hpl
  have hq := h (s.heap.objs.size + 1) s.heap.objs.size (I.hok.fresh (Nat.le_succ _)) (I.hok.fresh (Nat.le_refl _)) (Nat.ne_of_lt (Nat.lt_succ_self _))
  have I2 := Inv.made (C := C) I
  have r2 : Vals (V.ref (s.heap.objs.size + 1) :: (vs ++ dvs)) (Value.ref (s.heap.objs.size + 1) :: (us ++ ds)) := .cons rfl (r.append hd)
  have hl : (Value.ref (s.heap.objs.size + 1) :: us ++ ds).length = ps.length := by
    have e := r2.length
    rw [F.len _ _ _ _ hq] at e
    exact e.symm
  refine wpAny_call (make_map (f := f) I.kIn M.makes M.init (beq_iff_eq.mp M.fn) (codeAny_mono (F.run _ X.stack _ _ ⟨Value.ref (s.heap.objs.size + 1) :: us, []⟩ (Value.ref (s.heap.objs.size + 1) :: (us ++ ds)) _ _ (E σ) (hr.make C us [])
    (I2.env0.make C us []) (hb _ (Value.ref (s.heap.objs.size + 1) :: us) I2.kIn hl) r2 hq) fun r s' hq' => ?_))
  cases r with
  | error e => exact hx σ pins _ _ e s' I2 hq'
  | ok fl =>
    cases fl with
    | ret u =>
      obtain ⟨v, H', I3, rv, ev, q3⟩ := I2.after hq'
      subst ev
      exact ⟨rv, ⟨V.ref (s.heap.objs.size + 1), H', I3, rfl, q3⟩⟩
    | next => exact False.elim hq'
    | brk => exact False.elim hq'
    | cont => exact False.elim hq'
/-- as pmk_oex, its context told -/
theorem pmk_oexN {fI : Addr} {ta : TA} (T : OexC X.K C) (iC : PySem.W.findIn X.K (.ref C) "__init__" = some (some (.ref fI))) (tI : PySem.W.typeIn X.K (.ref fI) = some (.type "function"))
    (F1 : FnOk X.prog X.w X.K X.mg X.base CX k fI fd ps sp) (hr : Room (k + 1) X.A) (hb : Binds X.K fd ps ds) (hd : Vals dvs ds) (hx : Passes CX X (fun _ _ _ => False)) (hg : L2.Gl X x) (hm : X.mg x = some (.ref C)) (ha : PA X (e :: es) ta)
    (hdb : (x == ("__debug__" : Str)) = false := by decide) (he : starEach (e :: es) X.env = (false, eval e X.env) :: starEach es X.env := by rfl) (hpl : (backTo pos (starEach es X.env)).any (·.1) = false := by rfl) :
    L2N.PMk X (.Call (.Name x p) (e :: es) [] pos) (tMkO C sp dvs ta) := by
  intro pins s σ H Q I h
  obtain ⟨nm, q, N, bs, bm, sn, sub, ab, col, dd, k0, k1, k2, k3, k5, hC, hbm⟩ := T.cls
  refine wpAny_Call_Name_kw (ld_glob I hg hm ?_ hdb)
  refine PySem.W.callWith_K (h₀ := X.base) I.ok.mod.kin T.kC (thn (ha.run pos pins s σ H _ I h) fun us s1 ⟨vs, H1, I1, r1, hz, q1⟩ => ⟨I1.kIn, ?_⟩) he hpl
  show wpAny _ _ (call (.ref C) us) _ _ _
  obtain ⟨hp, g, dr, tk, os⟩ := s1
  have hsz : hp.objs.size ≤ hp.objs.size + 1 := Nat.le_succ _
  have hn : H1 (hp.objs.size + 1) = none := I1.hok.fresh hsz
  have hq := q1 (hp.objs.size + 1) hn
  have kk : ∀ b o, hp.get? b = some o → ((hp.push (PySem.W.kdv_tup us)).push (PySem.HandSPX.excO C hp.objs.size)).get? b = some o := fun b o e => Heap.get?_push_of_some _ (Heap.get?_push_of_some _ e)
  have hget : ((hp.push (PySem.W.kdv_tup us)).push (PySem.HandSPX.excO C hp.objs.size)).get? (hp.objs.size + 1) = some (PySem.HandSPX.excO C hp.objs.size) := by heap_get
  have I2 : Inv X pins σ (upd H1 (hp.objs.size + 1) (exo (hp.objs.size + 1) C none)) ⟨(hp.push (PySem.W.kdv_tup us)).push (PySem.HandSPX.excO C hp.objs.size), g, dr, tk, os⟩ :=
    I1.laid (t' := tk) (a := hp.objs.size + 1) (o := exo (hp.objs.size + 1) C none) (h' := (hp.push (PySem.W.kdv_tup us)).push (PySem.HandSPX.excO C hp.objs.size)) kk hsz (exo_ok hget)
  have r2 : Vals (V.ref (hp.objs.size + 1) :: (vs ++ dvs)) (Value.ref (hp.objs.size + 1) :: (us ++ ds)) := .cons rfl (r1.append hd)
  have hl : (Value.ref (hp.objs.size + 1) :: us ++ ds).length = ps.length := by
    have e := r2.length
    rw [F1.len _ _ _ _ hq] at e
    exact e.symm
  have hus : us.length ≤ sizeLine := by
    rw [← Paired.length r1, sizeLine_eq]
    omega
  refine wpAny_call (PySem.HandSPX.call_own F.excBase_ValueError (fun Y => PySem.HandSPX.refsVE_contains Y bm hbm) (I1.kIn _ _ hC) (PySem.W.looks_findIn I1.kIn iC) (fun self => PySem.W.bind_fn I1.kIn self tI) hus
    (codeAny_mono (F1.run _ X.stack _ _ ⟨Value.ref (hp.objs.size + 1) :: us, []⟩ (Value.ref (hp.objs.size + 1) :: (us ++ ds)) _ _ (fun _ _ _ => False) (hr.make C us []) (I2.env0.make C us []) (hb _ (Value.ref (hp.objs.size + 1) :: us) I2.kIn hl) r2 hq) fun r s' hq' => ?_))
  cases r with
  | error er => exact hx pins σ _ _ er s' I2 hq'
  | ok fl =>
    cases fl with
    | ret u =>
      obtain ⟨v, H2, os2, bare2, un2, hok2, rv, ev, d, fs, ea, ed, hd1, q2⟩ := hq'
      subst ev
      obtain ⟨h2, g2, d2, t2, os'⟩ := s'
      obtain ⟨t0, G, J, kG, ge, hoe, na⟩ := mk_end0 (d2 := d2) (t2 := t2) I1 hsz kk un2 hok2 os2 bare2 ea ed hd1
      refine ⟨rv, ⟨hp.objs.size + 1, _, _, ⟨G, g2, d2, t2, os'⟩, _, .ref C, some d, rfl, J, kG, ge, hoe, ⟨rfl, rfl, fun vs hv => ?_⟩, rfl, rfl, na, rfl, bare2, raises_own T.exC T.tyC, q2⟩⟩
      cases hv
      rfl
    | next => exact False.elim hq'
    | brk => exact False.elim hq'
    | cont => exact False.elim hq'
theorem takes_noneN {X : Cx} : L2N.Takes X (fun _ _ _ _ => False) := fun _ _ x => by
  obtain ⟨_, _, _, _, _, _, _, _, _, _, _, _, _, _, _, _, z⟩ := x
  exact z.elim
end
end Bo

/-! ### sorted(xs), any alike data -/
namespace Bo
open PySem L2 PySem.W
section
variable {X : Cx}
end
section
variable (K : PySem.W.Frag) {X : Cx} (h : X.K = K := by rfl)
include h
end
section
variable {K : PySem.W.Frag} {n : Nat} {C : Ct K n} {σ : L2.St} {H B : Hp} {S : SS}
end
end Bo

/-! ### sorted(t), t a tuple of alike data -/
namespace Bo
open PySem PySem.W PyProof.Rows PySem.Calls
section
variable {prog : Program} {w : World} {A : Around} {E : Value → Shared → Prop} {s : Shared} {β : Type} {R : Value → β → Prop} {enc : β → PyData} {vs : List Value} {bs : List β}
end
section
variable {X : Cx}
open L2
end
section
variable {K : PySem.W.Frag} {n : Nat} {C : Ct K n} {σ : L2.St} {H B : Hp} {S : SS}
open L2
end
end Bo

/-! ### dicts that tell the number of a nested tuple -/
namespace Bo
open PySem PySem.Spec PyProof.Rows L2
mutual
/-- data as a key -/
def toK : PyData → NestedKey
  | .int i => .num i
  | .tuple ds => .tup (toKs ds)
  | _ => .none
def toKs : List PyData → List NestedKey
  | [] => []
  | d :: ds => toK d :: toKs ds
end
mutual
def okK : PyData → Bool
  | .int _ => true
  | .tuple ds => okKs ds
  | _ => false
def okKs : List PyData → Bool
  | [] => true
  | d :: ds => okK d && okKs ds
end
section
variable {X : Cx} {pins : List (Addr × Obj)} {σ : L2.St} {H B : Hp} {s : Shared}
end
abbrev KX := List (NestedKey × Addr × Int)
/-- what a key is known by -/
structure KeyD (K : PySem.W.Frag) (B : Hp) (y : V) (dk : PyData) : Prop where
  ok : okK dk = true
  deep : (toK dk).depth ≤ 8
  da : Da K B y dk
section
variable {X : Cx} {pins : List (Addr × Obj)} {σ : L2.St} {H B : Hp} {s : Shared} {d : Addr} {xs : KX}
end
/-! the rules -/
section
variable {X : Cx} {o i e value : Expr} {pos pos' tpos : Pos} {td ty tv : TE}
end
end Bo

/-! ### pop at a place; the greatest of a list -/
namespace Bo
open PySem L2
section
variable {K : PySem.W.Frag} {n : Nat} {C : Ct K n}
end
section
variable {X : Cx} (K : PySem.W.Frag) (h : X.K = K)
include h
end
end Bo

namespace Bo
open PySem L2
end Bo

/-! ### a list of lists, made and filled -/
namespace Bo
open PySem L2
section
variable {K : PySem.W.Frag} {B : Hp}
end
end Bo

/-! ### numbers by first places: the walk -/
namespace Bo
open PySem PySem.Spec PyProof.Rows L2
end Bo
namespace Bo
open PySem PySem.Spec PyProof.Rows L2
/-! where the keys are ints -/
/-! where they are nested tuples -/
end Bo

namespace Bo
open PySem L2
noncomputable section
end
end Bo

namespace Bo
open PySem L2
def topS (i : Nat) : Stmt := PySem.Challenge.pw_bestodds_k43_changes_of_benches.main.body.getD i (.Pass ⟨0, 0, 0, 0⟩)
def methDef (s : Stmt) (j : Nat) : Stmt := match s with
  | .ClassDef _ _ _ b _ _ _ _ _ _ _ => b.getD j (.Pass ⟨0, 0, 0, 0⟩)
  | _ => .Pass ⟨0, 0, 0, 0⟩
abbrev s_l_draw : Stmt := topS 23
abbrev s_l_take : Stmt := topS 25
abbrev s_l_ends : Stmt := topS 26
abbrev s_l_choices : Stmt := topS 27
abbrev s_l_system : Stmt := topS 28
abbrev s_are_ends : Stmt := topS 16
abbrev s_fault_in_state : Stmt := topS 15
abbrev s_fault : Stmt := topS 14
abbrev s_check : Stmt := topS 20
abbrev s_Bench_init : Stmt := methDef (topS 19) 0
abbrev s_l_tape : Stmt := topS 22
abbrev s_l_refused : Stmt := topS 35
abbrev s_l_equal : Stmt := topS 24
abbrev s_l_edit : Stmt := topS 30
abbrev s_l_after : Stmt := topS 31
abbrev s_l_refusal : Stmt := topS 32
abbrev s_Bench__turn_to : Stmt := methDef (topS 19) 16
abbrev s_Bench_undo : Stmt := methDef (topS 19) 4
abbrev s_Bench_system : Stmt := methDef (topS 19) 6
abbrev s_Bench_changes : Stmt := methDef (topS 19) 7
abbrev s_Bench_undone : Stmt := methDef (topS 19) 8
abbrev s_Bench_redo : Stmt := methDef (topS 19) 5
abbrev s_Bench__choices : Stmt := methDef (topS 19) 13
abbrev s_Bench__others : Stmt := methDef (topS 19) 14
abbrev s_Bench__change : Stmt := methDef (topS 19) 15
abbrev s_Bench_remove_choice : Stmt := methDef (topS 19) 3
abbrev s_Bench_add_choice : Stmt := methDef (topS 19) 1
abbrev s_Bench_set_choice : Stmt := methDef (topS 19) 2
abbrev s_l_kind : Stmt := topS 34
abbrev s_l_done : Stmt := topS 33
abbrev s_law : Stmt := topS 36
def clsDef (s : Stmt) : Stmt := match s with
  | .ClassDef _ _ _ b _ _ _ _ _ _ _ => b.getD 0 (.Pass ⟨0, 0, 0, 0⟩)
  | _ => .Pass ⟨0, 0, 0, 0⟩
abbrev s_InvalidSystem : Stmt := clsDef (topS 3)
theorem sc_InvalidSystem : FnScope ["self", "fault"] ["self", "fault"] (defScope s_InvalidSystem) := ⟨rfl, rfl, rfl, by decide +kernel, rfl, by decide +kernel, by decide +kernel⟩
abbrev s_NoSuchState : Stmt := clsDef (topS 5)
theorem sc_NoSuchState : FnScope ["self", "state"] ["self", "state"] (defScope s_NoSuchState) := ⟨rfl, rfl, rfl, by decide +kernel, rfl, by decide +kernel, by decide +kernel⟩
abbrev s_NoSuchChoice : Stmt := clsDef (topS 6)
theorem sc_NoSuchChoice : FnScope ["self", "number"] ["self", "number"] (defScope s_NoSuchChoice) := ⟨rfl, rfl, rfl, by decide +kernel, rfl, by decide +kernel, by decide +kernel⟩
structure Env (K : PySem.W.Frag) (mg : Str → Option Value) where
  a_l_draw : Addr
  d_l_draw : FuncData
  F_l_draw : Fun K "_law_draw" "_law_draw" s_l_draw a_l_draw d_l_draw
  b_l_draw : Binds K d_l_draw ["tape", "at", "many"] []
  g_l_draw : mg "_law_draw" = some (.ref a_l_draw)
  a_l_take : Addr
  d_l_take : FuncData
  F_l_take : Fun K "_law_take" "_law_take" s_l_take a_l_take d_l_take
  b_l_take : Binds K d_l_take ["state", "many"] []
  g_l_take : mg "_law_take" = some (.ref a_l_take)
  a_l_ends : Addr
  d_l_ends : FuncData
  F_l_ends : Fun K "_law_ends" "_law_ends" s_l_ends a_l_ends d_l_ends
  b_l_ends : Binds K d_l_ends ["state", "many"] []
  g_l_ends : mg "_law_ends" = some (.ref a_l_ends)
  a_l_choices : Addr
  d_l_choices : FuncData
  F_l_choices : Fun K "_law_choices" "_law_choices" s_l_choices a_l_choices d_l_choices
  b_l_choices : Binds K d_l_choices ["state", "many", "most"] []
  g_l_choices : mg "_law_choices" = some (.ref a_l_choices)
  a_l_system : Addr
  d_l_system : FuncData
  F_l_system : Fun K "_law_system" "_law_system" s_l_system a_l_system d_l_system
  b_l_system : Binds K d_l_system ["state", "most"] []
  g_l_system : mg "_law_system" = some (.ref a_l_system)
  a_are_ends : Addr
  d_are_ends : FuncData
  F_are_ends : Fun K "are_ends" "are_ends" s_are_ends a_are_ends d_are_ends
  b_are_ends : Binds K d_are_ends ["many", "ends"] []
  g_are_ends : mg "are_ends" = some (.ref a_are_ends)
  a_fault_in_state : Addr
  d_fault_in_state : FuncData
  F_fault_in_state : Fun K "fault_in_state" "fault_in_state" s_fault_in_state a_fault_in_state d_fault_in_state
  b_fault_in_state : Binds K d_fault_in_state ["many", "state", "choices"] []
  g_fault_in_state : mg "fault_in_state" = some (.ref a_fault_in_state)
  a_fault : Addr
  d_fault : FuncData
  F_fault : Fun K "fault" "fault" s_fault a_fault d_fault
  b_fault : Binds K d_fault ["system"] []
  g_fault : mg "fault" = some (.ref a_fault)
  a_check : Addr
  d_check : FuncData
  F_check : Fun K "check" "check" s_check a_check d_check
  b_check : Binds K d_check ["system"] []
  g_check : mg "check" = some (.ref a_check)
  a_Bench_init : Addr
  d_Bench_init : FuncData
  F_Bench_init : Fun K "__init__" "Bench.__init__" s_Bench_init a_Bench_init d_Bench_init
  b_Bench_init : Binds K d_Bench_init ["self", "system"] []
  a_l_tape : Addr
  d_l_tape : FuncData
  F_l_tape : Fun K "_law_tape" "_law_tape" s_l_tape a_l_tape d_l_tape
  b_l_tape : Binds K d_l_tape ["script"] []
  g_l_tape : mg "_law_tape" = some (.ref a_l_tape)
  a_l_refused : Addr
  d_l_refused : FuncData
  F_l_refused : Fun K "_law_refused" "_law_refused" s_l_refused a_l_refused d_l_refused
  b_l_refused : Binds K d_l_refused ["system"] []
  g_l_refused : mg "_law_refused" = some (.ref a_l_refused)
  a_l_equal : Addr
  d_l_equal : FuncData
  F_l_equal : Fun K "_law_equal" "_law_equal" s_l_equal a_l_equal d_l_equal
  b_l_equal : Binds K d_l_equal ["actual", "due"] []
  g_l_equal : mg "_law_equal" = some (.ref a_l_equal)
  a_l_edit : Addr
  d_l_edit : FuncData
  F_l_edit : Fun K "_law_edit" "_law_edit" s_l_edit a_l_edit d_l_edit
  b_l_edit : Binds K d_l_edit ["state", "system"] []
  g_l_edit : mg "_law_edit" = some (.ref a_l_edit)
  a_l_after : Addr
  d_l_after : FuncData
  F_l_after : Fun K "_law_after" "_law_after" s_l_after a_l_after d_l_after
  b_l_after : Binds K d_l_after ["system", "edit"] []
  g_l_after : mg "_law_after" = some (.ref a_l_after)
  a_l_refusal : Addr
  d_l_refusal : FuncData
  F_l_refusal : Fun K "_law_refusal" "_law_refusal" s_l_refusal a_l_refusal d_l_refusal
  b_l_refusal : Binds K d_l_refusal ["system", "edit"] []
  g_l_refusal : mg "_law_refusal" = some (.ref a_l_refusal)
  a_Bench__turn_to : Addr
  d_Bench__turn_to : FuncData
  F_Bench__turn_to : Fun K "_turn_to" "Bench._turn_to" s_Bench__turn_to a_Bench__turn_to d_Bench__turn_to
  b_Bench__turn_to : Binds K d_Bench__turn_to ["self", "state", "system"] []
  a_Bench_undo : Addr
  d_Bench_undo : FuncData
  F_Bench_undo : Fun K "undo" "Bench.undo" s_Bench_undo a_Bench_undo d_Bench_undo
  b_Bench_undo : Binds K d_Bench_undo ["self"] []
  a_Bench_system : Addr
  d_Bench_system : FuncData
  F_Bench_system : Fun K "system" "Bench.system" s_Bench_system a_Bench_system d_Bench_system
  b_Bench_system : Binds K d_Bench_system ["self"] []
  a_Bench_changes : Addr
  d_Bench_changes : FuncData
  F_Bench_changes : Fun K "changes" "Bench.changes" s_Bench_changes a_Bench_changes d_Bench_changes
  b_Bench_changes : Binds K d_Bench_changes ["self"] []
  a_Bench_undone : Addr
  d_Bench_undone : FuncData
  F_Bench_undone : Fun K "undone" "Bench.undone" s_Bench_undone a_Bench_undone d_Bench_undone
  b_Bench_undone : Binds K d_Bench_undone ["self"] []
  a_Bench_redo : Addr
  d_Bench_redo : FuncData
  F_Bench_redo : Fun K "redo" "Bench.redo" s_Bench_redo a_Bench_redo d_Bench_redo
  b_Bench_redo : Binds K d_Bench_redo ["self"] []
  a_Bench__choices : Addr
  d_Bench__choices : FuncData
  F_Bench__choices : Fun K "_choices" "Bench._choices" s_Bench__choices a_Bench__choices d_Bench__choices
  b_Bench__choices : Binds K d_Bench__choices ["self", "state"] []
  a_Bench__others : Addr
  d_Bench__others : FuncData
  F_Bench__others : Fun K "_others" "Bench._others" s_Bench__others a_Bench__others d_Bench__others
  b_Bench__others : Binds K d_Bench__others ["self", "state", "number"] []
  a_Bench__change : Addr
  d_Bench__change : FuncData
  F_Bench__change : Fun K "_change" "Bench._change" s_Bench__change a_Bench__change d_Bench__change
  b_Bench__change : Binds K d_Bench__change ["self", "state", "choices"] []
  a_Bench_remove_choice : Addr
  d_Bench_remove_choice : FuncData
  F_Bench_remove_choice : Fun K "remove_choice" "Bench.remove_choice" s_Bench_remove_choice a_Bench_remove_choice d_Bench_remove_choice
  b_Bench_remove_choice : Binds K d_Bench_remove_choice ["self", "state", "number"] []
  a_Bench_add_choice : Addr
  d_Bench_add_choice : FuncData
  F_Bench_add_choice : Fun K "add_choice" "Bench.add_choice" s_Bench_add_choice a_Bench_add_choice d_Bench_add_choice
  b_Bench_add_choice : Binds K d_Bench_add_choice ["self", "state", "cost", "ends"] []
  a_Bench_set_choice : Addr
  d_Bench_set_choice : FuncData
  F_Bench_set_choice : Fun K "set_choice" "Bench.set_choice" s_Bench_set_choice a_Bench_set_choice d_Bench_set_choice
  b_Bench_set_choice : Binds K d_Bench_set_choice ["self", "state", "number", "cost", "ends"] []
  a_l_kind : Addr
  d_l_kind : FuncData
  F_l_kind : Fun K "_law_kind" "_law_kind" s_l_kind a_l_kind d_l_kind
  b_l_kind : Binds K d_l_kind ["e"] []
  g_l_kind : mg "_law_kind" = some (.ref a_l_kind)
  a_l_done : Addr
  d_l_done : FuncData
  F_l_done : Fun K "_law_done" "_law_done" s_l_done a_l_done d_l_done
  b_l_done : Binds K d_l_done ["bench", "edit"] []
  g_l_done : mg "_law_done" = some (.ref a_l_done)
  a_law : Addr
  d_law : FuncData
  F_law : Fun K "law" "law" s_law a_law d_law
  b_law : Binds K d_law ["script"] []
  g_law : mg "law" = some (.ref a_law)
  c_BestoddsError : Addr
  g_BestoddsError : mg "BestoddsError" = some (.ref c_BestoddsError)
  e_BestoddsError : PySem.W.excIn K c_BestoddsError [.type "ValueError", .type "Exception", .type "BaseException", .type "object"] "ValueError.__new__" = true
  k_BestoddsError : PySem.W.keepIn K (.ref c_BestoddsError) = true
  c_InvalidSystem : Addr
  g_InvalidSystem : mg "InvalidSystem" = some (.ref c_InvalidSystem)
  a_InvalidSystem : Addr
  d_InvalidSystem : FuncData
  o_InvalidSystem : OexC K c_InvalidSystem
  i_InvalidSystem : PySem.W.findIn K (.ref c_InvalidSystem) "__init__" = some (some (.ref a_InvalidSystem))
  t_InvalidSystem : PySem.W.typeIn K (.ref a_InvalidSystem) = some (.type "function")
  F_InvalidSystem : Fun K "__init__" "InvalidSystem.__init__" s_InvalidSystem a_InvalidSystem d_InvalidSystem
  b_InvalidSystem : Binds K d_InvalidSystem ["self", "fault"] []
  n_InvalidSystem : PySem.W.findIn K (.ref c_InvalidSystem) "fault" = some none
  c_BenchError : Addr
  g_BenchError : mg "BenchError" = some (.ref c_BenchError)
  e_BenchError : PySem.W.excIn K c_BenchError [.type "ValueError", .type "Exception", .type "BaseException", .type "object"] "ValueError.__new__" = true
  k_BenchError : PySem.W.keepIn K (.ref c_BenchError) = true
  c_NoSuchState : Addr
  g_NoSuchState : mg "NoSuchState" = some (.ref c_NoSuchState)
  a_NoSuchState : Addr
  d_NoSuchState : FuncData
  o_NoSuchState : OexC K c_NoSuchState
  i_NoSuchState : PySem.W.findIn K (.ref c_NoSuchState) "__init__" = some (some (.ref a_NoSuchState))
  t_NoSuchState : PySem.W.typeIn K (.ref a_NoSuchState) = some (.type "function")
  F_NoSuchState : Fun K "__init__" "NoSuchState.__init__" s_NoSuchState a_NoSuchState d_NoSuchState
  b_NoSuchState : Binds K d_NoSuchState ["self", "state"] []
  n_NoSuchState : PySem.W.findIn K (.ref c_NoSuchState) "state" = some none
  c_NoSuchChoice : Addr
  g_NoSuchChoice : mg "NoSuchChoice" = some (.ref c_NoSuchChoice)
  a_NoSuchChoice : Addr
  d_NoSuchChoice : FuncData
  o_NoSuchChoice : OexC K c_NoSuchChoice
  i_NoSuchChoice : PySem.W.findIn K (.ref c_NoSuchChoice) "__init__" = some (some (.ref a_NoSuchChoice))
  t_NoSuchChoice : PySem.W.typeIn K (.ref a_NoSuchChoice) = some (.type "function")
  F_NoSuchChoice : Fun K "__init__" "NoSuchChoice.__init__" s_NoSuchChoice a_NoSuchChoice d_NoSuchChoice
  b_NoSuchChoice : Binds K d_NoSuchChoice ["self", "number"] []
  n_NoSuchChoice : PySem.W.findIn K (.ref c_NoSuchChoice) "number" = some none
  c_TooManyChanges : Addr
  g_TooManyChanges : mg "TooManyChanges" = some (.ref c_TooManyChanges)
  e_TooManyChanges : PySem.W.excIn K c_TooManyChanges [.type "ValueError", .type "Exception", .type "BaseException", .type "object"] "ValueError.__new__" = true
  k_TooManyChanges : PySem.W.keepIn K (.ref c_TooManyChanges) = true
  z_ValueError : mg "ValueError" = none
  z_bool : mg "bool" = none
  z_enumerate : mg "enumerate" = none
  z_int : mg "int" = none
  z_isinstance : mg "isinstance" = none
  z_len : mg "len" = none
  z_list : mg "list" = none
  z_range : mg "range" = none
  z_str : mg "str" = none
  z_tuple : mg "tuple" = none
  k_MOST_CHANGES : Tok
  c_MOST_CHANGES : mg "MOST_CHANGES" = some (.int 100 k_MOST_CHANGES)
  k_MOST_CHOICES : Tok
  c_MOST_CHOICES : mg "MOST_CHOICES" = some (.int 6 k_MOST_CHOICES)
  k_MOST_COST : Tok
  c_MOST_COST : mg "MOST_COST" = some (.int 1000 k_MOST_COST)
  k_MOST_ENDS : Tok
  c_MOST_ENDS : mg "MOST_ENDS" = some (.int 6 k_MOST_ENDS)
  k_MOST_STATES : Tok
  c_MOST_STATES : mg "MOST_STATES" = some (.int 20 k_MOST_STATES)
  k_MOST_WEIGHT : Tok
  c_MOST_WEIGHT : mg "MOST_WEIGHT" = some (.int 1000 k_MOST_WEIGHT)
  m_BestoddsError : PySem.W.subIn K (.ref c_BestoddsError) (.type "BaseException") = some true
  y_BestoddsError : PySem.W.typeIn K (.ref c_BestoddsError) = some (.type "type")
  m_BenchError : PySem.W.subIn K (.ref c_BenchError) (.type "BaseException") = some true
  y_BenchError : PySem.W.typeIn K (.ref c_BenchError) = some (.type "type")
  m_TooManyChanges : PySem.W.subIn K (.ref c_TooManyChanges) (.type "BaseException") = some true
  y_TooManyChanges : PySem.W.typeIn K (.ref c_TooManyChanges) = some (.type "type")
  h_NoSuchState_BestoddsError : PySem.W.exmOne K (.ref c_NoSuchState) (.ref c_BestoddsError) = some true
  h_NoSuchChoice_BestoddsError : PySem.W.exmOne K (.ref c_NoSuchChoice) (.ref c_BestoddsError) = some true
  h_InvalidSystem_BestoddsError : PySem.W.exmOne K (.ref c_InvalidSystem) (.ref c_BestoddsError) = some true
  h_TooManyChanges_BestoddsError : PySem.W.exmOne K (.ref c_TooManyChanges) (.ref c_BestoddsError) = some true
  j_NoSuchState_NoSuchState : PySem.W.kitOne K (.ref c_NoSuchState) (.ref c_NoSuchState) = some true
  j_NoSuchState_NoSuchChoice : PySem.W.kitOne K (.ref c_NoSuchState) (.ref c_NoSuchChoice) = some false
  j_NoSuchState_InvalidSystem : PySem.W.kitOne K (.ref c_NoSuchState) (.ref c_InvalidSystem) = some false
  j_NoSuchState_TooManyChanges : PySem.W.kitOne K (.ref c_NoSuchState) (.ref c_TooManyChanges) = some false
  j_NoSuchState_ValueError : PySem.W.kitOne K (.ref c_NoSuchState) (.type "ValueError") = some true
  j_NoSuchState_BenchError : PySem.W.kitOne K (.ref c_NoSuchState) (.ref c_BenchError) = some true
  j_NoSuchChoice_NoSuchState : PySem.W.kitOne K (.ref c_NoSuchChoice) (.ref c_NoSuchState) = some false
  j_NoSuchChoice_NoSuchChoice : PySem.W.kitOne K (.ref c_NoSuchChoice) (.ref c_NoSuchChoice) = some true
  j_NoSuchChoice_InvalidSystem : PySem.W.kitOne K (.ref c_NoSuchChoice) (.ref c_InvalidSystem) = some false
  j_NoSuchChoice_TooManyChanges : PySem.W.kitOne K (.ref c_NoSuchChoice) (.ref c_TooManyChanges) = some false
  j_NoSuchChoice_ValueError : PySem.W.kitOne K (.ref c_NoSuchChoice) (.type "ValueError") = some true
  j_NoSuchChoice_BenchError : PySem.W.kitOne K (.ref c_NoSuchChoice) (.ref c_BenchError) = some true
  j_InvalidSystem_NoSuchState : PySem.W.kitOne K (.ref c_InvalidSystem) (.ref c_NoSuchState) = some false
  j_InvalidSystem_NoSuchChoice : PySem.W.kitOne K (.ref c_InvalidSystem) (.ref c_NoSuchChoice) = some false
  j_InvalidSystem_InvalidSystem : PySem.W.kitOne K (.ref c_InvalidSystem) (.ref c_InvalidSystem) = some true
  j_InvalidSystem_TooManyChanges : PySem.W.kitOne K (.ref c_InvalidSystem) (.ref c_TooManyChanges) = some false
  j_InvalidSystem_ValueError : PySem.W.kitOne K (.ref c_InvalidSystem) (.type "ValueError") = some true
  j_InvalidSystem_BenchError : PySem.W.kitOne K (.ref c_InvalidSystem) (.ref c_BenchError) = some false
  j_TooManyChanges_NoSuchState : PySem.W.kitOne K (.ref c_TooManyChanges) (.ref c_NoSuchState) = some false
  j_TooManyChanges_NoSuchChoice : PySem.W.kitOne K (.ref c_TooManyChanges) (.ref c_NoSuchChoice) = some false
  j_TooManyChanges_InvalidSystem : PySem.W.kitOne K (.ref c_TooManyChanges) (.ref c_InvalidSystem) = some false
  j_TooManyChanges_TooManyChanges : PySem.W.kitOne K (.ref c_TooManyChanges) (.ref c_TooManyChanges) = some true
  j_TooManyChanges_ValueError : PySem.W.kitOne K (.ref c_TooManyChanges) (.type "ValueError") = some true
  j_TooManyChanges_BenchError : PySem.W.kitOne K (.ref c_TooManyChanges) (.ref c_BenchError) = some true
  xc_NoSuchState : xcB K c_NoSuchState = true
  xc_NoSuchChoice : xcB K c_NoSuchChoice = true
  xc_InvalidSystem : xcB K c_InvalidSystem = true
  xc_TooManyChanges : xcB K c_TooManyChanges = true
  c_Bench : Addr
  g_Bench : mg "Bench" = some (.ref c_Bench)
  kk_Bench : ClsK K "Bench" c_Bench
  nf_Bench__now : NoAttr K c_Bench "_now"
  nf_Bench__past : NoAttr K c_Bench "_past"
  nf_Bench__ahead : NoAttr K c_Bench "_ahead"
  nf_Bench__wishes : NoAttr K c_Bench "_wishes"
  nf_Bench__many_solved : NoAttr K c_Bench "_many_solved"
  mk_Bench : Mk K c_Bench a_Bench_init
  me_Bench__turn_to : Meth K c_Bench "_turn_to" a_Bench__turn_to
  me_Bench_undo : Meth K c_Bench "undo" a_Bench_undo
  me_Bench_system : Meth K c_Bench "system" a_Bench_system
  me_Bench_changes : Meth K c_Bench "changes" a_Bench_changes
  me_Bench_undone : Meth K c_Bench "undone" a_Bench_undone
  me_Bench_redo : Meth K c_Bench "redo" a_Bench_redo
  me_Bench__choices : Meth K c_Bench "_choices" a_Bench__choices
  me_Bench__others : Meth K c_Bench "_others" a_Bench__others
  me_Bench__change : Meth K c_Bench "_change" a_Bench__change
  me_Bench_remove_choice : Meth K c_Bench "remove_choice" a_Bench_remove_choice
  me_Bench_add_choice : Meth K c_Bench "add_choice" a_Bench_add_choice
  me_Bench_set_choice : Meth K c_Bench "set_choice" a_Bench_set_choice
def Env.L {K : PySem.W.Frag} {mg : Str → Option Value} (T : Env K mg) : Cls := ⟨fun x => if x = "BestoddsError" then some T.c_BestoddsError else if x = "InvalidSystem" then some T.c_InvalidSystem else if x = "BenchError" then some T.c_BenchError else if x = "NoSuchState" then some T.c_NoSuchState else if x = "NoSuchChoice" then some T.c_NoSuchChoice else if x = "TooManyChanges" then some T.c_TooManyChanges else none, fun x => if x = "InvalidSystem" then "fault" else if x = "NoSuchState" then "state" else if x = "NoSuchChoice" then "number" else ""⟩
theorem iok_InvalidSystem {P : Program} {w : World} {K : PySem.W.Frag} {mg : Str → Option Value} {base : Heap} (T : Env K mg) : FnOk P w K mg base CX0 1 T.a_InvalidSystem T.d_InvalidSystem ["self", "fault"] (spIni K "fault") := by
  refine T.F_InvalidSystem.ok sc_InvalidSystem (fun vs H Q E h => ?_) (fun cdv A outer s H vs Q E hr h => ?_)
  · obtain ⟨a, C, v, rfl, _⟩ := h
    rfl
  · obtain ⟨a, C, v, rfl, ha, T, hf, k⟩ := h
    refine ⟨_, pss_one (ps_ost (pv 0) (pv 1)), ?_⟩
    exact ⟨_, rfl, _, rfl, a, C, rfl, T, hf, .inl ⟨ha, fun dx h1 h2 => k dx h1 h2⟩⟩
theorem iok_NoSuchState {P : Program} {w : World} {K : PySem.W.Frag} {mg : Str → Option Value} {base : Heap} (T : Env K mg) : FnOk P w K mg base CX0 1 T.a_NoSuchState T.d_NoSuchState ["self", "state"] (spIni K "state") := by
  refine T.F_NoSuchState.ok sc_NoSuchState (fun vs H Q E h => ?_) (fun cdv A outer s H vs Q E hr h => ?_)
  · obtain ⟨a, C, v, rfl, _⟩ := h
    rfl
  · obtain ⟨a, C, v, rfl, ha, T, hf, k⟩ := h
    refine ⟨_, pss_one (ps_ost (pv 0) (pv 1)), ?_⟩
    exact ⟨_, rfl, _, rfl, a, C, rfl, T, hf, .inl ⟨ha, fun dx h1 h2 => k dx h1 h2⟩⟩
theorem iok_NoSuchChoice {P : Program} {w : World} {K : PySem.W.Frag} {mg : Str → Option Value} {base : Heap} (T : Env K mg) : FnOk P w K mg base CX0 1 T.a_NoSuchChoice T.d_NoSuchChoice ["self", "number"] (spIni K "number") := by
  refine T.F_NoSuchChoice.ok sc_NoSuchChoice (fun vs H Q E h => ?_) (fun cdv A outer s H vs Q E hr h => ?_)
  · obtain ⟨a, C, v, rfl, _⟩ := h
    rfl
  · obtain ⟨a, C, v, rfl, ha, T, hf, k⟩ := h
    refine ⟨_, pss_one (ps_ost (pv 0) (pv 1)), ?_⟩
    exact ⟨_, rfl, _, rfl, a, C, rfl, T, hf, .inl ⟨ha, fun dx h1 h2 => k dx h1 h2⟩⟩
theorem sc_l_draw : FnScope ["tape", "at", "many", "number"] ["tape", "at", "many"] (defScope s_l_draw) := ⟨rfl, rfl, rfl, by decide +kernel, rfl, by decide +kernel, by decide +kernel⟩
theorem sc_l_take : FnScope ["state", "many"] ["state", "many"] (defScope s_l_take) := ⟨rfl, rfl, rfl, by decide +kernel, rfl, by decide +kernel, by decide +kernel⟩
theorem sc_l_ends : FnScope ["state", "many", "ends", "first", "goal"] ["state", "many"] (defScope s_l_ends) := ⟨rfl, rfl, rfl, by decide +kernel, rfl, by decide +kernel, by decide +kernel⟩
theorem sc_l_choices : FnScope ["state", "many", "most", "choices", "k"] ["state", "many", "most"] (defScope s_l_choices) := ⟨rfl, rfl, rfl, by decide +kernel, rfl, by decide +kernel, by decide +kernel⟩
theorem sc_l_system : FnScope ["state", "most", "many", "k"] ["state", "most"] (defScope s_l_system) := ⟨rfl, rfl, rfl, by decide +kernel, rfl, by decide +kernel, by decide +kernel⟩
theorem sc_are_ends : FnScope ["many", "ends", "before", "state", "weight"] ["many", "ends"] (defScope s_are_ends) := ⟨rfl, rfl, rfl, by decide +kernel, rfl, by decide +kernel, by decide +kernel⟩
theorem sc_fault_in_state : FnScope ["many", "state", "choices", "number", "cost", "ends"] ["many", "state", "choices"] (defScope s_fault_in_state) := ⟨rfl, rfl, rfl, by decide +kernel, rfl, by decide +kernel, by decide +kernel⟩
theorem sc_fault : FnScope ["system", "state", "choices", "found"] ["system"] (defScope s_fault) := ⟨rfl, rfl, rfl, by decide +kernel, rfl, by decide +kernel, by decide +kernel⟩
theorem sc_check : FnScope ["system", "found"] ["system"] (defScope s_check) := ⟨rfl, rfl, rfl, by decide +kernel, rfl, by decide +kernel, by decide +kernel⟩
theorem sc_Bench_init : FnScope ["self", "system"] ["self", "system"] (defScope s_Bench_init) := ⟨rfl, rfl, rfl, by decide +kernel, rfl, by decide +kernel, by decide +kernel⟩
theorem sc_l_tape : FnScope ["script", "tape", "cell", "number", "k", "first"] ["script"] (defScope s_l_tape) := ⟨rfl, rfl, rfl, by decide +kernel, rfl, by decide +kernel, by decide +kernel⟩
theorem sc_l_refused : FnScope ["system", "e"] ["system"] (defScope s_l_refused) := ⟨rfl, rfl, rfl, by decide +kernel, rfl, by decide +kernel, by decide +kernel⟩
theorem sc_l_equal : FnScope ["actual", "due", "k"] ["actual", "due"] (defScope s_l_equal) := ⟨rfl, rfl, rfl, by decide +kernel, rfl, by decide +kernel, by decide +kernel⟩
theorem sc_l_edit : FnScope ["state", "system", "at", "size", "number", "cost", "ends"] ["state", "system"] (defScope s_l_edit) := ⟨rfl, rfl, rfl, by decide +kernel, rfl, by decide +kernel, by decide +kernel⟩
theorem sc_l_after : FnScope ["system", "edit", "choices", "way", "at", "number", "cost", "ends"] ["system", "edit"] (defScope s_l_after) := ⟨rfl, rfl, rfl, by decide +kernel, rfl, by decide +kernel, by decide +kernel⟩
theorem sc_l_refusal : FnScope ["system", "edit", "found", "way", "at", "number", "cost", "ends"] ["system", "edit"] (defScope s_l_refusal) := ⟨rfl, rfl, rfl, by decide +kernel, rfl, by decide +kernel, by decide +kernel⟩
theorem sc_Bench__turn_to : FnScope ["self", "state", "system", "wish"] ["self", "state", "system"] (defScope s_Bench__turn_to) := ⟨rfl, rfl, rfl, by decide +kernel, rfl, by decide +kernel, by decide +kernel⟩
theorem sc_Bench_undo : FnScope ["self", "state", "system"] ["self"] (defScope s_Bench_undo) := ⟨rfl, rfl, rfl, by decide +kernel, rfl, by decide +kernel, by decide +kernel⟩
theorem sc_Bench_system : FnScope ["self"] ["self"] (defScope s_Bench_system) := ⟨rfl, rfl, rfl, by decide +kernel, rfl, by decide +kernel, by decide +kernel⟩
theorem sc_Bench_changes : FnScope ["self"] ["self"] (defScope s_Bench_changes) := ⟨rfl, rfl, rfl, by decide +kernel, rfl, by decide +kernel, by decide +kernel⟩
theorem sc_Bench_undone : FnScope ["self"] ["self"] (defScope s_Bench_undone) := ⟨rfl, rfl, rfl, by decide +kernel, rfl, by decide +kernel, by decide +kernel⟩
theorem sc_Bench_redo : FnScope ["self", "state", "system"] ["self"] (defScope s_Bench_redo) := ⟨rfl, rfl, rfl, by decide +kernel, rfl, by decide +kernel, by decide +kernel⟩
theorem sc_Bench__choices : FnScope ["self", "state"] ["self", "state"] (defScope s_Bench__choices) := ⟨rfl, rfl, rfl, by decide +kernel, rfl, by decide +kernel, by decide +kernel⟩
theorem sc_Bench__others : FnScope ["self", "state", "number", "choices"] ["self", "state", "number"] (defScope s_Bench__others) := ⟨rfl, rfl, rfl, by decide +kernel, rfl, by decide +kernel, by decide +kernel⟩
theorem sc_Bench__change : FnScope ["self", "state", "choices", "system"] ["self", "state", "choices"] (defScope s_Bench__change) := ⟨rfl, rfl, rfl, by decide +kernel, rfl, by decide +kernel, by decide +kernel⟩
theorem sc_Bench_remove_choice : FnScope ["self", "state", "number", "before", "after"] ["self", "state", "number"] (defScope s_Bench_remove_choice) := ⟨rfl, rfl, rfl, by decide +kernel, rfl, by decide +kernel, by decide +kernel⟩
theorem sc_Bench_add_choice : FnScope ["self", "state", "cost", "ends", "choices"] ["self", "state", "cost", "ends"] (defScope s_Bench_add_choice) := ⟨rfl, rfl, rfl, by decide +kernel, rfl, by decide +kernel, by decide +kernel⟩
theorem sc_Bench_set_choice : FnScope ["self", "state", "number", "cost", "ends", "before", "after"] ["self", "state", "number", "cost", "ends"] (defScope s_Bench_set_choice) := ⟨rfl, rfl, rfl, by decide +kernel, rfl, by decide +kernel, by decide +kernel⟩
theorem sc_l_kind : FnScope ["e", "found"] ["e"] (defScope s_l_kind) := ⟨rfl, rfl, rfl, by decide +kernel, rfl, by decide +kernel, by decide +kernel⟩
theorem sc_l_done : FnScope ["bench", "edit", "e", "way", "at", "number", "cost", "ends"] ["bench", "edit"] (defScope s_l_done) := ⟨rfl, rfl, rfl, by decide +kernel, rfl, by decide +kernel, by decide +kernel⟩
theorem sc_law : FnScope ["script", "state", "system", "bench", "before", "behind", "turn", "at", "way", "edit", "due"] ["script"] (defScope s_law) := ⟨rfl, rfl, rfl, by decide +kernel, rfl, by decide +kernel, by decide +kernel⟩
/-! ### steps of a reading -/
local macro_rules | `(tactic| walk_at "rd1") => `(tactic| (first
  | with_reducible refine r_seq ?_
  | with_reducible refine r_asg ?_
  | with_reducible refine r_name ?_
  | ((with_reducible refine r_var ?_); (refine ⟨_, rfl, ?_⟩))
  | with_reducible refine r_c ?_
  | with_reducible refine r_op ?_
  | with_reducible refine r_un ?_
  | with_reducible refine r_i0 ?_
  | with_reducible refine r_u ?_
  | with_reducible refine r_eqI ?_
  | with_reducible refine r_neI ?_
  | with_reducible refine r_eqS ?_
  | with_reducible refine r_eqB ?_
  | with_reducible refine r_tst ?_
  | with_reducible refine r_tB ?_
  | with_reducible refine r_bl ?_
  | with_reducible refine r_not ?_
  | with_reducible refine r_and ?_
  | with_reducible refine r_or ?_
  | with_reducible refine r_andV ?_
  | with_reducible refine r_orV ?_
  | with_reducible refine r_notV ?_
  | with_reducible refine r_ifs ?_
  | with_reducible refine r_ifE ?_
  | with_reducible refine r_ret ?_
  | with_reducible refine r_retN ?_
  | with_reducible refine r_next ?_
  | with_reducible refine r_brk ?_
  | with_reducible refine r_cont ?_
  | with_reducible refine r_drop ?_
  | with_reducible refine r_nil ?_
  | with_reducible refine r_cons ?_
  | with_reducible refine r_tup ?_
  | with_reducible refine r_lst ?_
  | with_reducible refine r_cb ?_
  | with_reducible refine r_call ?_
  | with_reducible refine r_chain ?_
  | ((with_reducible show V.non = V.non ∧ _); (refine ⟨rfl, ?_⟩))
  | with_reducible refine r_gsub ?_
  | with_reducible refine r_sl ?_
  | with_reducible refine r_nopart ?_
  | with_reducible refine r_part ?_
  | ((with_reducible show ∃ i, V.int _ = V.int i ∧ _); (refine ⟨_, rfl, ?_⟩))
  | with_reducible refine r_bm ?_
  | with_reducible refine r_bm0 ?_
  | with_reducible refine r_dput ?_
  | with_reducible refine r_dnew ?_
  | with_reducible refine r_for ?_
  | with_reducible refine r_iList ?_
  | with_reducible refine r_iTup ?_
  | with_reducible refine r_rng1 ?_
  | with_reducible refine r_rng2 ?_
  | ((with_reducible show (∃ j, [V.int _] = [V.int j] ∧ _) ∨ (∃ k, [V.int _] = [V.bl k] ∧ _)); (refine Or.inl ⟨_, rfl, ?_⟩))
  | ((with_reducible show ∃ j, [V.int _] = [V.int j] ∧ _); (refine ⟨_, rfl, ?_⟩))
  | ((with_reducible show (-(2 ^ 62) : Int) ≤ _ ∧ _ < (2 ^ 62 : Int) ∧ _); (refine ⟨by decide, by decide, ?_⟩))
  | with_reducible refine r_ifT ?_
  | with_reducible refine r_ifF ?_
  | with_reducible refine r_ifNT ?_
  | with_reducible refine r_ifNF ?_
  | (refine r_iC ?_ ?_; (first | exact Or.inl ⟨by decide, by decide⟩ | exact Or.inr ⟨by decide, by decide⟩ | exact ⟨by decide, by decide, by decide⟩ | exact ⟨by decide, by decide⟩ | (show (0 : Int) < _; decide)))))
local macro_rules | `(tactic| walk_at "rd") => `(tactic| repeat walk_at "rd1")

/-! ### equal data are told equal -/
def sp_eq (K : PySem.W.Frag) : Nat → Sp
  | 0 => fun _ _ _ _ => False
  | n + 1 => fun vs H Q _ => ∃ (x y : V) (d : PyData), vs = [x, y] ∧ Dp K H x d ∧ Dp K H y d ∧ Dn n d ∧ Q (.bl true) H
theorem len_map_int (ds : List PyData) (vs : List V) (e : vs.length = ds.length) (h : vs.length ≤ sizeLine) : (ds.length : Int) < 2 ^ 62 := by
  have : sizeLine = 16777216 := sizeLine_eq
  omega
theorem ok_eq_rec {P : Program} {w : World} {K : PySem.W.Frag} {mg : Str → Option Value} {base : Heap} (T : Env K mg) : ∀ n, FnOk P w K mg base CX0 (n + 1) T.a_l_equal T.d_l_equal ["actual", "due"] (sp_eq K n)
  | 0 => T.F_l_equal.ok sc_l_equal (fun vs H Q E h => h.elim) (fun cdv A outer s H vs Q E hr h => h.elim)
  | n + 1 => by
    have G_l_equal := ok_eq_rec (P := P) (w := w) (base := base) T n
    refine T.F_l_equal.ok sc_l_equal (fun vs H Q E h => ?_) (fun cdv A outer s H vs Q E hr h => ?_)
    · obtain ⟨x, y, d, rfl, _⟩ := h
      rfl
    · obtain ⟨x, y, d, rfl, hx, hy, hd, k⟩ := h
      have hr_l_equal := hr
      refine ⟨_, (pss_cons (ps_if (pt_cmpR op_isN (pv 1) pe_non (nomark _)) (pss_one (ps_ret (pe_cmpR op_isN (pv 0) pe_non (nomark _)))) pss_nil)
      (pss_cons (ps_if (pt_val (pe_callB call_isi (by rfl) T.z_isinstance (by decide +kernel) (pa_cons (pv 1) (pa_cons (pe_bltn (v := .ty "bool") (by rfl) T.z_bool (by decide +kernel) rfl) pa_nil)))) (pss_one (ps_ret (pe_and (pe_callB call_isi (by rfl) T.z_isinstance (by decide +kernel) (pa_cons (pv 0) (pa_cons (pe_bltn (v := .ty "bool") (by rfl) T.z_bool (by decide +kernel) rfl) pa_nil))) (pe_one (pe_cmpR op_eq (pv 0) (pv 1) (nomark _)))))) pss_nil)
      (pss_cons (ps_if (pt_val (pe_callB call_isi (by rfl) T.z_isinstance (by decide +kernel) (pa_cons (pv 1) (pa_cons (pe_bltn (v := .ty "int") (by rfl) T.z_int (by decide +kernel) rfl) pa_nil)))) (pss_one (ps_ret (pe_and (pe_callB call_isi (by rfl) T.z_isinstance (by decide +kernel) (pa_cons (pv 0) (pa_cons (pe_bltn (v := .ty "int") (by rfl) T.z_int (by decide +kernel) rfl) pa_nil))) (pe_and (pe_not (pe_callB call_isi (by rfl) T.z_isinstance (by decide +kernel) (pa_cons (pv 0) (pa_cons (pe_bltn (v := .ty "bool") (by rfl) T.z_bool (by decide +kernel) rfl) pa_nil)))) (pe_one (pe_cmpR op_eq (pv 0) (pv 1) (nomark _))))))) pss_nil)
      (pss_cons (ps_if (pt_val (pe_callB call_isi (by rfl) T.z_isinstance (by decide +kernel) (pa_cons (pv 1) (pa_cons (pe_bltn (v := .ty "str") (by rfl) T.z_str (by decide +kernel) rfl) pa_nil)))) (pss_one (ps_ret (pe_and (pe_callB call_isi (by rfl) T.z_isinstance (by decide +kernel) (pa_cons (pv 0) (pa_cons (pe_bltn (v := .ty "str") (by rfl) T.z_str (by decide +kernel) rfl) pa_nil))) (pe_one (pe_cmpR op_eq (pv 0) (pv 1) (nomark _)))))) pss_nil)
      (pss_cons (ps_if (PW.pt (pw_and (pt_val (pe_callB call_isi (by rfl) T.z_isinstance (by decide +kernel) (pa_cons (pv 1) (pa_cons (pe_bltn (v := .ty "tuple") (by rfl) T.z_tuple (by decide +kernel) rfl) pa_nil)))) (pw_and1 (pt_not (pt_val (pe_callB call_isi (by rfl) T.z_isinstance (by decide +kernel) (pa_cons (pv 0) (pa_cons (pe_bltn (v := .ty "tuple") (by rfl) T.z_tuple (by decide +kernel) rfl) pa_nil)))))))) (pss_one (ps_ret pe_bl)) pss_nil)
      (pss_cons (ps_if (PW.pt (pw_and (pt_val (pe_callB call_isi (by rfl) T.z_isinstance (by decide +kernel) (pa_cons (pv 1) (pa_cons (pe_bltn (v := .ty "list") (by rfl) T.z_list (by decide +kernel) rfl) pa_nil)))) (pw_and1 (pt_not (pt_val (pe_callB call_isi (by rfl) T.z_isinstance (by decide +kernel) (pa_cons (pv 0) (pa_cons (pe_bltn (v := .ty "list") (by rfl) T.z_list (by decide +kernel) rfl) pa_nil)))))))) (pss_one (ps_ret pe_bl)) pss_nil)
      (pss_cons (ps_if (pt_cmpR op_ne (pe_callB call_len_seq (by rfl) T.z_len (by decide +kernel) (pa_cons (pv 0) pa_nil)) (pe_callB call_len_seq (by rfl) T.z_len (by decide +kernel) (pa_cons (pv 1) pa_nil)) (nomark _)) (pss_one (ps_ret pe_bl)) pss_nil)
      (pss_cons (ps_for PassesOwn.never rfl (pi_range1 (by rfl) T.z_range (pa_cons (pe_callB call_len_seq (by rfl) T.z_len (by decide +kernel) (pa_cons (pv 1) pa_nil)) pa_nil)) (pg_name (i := 2) sc_l_equal.nd rfl (Or.inl rfl)) (pss_one (ps_if (pt_not (pt_val (pe_call G_l_equal hr_l_equal (by rfl) T.g_l_equal T.F_l_equal.kp T.b_l_equal .nil pass0 (pa_cons (pe_ix ix_seq (pv 0) (pv 2) (fun _ _ => rfl)) (pa_cons (pe_ix ix_seq (pv 1) (pv 2) (fun _ _ => rfl)) pa_nil))))) (pss_one (ps_ret pe_bl)) pss_nil)))
      (pss_one (ps_ret pe_bl)))))))))), ?_⟩
      cases hd with
      | non =>
        cases hx
        cases hy
        walk_at "rd"
        refine r_if (fun _ => ?_) (fun c => absurd rfl c)
        walk_at "rd"
        exact k
      | bl _ b =>
        cases hx
        cases hy
        walk_at "rd"
        refine r_if (fun c => nomatch c) (fun _ => ?_)
        walk_at "rd"
        refine r_isi (a := "bool") true (.base (.bl b)) (by decide +kernel) ?_
        walk_at "rd"
        refine r_isi (a := "bool") true (.base (.bl b)) (by decide +kernel) ?_
        walk_at "rd"
        rw [decide_eq_true rfl]
        exact k
      | int _ i =>
        cases hx
        cases hy
        walk_at "rd"
        refine r_if (fun c => nomatch c) (fun _ => ?_)
        walk_at "rd"
        refine r_isi (a := "int") false (.base (.int i)) (by decide +kernel) ?_
        walk_at "rd"
        refine r_isi (a := "int") true (.base (.int i)) (by decide +kernel) ?_
        walk_at "rd"
        refine r_isi (a := "int") true (.base (.int i)) (by decide +kernel) ?_
        walk_at "rd"
        refine r_isi (a := "int") false (.base (.int i)) (by decide +kernel) ?_
        walk_at "rd"
        rw [decide_eq_true rfl]
        exact k
      | str _ z =>
        cases hx
        cases hy
        walk_at "rd"
        refine r_if (fun c => nomatch c) (fun _ => ?_)
        walk_at "rd"
        refine r_isi (a := "str") false (.base (.str z)) (by decide +kernel) ?_
        walk_at "rd"
        refine r_isi (a := "str") false (.base (.str z)) (by decide +kernel) ?_
        walk_at "rd"
        refine r_isi (a := "str") true (.base (.str z)) (by decide +kernel) ?_
        walk_at "rd"
        refine r_isi (a := "str") true (.base (.str z)) (by decide +kernel) ?_
        walk_at "rd"
        rw [decide_eq_true rfl]
        exact k
      | @tup m ds hl hd =>
        cases hx with
        | @tup a xs _ hs ha =>
        cases hy with
        | @tup b ys _ ht hb =>
        walk_at "rd"
        refine r_if (fun c => nomatch c) (fun _ => ?_)
        walk_at "rd"
        refine r_isi (a := "tuple") false (tyx_t ht) (by decide +kernel) ?_
        walk_at "rd"
        refine r_isi (a := "tuple") false (tyx_t ht) (by decide +kernel) ?_
        walk_at "rd"
        refine r_isi (a := "tuple") false (tyx_t ht) (by decide +kernel) ?_
        walk_at "rd"
        refine r_isi (a := "tuple") true (tyx_t ht) (by decide +kernel) ?_
        walk_at "rd"
        refine r_isi (a := "tuple") true (tyx_t hs) (by decide +kernel) ?_
        walk_at "rd"
        refine r_isi (a := "tuple") false (tyx_t ht) (by decide +kernel) ?_
        walk_at "rd"
        refine ⟨a, _, rfl, .inr hs, ?_⟩
        walk_at "rd"
        refine ⟨b, _, rfl, .inr ht, ?_⟩
        walk_at "rd"
        have lx := dpa_len ha
        have ly := dpa_len hb
        refine r_ifN (fun c => absurd (by rw [lx, ly]) c) (fun _ => ?_)
        walk_at "rd"
        refine ⟨b, _, rfl, .inr ht, ?_⟩
        walk_at "rd"
        refine ⟨by omega, by omega, ?_⟩
        refine for_range (n := ys.length) (fun i σ H2 => ∃ v : Option V, σ = [some (.ref a), some (.ref b), v] ∧ H2 = H) ⟨none, rfl, rfl⟩ ?_ ?_
        · rintro i σ H2 hi ⟨v, rfl, rfl⟩
          obtain ⟨d, hdi⟩ : ∃ d, ds[i]? = some d := ⟨ds[i]'(by omega), List.getElem?_eq_getElem (by omega)⟩
          obtain ⟨x, hx1, hx2⟩ := dpa_get ha hdi
          obtain ⟨y, hy1, hy2⟩ := dpa_get hb hdi
          walk_at "rd"
          refine r_ixQT hs (at_of (j := i) (by omega) hx1) ?_
          walk_at "rd"
          refine r_ixQT ht (at_of (j := i) (by omega) hy1) ?_
          walk_at "rd"
          refine ⟨x, y, d, rfl, hx2, hy2, hd d (List.mem_of_getElem? hdi), ?_⟩
          walk_at "rd"
          exact ⟨_, rfl, rfl⟩
        · rintro σ H2 ⟨v, rfl, rfl⟩
          walk_at "rd"
          exact k
      | @lst m ds hl hd =>
        cases hx with
        | @lst a xs _ hs ha =>
        cases hy with
        | @lst b ys _ ht hb =>
        walk_at "rd"
        refine r_if (fun c => nomatch c) (fun _ => ?_)
        walk_at "rd"
        refine r_isi (a := "list") false (tyx_l ht) (by decide +kernel) ?_
        walk_at "rd"
        refine r_isi (a := "list") false (tyx_l ht) (by decide +kernel) ?_
        walk_at "rd"
        refine r_isi (a := "list") false (tyx_l ht) (by decide +kernel) ?_
        walk_at "rd"
        refine r_isi (a := "list") false (tyx_l ht) (by decide +kernel) ?_
        walk_at "rd"
        refine r_isi (a := "list") true (tyx_l ht) (by decide +kernel) ?_
        walk_at "rd"
        refine r_isi (a := "list") true (tyx_l hs) (by decide +kernel) ?_
        walk_at "rd"
        refine ⟨a, _, rfl, .inl hs, ?_⟩
        walk_at "rd"
        refine ⟨b, _, rfl, .inl ht, ?_⟩
        walk_at "rd"
        have lx := dpa_len ha
        have ly := dpa_len hb
        refine r_ifN (fun c => absurd (by rw [lx, ly]) c) (fun _ => ?_)
        walk_at "rd"
        refine ⟨b, _, rfl, .inl ht, ?_⟩
        walk_at "rd"
        refine ⟨by omega, by omega, ?_⟩
        refine for_range (n := ys.length) (fun i σ H2 => ∃ v : Option V, σ = [some (.ref a), some (.ref b), v] ∧ H2 = H) ⟨none, rfl, rfl⟩ ?_ ?_
        · rintro i σ H2 hi ⟨v, rfl, rfl⟩
          obtain ⟨d, hdi⟩ : ∃ d, ds[i]? = some d := ⟨ds[i]'(by omega), List.getElem?_eq_getElem (by omega)⟩
          obtain ⟨x, hx1, hx2⟩ := dpa_get ha hdi
          obtain ⟨y, hy1, hy2⟩ := dpa_get hb hdi
          walk_at "rd"
          refine r_ixQL hs (at_of (j := i) (by omega) hx1) ?_
          walk_at "rd"
          refine r_ixQL ht (at_of (j := i) (by omega) hy1) ?_
          walk_at "rd"
          refine ⟨x, y, d, rfl, hx2, hy2, hd d (List.mem_of_getElem? hdi), ?_⟩
          walk_at "rd"
          exact ⟨_, rfl, rfl⟩
        · rintro σ H2 ⟨v, rfl, rfl⟩
          walk_at "rd"
          exact k

theorem ok_l_equal {P : Program} {w : World} {K : PySem.W.Frag} {mg : Str → Option Value} {base : Heap} (T : Env K mg) : FnOk P w K mg base CX0 9 T.a_l_equal T.d_l_equal ["actual", "due"] (spP K 2 (denEq 7)) := by
  refine (ok_eq_rec T 8).imp fun vs H Q E h => ?_
  obtain ⟨ds, B, d, bh, hl, h⟩ := h
  match ds, hl, d, h with
  | [a, b], _, .cons (v := x) d1 (.cons (v := y) d2 .nil), h =>
    unfold denEq at h
    simp only at h
    split at h
    · rename_i c
      obtain ⟨rfl, hd⟩ := c
      exact ⟨x, y, _, rfl, da_dp (da_mono bh d1), da_dp (da_mono bh d2), hd, h (.bl true) H B (fun _ _ z => z) (Same.refl _) bh (fun _ _ z => .inl z) (.bl true)⟩
    · exact h.elim

theorem ok_l_draw {P : Program} {w : World} {K : PySem.W.Frag} {mg : Str → Option Value} {base : Heap} (T : Env K mg) : FnOk P w K mg base CX0 1 T.a_l_draw T.d_l_draw ["tape", "at", "many"] (spP K 3 den_l_draw) := by
  refine T.F_l_draw.ok sc_l_draw (fun vs H Q E h => len_P h) (fun cdv A outer s H vs Q E hr h => ?_)
  refine ⟨_, (pss_cons (ps_if (pt_cmpR op_lt (pv 1) (pe_callB (k_len K) (by rfl) T.z_len (by decide +kernel) (pa_cons (pv 0) pa_nil)) (nomark _)) (pss_one (ps_ret (pe_op op_modN (pe_callTy call_int1 (by rfl) T.z_int (by decide +kernel) (pa_cons (pe_ix (ixL K) (pv 0) (pv 1) (fun _ _ => rfl)) pa_nil)) (pv 2)))) pss_nil)
      (pss_cons (ps_set (i := 3) sc_l_draw.nd rfl (Or.inl rfl) pe_int)
      (pss_cons (ps_if (pt_cmpR op_gt (pe_callB (k_len K) (by rfl) T.z_len (by decide +kernel) (pa_cons (pv 0) pa_nil)) pe_int (nomark _)) (pss_one (ps_set (i := 3) sc_l_draw.nd rfl (Or.inl rfl) (pe_ix (ixL K) (pv 0) (pe_op op_modN (pe_callTy call_int1 (by rfl) T.z_int (by decide +kernel) (pa_cons (pv 1) pa_nil)) (pe_callB (k_len K) (by rfl) T.z_len (by decide +kernel) (pa_cons (pv 0) pa_nil))) (fun _ _ => rfl)))) pss_nil)
      (pss_one (ps_ret (pe_op op_modN (pe_op op_modN (pe_callTy call_int1 (by rfl) T.z_int (by decide +kernel) (pa_cons (pe_op op_add (pe_op op_mul (pe_op op_mulW (pe_op op_add (pv 3) (pv 1)) (pe_op op_add (pv 1) pe_int)) pe_int) (pe_op op_mul (pv 1) pe_int)) pa_nil)) pe_int) (pv 2))))))), ?_⟩
  exact run_P (N := ["tape", "at", "many", "number"]) (f := body_l_draw) (fun _ => (st_seq (st_if (s_tst (s_op o_ib s_var (s_cb c_len (s_cons s_var s_nil)))) (st_ret (s_op o_mod (s_cb c_int (s_cons (s_op o_ixL s_var s_var) s_nil)) s_var)) st_next)
      (st_seq (st_asg s_int (g_name (by decide)))
      (st_seq (st_if (s_tst (s_op o_ib (s_cb c_len (s_cons s_var s_nil)) s_int)) (st_asg (s_op o_ixL s_var (s_op o_mod (s_cb c_int (s_cons s_var s_nil)) (s_cb c_len (s_cons s_var s_nil)))) (g_name (by decide))) st_next)
      (st_ret (s_op o_mod (s_op o_mod (s_cb c_int (s_cons (s_op o_i0 (s_op o_mulS (s_op o_mul (s_op o_i0 s_var s_var) (s_op o_i0 s_var s_int)) s_int) (s_op o_mulS s_var s_int)) s_nil)) s_int) s_var)))))) h
theorem ok_l_take {P : Program} {w : World} {K : PySem.W.Frag} {mg : Str → Option Value} {base : Heap} (T : Env K mg) : FnOk P w K mg base CX0 2 T.a_l_take T.d_l_take ["state", "many"] (spB K 1 den_l_take) := by
  refine T.F_l_take.ok sc_l_take (fun vs H Q E h => len_B h) (fun cdv A outer s H vs Q E hr h => ?_)
  have G_l_draw := ok_l_draw (P := P) (w := w) (base := base) T
  have hr_l_draw : Room 1 _ := hr.mono (by decide)
  refine ⟨_, (pss_cons (ps_asg (pe_op op_add (pe_ix (ixL K) (pv 0) pe_int (fun _ _ => rfl)) pe_int) (pg_sub (pv 0) pe_int set_list))
      (pss_one (ps_ret (pe_call G_l_draw hr_l_draw (by rfl) T.g_l_draw T.F_l_draw.kp T.b_l_draw .nil pass0 (pa_cons (pe_ix (ixL K) (pv 0) pe_int (fun _ _ => rfl)) (pa_cons (pe_ix (ixL K) (pv 0) pe_int (fun _ _ => rfl)) (pa_cons (pv 1) pa_nil))))))), ?_⟩
  exact run_B (N := ["many"]) (f := body_l_take) (fun _ => (st_seq (st_setI s_int (s_op o_i0 (s_ixO s_int) s_int))
      (st_ret (s_callP (s_cons (s_ixO s_int) (s_cons (s_ixO s_int) (s_cons s_var s_nil))))))) h
theorem ok_l_ends {P : Program} {w : World} {K : PySem.W.Frag} {mg : Str → Option Value} {base : Heap} (T : Env K mg) : FnOk P w K mg base CX0 3 T.a_l_ends T.d_l_ends ["state", "many"] (spB K 1 den_l_ends) := by
  refine T.F_l_ends.ok sc_l_ends (fun vs H Q E h => len_B h) (fun cdv A outer s H vs Q E hr h => ?_)
  have G_l_take := ok_l_take (P := P) (w := w) (base := base) T
  have hr_l_take : Room 2 _ := hr.mono (by decide)
  refine ⟨_, (pss_cons (ps_set (i := 2) sc_l_ends.nd rfl (Or.inl rfl) (pe_lst pa_nil))
      (pss_cons (ps_set (i := 3) sc_l_ends.nd rfl (Or.inl rfl) (pe_call G_l_take hr_l_take (by rfl) T.g_l_take T.F_l_take.kp T.b_l_take .nil pass0 (pa_cons (pv 0) (pa_cons (pv 1) pa_nil))))
      (pss_cons (ps_for PassesOwn.never rfl (pi_range1 (by rfl) T.z_range (pa_cons (pv 1) pa_nil)) (pg_name (i := 4) sc_l_ends.nd rfl (Or.inl rfl)) (pss_one (ps_if (PW.pt (pw_or (pt_cmpR op_eq (pv 4) (pv 3) (nomark _)) (pw_or1 (pt_cmpR op_eq (pe_call G_l_take hr_l_take (by rfl) T.g_l_take T.F_l_take.kp T.b_l_take .nil pass0 (pa_cons (pv 0) (pa_cons pe_int pa_nil))) pe_int (nomark _))))) (pss_one (ps_expr (pe_bm PySem.F.plainAttrs_list PySem.F.slot_list_append PySem.F.type_list_append mt_append (pv 2) (pa_cons (pe_tup (pa_cons (pv 4) (pa_cons (pe_ix (ixL K) (pe_lst (pa_cons pe_int (pa_cons pe_int (pa_cons pe_int (pa_cons pe_int (pa_cons pe_int (pa_cons pe_int pa_nil))))))) (pe_call G_l_take hr_l_take (by rfl) T.g_l_take T.F_l_take.kp T.b_l_take .nil pass0 (pa_cons (pv 0) (pa_cons pe_int pa_nil))) (fun _ _ => rfl)) pa_nil))) pa_nil)))) pss_nil)))
      (pss_one (ps_ret (pe_callTy (k_tuple K) (by rfl) T.z_tuple (by decide +kernel) (pa_cons (pv 2) pa_nil))))))), ?_⟩
  exact run_B (N := ["many", "ends", "first", "goal"]) (f := body_l_ends) (fun _ => (st_seq (st_own (by decide) (f_lst s_nil))
      (st_seq (st_asg (s_callB (s_cons s_var s_nil)) (g_name (by decide)))
      (st_seq (st_for (i_range1 (s_cons s_var s_nil)) (g_name (by decide)) (st_if (s_or (s_tst (s_op o_eq s_var s_var)) (s_tst (s_op o_eq (s_callB (s_cons s_int s_nil)) s_int))) (st_drop (s_app (s_tup (s_cons s_var (s_cons (s_op o_ixL (s_lst (s_cons s_int (s_cons s_int (s_cons s_int (s_cons s_int (s_cons s_int (s_cons s_int s_nil))))))) (s_callB (s_cons s_int s_nil))) s_nil))))) st_next))
      (st_ret s_tupleO))))) h
theorem ok_l_choices {P : Program} {w : World} {K : PySem.W.Frag} {mg : Str → Option Value} {base : Heap} (T : Env K mg) : FnOk P w K mg base CX0 4 T.a_l_choices T.d_l_choices ["state", "many", "most"] (spB K 2 den_l_choices) := by
  refine T.F_l_choices.ok sc_l_choices (fun vs H Q E h => len_B h) (fun cdv A outer s H vs Q E hr h => ?_)
  have G_l_take := ok_l_take (P := P) (w := w) (base := base) T
  have hr_l_take : Room 2 _ := hr.mono (by decide)
  have G_l_ends := ok_l_ends (P := P) (w := w) (base := base) T
  have hr_l_ends : Room 3 _ := hr.mono (by decide)
  refine ⟨_, (pss_cons (ps_set (i := 3) sc_l_choices.nd rfl (Or.inl rfl) (pe_lst pa_nil))
      (pss_cons (ps_for PassesOwn.never rfl (pi_range1 (by rfl) T.z_range (pa_cons (pe_op op_add pe_int (pe_call G_l_take hr_l_take (by rfl) T.g_l_take T.F_l_take.kp T.b_l_take .nil pass0 (pa_cons (pv 0) (pa_cons (pv 2) pa_nil)))) pa_nil)) (pg_name (i := 4) sc_l_choices.nd rfl (Or.inl rfl)) (pss_one (ps_expr (pe_bm PySem.F.plainAttrs_list PySem.F.slot_list_append PySem.F.type_list_append mt_append (pv 3) (pa_cons (pe_tup (pa_cons (pe_ix (ixL K) (pe_lst (pa_cons pe_int (pa_cons pe_int (pa_cons pe_int (pa_cons pe_int (pa_cons pe_int pa_nil)))))) (pe_call G_l_take hr_l_take (by rfl) T.g_l_take T.F_l_take.kp T.b_l_take .nil pass0 (pa_cons (pv 0) (pa_cons pe_int pa_nil))) (fun _ _ => rfl)) (pa_cons (pe_call G_l_ends hr_l_ends (by rfl) T.g_l_ends T.F_l_ends.kp T.b_l_ends .nil pass0 (pa_cons (pv 0) (pa_cons (pv 1) pa_nil))) pa_nil))) pa_nil)))))
      (pss_one (ps_ret (pe_callTy (k_tuple K) (by rfl) T.z_tuple (by decide +kernel) (pa_cons (pv 3) pa_nil)))))), ?_⟩
  exact run_B (N := ["many", "most", "choices", "k"]) (f := body_l_choices) (fun _ => (st_seq (st_own (by decide) (f_lst s_nil))
      (st_seq (st_for (i_range1 (s_cons (s_op o_i0 s_int (s_callB (s_cons s_var s_nil))) s_nil)) (g_name (by decide)) (st_drop (s_app (s_tup (s_cons (s_op o_ixL (s_lst (s_cons s_int (s_cons s_int (s_cons s_int (s_cons s_int (s_cons s_int s_nil)))))) (s_callB (s_cons s_int s_nil))) (s_cons (s_callB (s_cons s_var s_nil)) s_nil))))))
      (st_ret s_tupleO)))) h
theorem ok_l_system {P : Program} {w : World} {K : PySem.W.Frag} {mg : Str → Option Value} {base : Heap} (T : Env K mg) : FnOk P w K mg base CX0 5 T.a_l_system T.d_l_system ["state", "most"] (spB K 1 den_l_system) := by
  refine T.F_l_system.ok sc_l_system (fun vs H Q E h => len_B h) (fun cdv A outer s H vs Q E hr h => ?_)
  have G_l_take := ok_l_take (P := P) (w := w) (base := base) T
  have hr_l_take : Room 2 _ := hr.mono (by decide)
  have G_l_choices := ok_l_choices (P := P) (w := w) (base := base) T
  have hr_l_choices : Room 4 _ := hr.mono (by decide)
  refine ⟨_, (pss_cons (ps_set (i := 2) sc_l_system.nd rfl (Or.inr rfl) (pe_op op_add pe_int (pe_call G_l_take hr_l_take (by rfl) T.g_l_take T.F_l_take.kp T.b_l_take .nil pass0 (pa_cons (pv 0) (pa_cons (pv 1) pa_nil)))))
      (pss_one (ps_ret (pe_callTy (k_tuple K) (by rfl) T.z_tuple (by decide +kernel) (pa_cons (pe_lc (own := [("k", 3)]) (g := gName 3) (by rfl) sc_l_system.nd (pi_range1 (by rfl) T.z_range (pa_cons (pv 2) pa_nil)) (blkOk_by (own := [("k", 3)]) (N := ["state", "most", "many", "k"]) (sc := defScope s_l_system) (by decide +kernel)) (fun _ _ _ _ _ => (pg_name (i := 3) sc_l_system.nd rfl (Or.inl rfl))) (fun _ _ _ _ _ => pts_nil) (fun _ _ _ _ _ => (pe_call G_l_choices hr_l_choices (by rfl) T.g_l_choices T.F_l_choices.kp T.b_l_choices .nil pass0 (pa_cons (pv 0) (pa_cons (pv 2) (pa_cons pe_int pa_nil)))))) pa_nil))))), ?_⟩
  exact run_B (N := ["most", "many", "k"]) (f := body_l_system) (fun _ => (st_seq (st_asg (s_op o_i0 s_int (s_callB (s_cons s_var s_nil))) (g_name (by decide)))
      (st_ret (s_cb c_tuple (s_cons (s_fr (f_lc (by decide) (by decide) (i_range1 (s_cons s_var s_nil)) (fun _ => (g_name (by decide))) (fun _ => s_yes) (fun _ => (s_callB (s_cons s_var (s_cons s_int s_nil)))))) s_nil))))) h
theorem ok_are_ends {P : Program} {w : World} {K : PySem.W.Frag} {mg : Str → Option Value} {base : Heap} (T : Env K mg) : FnOk P w K mg base CX0 1 T.a_are_ends T.d_are_ends ["many", "ends"] (spP K 2 den_are_ends) := by
  refine T.F_are_ends.ok sc_are_ends (fun vs H Q E h => len_P h) (fun cdv A outer s H vs Q E hr h => ?_)
  refine ⟨_, (pss_cons (ps_if (pt_not (pt_chain op_le op_le pe_int (pe_callB (k_len K) (by rfl) T.z_len (by decide +kernel) (pa_cons (pv 1) pa_nil)) (pe_glob (v := .int 6) (by rfl) T.c_MOST_ENDS ⟨_, rfl⟩))) (pss_one (ps_ret pe_bl)) pss_nil)
      (pss_cons (ps_set (i := 2) sc_are_ends.nd rfl (Or.inl rfl) (pe_un un_neg pe_int))
      (pss_cons (ps_for PassesOwn.never rfl (k_iTup K (by rfl) (pv 1)) (k_gTup K (by rfl) (by rfl) (pgs_cons (pg_name (i := 3) sc_are_ends.nd rfl (Or.inl rfl)) (pgs_cons (pg_name (i := 4) sc_are_ends.nd rfl (Or.inl rfl)) pgs_nil))) (pss_cons (ps_if (pt_not (pt_chain op_lt op_lt (pv 2) (pv 3) (pv 0))) (pss_one (ps_ret pe_bl)) pss_nil)
      (pss_cons (ps_if (pt_not (pt_chain op_le op_le pe_int (pv 4) (pe_glob (v := .int 1000) (by rfl) T.c_MOST_WEIGHT ⟨_, rfl⟩))) (pss_one (ps_ret pe_bl)) pss_nil)
      (pss_one (ps_set (i := 2) sc_are_ends.nd rfl (Or.inl rfl) (pv 3))))))
      (pss_one (ps_ret pe_bl))))), ?_⟩
  exact run_P (N := ["many", "ends", "before", "state", "weight"]) (f := body_are_ends) (fun _ => (st_seq (st_if (s_not (s_tst (s_chain o_ib o_ib s_int (s_cb c_len (s_cons s_var s_nil)) s_int))) (st_ret s_bl) st_next)
      (st_seq (st_asg (s_neg s_int) (g_name (by decide)))
      (st_seq (st_then (by decide) (st_for (i_tup s_var) (g_tup (g_cons (g_name (by decide)) (g_cons (g_name (by decide)) g_nil))) (st_then (by decide) (st_seq (st_if (s_not (s_tst (s_chain o_ib o_ib s_var s_var s_var))) (st_ret s_bl) st_next)
      (st_seq (st_if (s_not (s_tst (s_chain o_ib o_ib s_int s_var s_int))) (st_ret s_bl) st_next)
      (st_asg s_var (g_name (by decide))))))))
      (st_ret s_bl))))) h
theorem ok_fault_in_state {P : Program} {w : World} {K : PySem.W.Frag} {mg : Str → Option Value} {base : Heap} (T : Env K mg) : FnOk P w K mg base CX0 2 T.a_fault_in_state T.d_fault_in_state ["many", "state", "choices"] (spP K 3 den_fault_in_state) := by
  refine T.F_fault_in_state.ok sc_fault_in_state (fun vs H Q E h => len_P h) (fun cdv A outer s H vs Q E hr h => ?_)
  have G_are_ends := ok_are_ends (P := P) (w := w) (base := base) T
  have hr_are_ends : Room 1 _ := hr.mono (by decide)
  refine ⟨_, (pss_cons (ps_if (pt_not (pt_chain op_le op_le pe_int (pe_callB (k_len K) (by rfl) T.z_len (by decide +kernel) (pa_cons (pv 2) pa_nil)) (pe_glob (v := .int 6) (by rfl) T.c_MOST_CHOICES ⟨_, rfl⟩))) (pss_one (ps_ret (pe_tup (pa_cons pe_str (pa_cons (pv 1) pa_nil))))) pss_nil)
      (pss_cons (ps_for PassesOwn.never rfl (pi_enumK .T (by rfl) T.z_enumerate (pa_cons (pv 2) pa_nil)) (k_gTup K (by rfl) (by rfl) (pgs_cons (pg_name (i := 3) sc_fault_in_state.nd rfl (Or.inl rfl)) (pgs_cons (k_gTup K (by rfl) (by rfl) (pgs_cons (pg_name (i := 4) sc_fault_in_state.nd rfl (Or.inl rfl)) (pgs_cons (pg_name (i := 5) sc_fault_in_state.nd rfl (Or.inl rfl)) pgs_nil))) pgs_nil))) (pss_cons (ps_if (pt_not (pt_chain op_le op_le pe_int (pv 4) (pe_glob (v := .int 1000) (by rfl) T.c_MOST_COST ⟨_, rfl⟩))) (pss_one (ps_ret (pe_tup (pa_cons pe_str (pa_cons (pv 1) (pa_cons (pv 3) pa_nil)))))) pss_nil)
      (pss_one (ps_if (pt_not (pt_val (pe_call G_are_ends hr_are_ends (by rfl) T.g_are_ends T.F_are_ends.kp T.b_are_ends .nil pass0 (pa_cons (pv 0) (pa_cons (pv 5) pa_nil))))) (pss_one (ps_ret (pe_tup (pa_cons pe_str (pa_cons (pv 1) (pa_cons (pv 3) pa_nil)))))) pss_nil))))
      (pss_one (ps_ret pe_non)))), ?_⟩
  exact run_P (N := ["many", "state", "choices", "number", "cost", "ends"]) (f := body_fault_in_state) (fun _ => (st_seq (st_if (s_not (s_tst (s_chain o_ib o_ib s_int (s_cb c_len (s_cons s_var s_nil)) s_int))) (st_ret (s_tup (s_cons s_str (s_cons s_var s_nil)))) st_next)
      (st_seq (st_then (by decide) (st_for (i_enumK (s_cons s_var s_nil)) (g_tup (g_cons (g_name (by decide)) (g_cons (g_tup (g_cons (g_name (by decide)) (g_cons (g_name (by decide)) g_nil))) g_nil))) (st_then (by decide) (st_seq (st_if (s_not (s_tst (s_chain o_ib o_ib s_int s_var s_int))) (st_ret (s_tup (s_cons s_str (s_cons s_var (s_cons s_var s_nil))))) st_next)
      (st_if (s_not (s_tB (s_callP (s_cons s_var (s_cons s_var s_nil))))) (st_ret (s_tup (s_cons s_str (s_cons s_var (s_cons s_var s_nil))))) st_next)))))
      (st_ret s_non)))) h
theorem ok_fault {P : Program} {w : World} {K : PySem.W.Frag} {mg : Str → Option Value} {base : Heap} (T : Env K mg) : FnOk P w K mg base CX0 3 T.a_fault T.d_fault ["system"] (spP K 1 den_fault) := by
  refine T.F_fault.ok sc_fault (fun vs H Q E h => len_P h) (fun cdv A outer s H vs Q E hr h => ?_)
  have G_fault_in_state := ok_fault_in_state (P := P) (w := w) (base := base) T
  have hr_fault_in_state : Room 2 _ := hr.mono (by decide)
  refine ⟨_, (pss_cons (ps_if (pt_not (pt_chain op_le op_le pe_int (pe_callB (k_len K) (by rfl) T.z_len (by decide +kernel) (pa_cons (pv 0) pa_nil)) (pe_glob (v := .int 20) (by rfl) T.c_MOST_STATES ⟨_, rfl⟩))) (pss_one (ps_ret (pe_tup (pa_cons pe_str pa_nil)))) pss_nil)
      (pss_cons (ps_for PassesOwn.never rfl (pi_enumK .T (by rfl) T.z_enumerate (pa_cons (pv 0) pa_nil)) (k_gTup K (by rfl) (by rfl) (pgs_cons (pg_name (i := 1) sc_fault.nd rfl (Or.inl rfl)) (pgs_cons (pg_name (i := 2) sc_fault.nd rfl (Or.inl rfl)) pgs_nil))) (pss_cons (ps_set (i := 3) sc_fault.nd rfl (Or.inl rfl) (pe_call G_fault_in_state hr_fault_in_state (by rfl) T.g_fault_in_state T.F_fault_in_state.kp T.b_fault_in_state .nil pass0 (pa_cons (pe_callB (k_len K) (by rfl) T.z_len (by decide +kernel) (pa_cons (pv 0) pa_nil)) (pa_cons (pv 1) (pa_cons (pv 2) pa_nil)))))
      (pss_one (ps_if (pt_cmpR op_notN (pv 3) pe_non (nomark _)) (pss_one (ps_ret (pv 3))) pss_nil))))
      (pss_one (ps_ret pe_non)))), ?_⟩
  exact run_P (N := ["system", "state", "choices", "found"]) (f := body_fault) (fun _ => (st_seq (st_if (s_not (s_tst (s_chain o_ib o_ib s_int (s_cb c_len (s_cons s_var s_nil)) s_int))) (st_ret (s_tup (s_cons s_str s_nil))) st_next)
      (st_seq (st_then (by decide) (st_for (i_enumK (s_cons s_var s_nil)) (g_tup (g_cons (g_name (by decide)) (g_cons (g_name (by decide)) g_nil))) (st_then (by decide) (st_seq (st_asg (s_callP (s_cons (s_cb c_len (s_cons s_var s_nil)) (s_cons s_var (s_cons s_var s_nil)))) (g_name (by decide)))
      (st_if (s_tst (s_op o_notN s_var s_non)) (st_ret s_var) st_next)))))
      (st_ret s_non)))) h
theorem ok_check {P : Program} {w : World} {K : PySem.W.Frag} {mg : Str → Option Value} {base : Heap} (T : Env K mg) : FnOk P w K mg base (L2.CX P w) 4 T.a_check T.d_check ["system"] (spX K T.L 1 den_check) := by
  refine T.F_check.okX sc_check (fun vs H Q E h => len_X h) (fun cdv A outer s H vs Q E hr h => ?_)
  have G_fault := ok_fault (P := P) (w := w) (base := base) T
  have hr_fault : Room 3 _ := hr.mono (by decide)
  have I_InvalidSystem := iok_InvalidSystem (P := P) (w := w) (base := base) T
  have hr_InvalidSystem : Room 2 _ := hr.mono (by decide)
  have tk : Takes (cxOf (L2.CX P w) P w K mg base ["system", "found"] "check" (defScope s_check) T.a_check cdv A outer s H E) (fun cls d _ H => E cls d H) := takes_of rfl rfl rfl rfl
  refine ⟨_, (pss_cons (ps_nox (ps_set (i := 1) sc_check.nd rfl (Or.inl rfl) (pe_call G_fault hr_fault (by rfl) T.g_fault T.F_fault.kp T.b_fault .nil pass0 (pa_cons (pv 0) pa_nil))))
      (pss_one (ps_if (PT.nox (pt_cmpR op_notN (pv 1) pe_non (nomark _))) (pss_one (ps_raise rfl tk (pmk_oex T.o_InvalidSystem T.i_InvalidSystem T.t_InvalidSystem I_InvalidSystem hr_InvalidSystem T.b_InvalidSystem .nil pass0 (by rfl) T.g_InvalidSystem (pa_cons (pv 1) pa_nil)))) pss_nil))), ?_⟩
  exact run_X (N := ["system", "found"]) (f := body_check) (fun C lk => (st_seq (st_asg (s_callP (s_cons s_var s_nil)) (g_name (by decide)))
      (st_if (s_tst (s_op o_notN s_var s_non)) (st_raise lk rfl rfl T.o_InvalidSystem T.n_InvalidSystem (s_cons s_var s_nil)) st_next))) h
theorem ok_Bench_init {P : Program} {w : World} {K : PySem.W.Frag} {mg : Str → Option Value} {base : Heap} (T : Env K mg) : FnOk P w K mg base (L2.CX P w) 5 T.a_Bench_init T.d_Bench_init ["self", "system"] (spO K T.L "Bench" 1 den_Bench_init) := by
  refine T.F_Bench_init.okX sc_Bench_init (fun vs H Q E h => len_O h) (fun cdv A outer s H vs Q E hr h => ?_)
  have G_check := ok_check (P := P) (w := w) (base := base) T
  have hr_check : Room 4 _ := hr.mono (by decide)
  have tk : Takes (cxOf (L2.CX P w) P w K mg base ["self", "system"] "Bench.__init__" (defScope s_Bench_init) T.a_Bench_init cdv A outer s H E) (fun cls d _ H => E cls d H) := takes_of rfl rfl rfl rfl
  refine ⟨_, (pss_cons (ps_expr (pe_callS G_check hr_check (by rfl) T.g_check T.F_check.kp T.b_check (fun σ => passAt tk σ) (pa_cons (pv 1) pa_nil)))
      (pss_cons (ps_nox (ps_fld (pv 0) (pv 1) rfl))
      (pss_cons (ps_nox (ps_fld (pv 0) (pe_lst pa_nil) rfl))
      (pss_cons (ps_nox (ps_fld (pv 0) (pe_lst pa_nil) rfl))
      (pss_cons (ps_nox (ps_fld (pv 0) pe_dnewK rfl))
      (pss_one (ps_nox (ps_fld (pv 0) pe_int rfl)))))))), ?_⟩
  exact run_O (x := "self") (N := ["system"]) (f := body_Bench_init) (fun C lk => (st_seq (st_drop (s_callXO lk (s_cons s_var s_nil)))
      (st_seq (st_setF T.kk_Bench T.nf_Bench__now s_var)
      (st_seq (st_setFO T.kk_Bench T.nf_Bench__past (f_lst s_nil))
      (st_seq (st_setFO T.kk_Bench T.nf_Bench__ahead (f_lst s_nil))
      (st_seq (st_setFD T.kk_Bench T.nf_Bench__wishes)
      (st_setF T.kk_Bench T.nf_Bench__many_solved s_int))))))) h
theorem ok_l_tape {P : Program} {w : World} {K : PySem.W.Frag} {mg : Str → Option Value} {base : Heap} (T : Env K mg) : FnOk P w K mg base CX0 1 T.a_l_tape T.d_l_tape ["script"] (spS K den_l_tape) := by
  refine T.F_l_tape.ok sc_l_tape (fun vs H Q E h => len_S h) (fun cdv A outer s H vs Q E hr h => ?_)
  refine ⟨_, (pss_cons (ps_set (i := 1) sc_l_tape.nd rfl (Or.inl rfl) (pe_lst pa_nil))
      (pss_cons (ps_for PassesOwn.never rfl (k_iList K (by rfl) (pv 0)) (pg_name (i := 2) sc_l_tape.nd rfl (Or.inl rfl)) (pss_cons (ps_set (i := 3) sc_l_tape.nd rfl (Or.inl rfl) (pe_op op_mul pe_int (pe_callTy call_int1 (by rfl) T.z_int (by decide +kernel) (pa_cons (pv 2) pa_nil))))
      (pss_cons (ps_if (pt_cmpR op_lt (pv 3) pe_int (nomark _)) (pss_one (ps_set (i := 3) sc_l_tape.nd rfl (Or.inl rfl) (pe_op op_sub (pe_un un_neg pe_int) (pv 3)))) pss_nil)
      (pss_one (ps_if (pt_cmpR op_ge (pv 3) (pe_op op_pow pe_int pe_int) (nomark _)) (pss_one (ps_for PassesOwn.never rfl (pi_range1 (by rfl) T.z_range (pa_cons pe_int pa_nil)) (pg_name (i := 4) sc_l_tape.nd rfl (Or.inl rfl)) (pss_one (ps_if (pt_cmpR op_gt (pv 3) pe_int (nomark _)) (pss_cons (ps_expr (pe_bm PySem.F.plainAttrs_list PySem.F.slot_list_append PySem.F.type_list_append mt_append (pv 1) (pa_cons (pe_op op_modN (pe_callTy call_int1 (by rfl) T.z_int (by decide +kernel) (pa_cons (pv 3) pa_nil)) pe_int) pa_nil)))
      (pss_one (ps_set (i := 3) sc_l_tape.nd rfl (Or.inl rfl) (pe_op op_fdivX (pv 3) pe_int)))) pss_nil)))) (pss_one (ps_for PassesOwn.never rfl (pi_range1 (by rfl) T.z_range (pa_cons pe_int pa_nil)) (pg_name (i := 4) sc_l_tape.nd rfl (Or.inl rfl)) (pss_cons (ps_set (i := 5) sc_l_tape.nd rfl (Or.inl rfl) (pe_op op_modN (pe_callTy call_int1 (by rfl) T.z_int (by decide +kernel) (pa_cons (pe_op op_add (pe_op op_add (pe_op op_mul (pv 3) pe_int) (pe_op op_mul (pv 4) pe_int)) pe_int) pa_nil)) pe_int))
      (pss_one (ps_expr (pe_bm PySem.F.plainAttrs_list PySem.F.slot_list_append PySem.F.type_list_append mt_append (pv 1) (pa_cons (pe_op op_modN (pe_callTy call_int1 (by rfl) T.z_int (by decide +kernel) (pa_cons (pe_op op_add (pe_op op_mul (pv 5) pe_int) (pe_op op_fdivX (pv 5) pe_int)) pa_nil)) pe_int) pa_nil))))))))))))
      (pss_one (ps_ret (pv 1))))), ?_⟩
  exact run_S (N := ["tape", "cell", "number", "k", "first"]) (f := body_l_tape) (fun _ => (st_seq (st_own (by decide) (f_lst s_nil))
      (st_seq (st_for i_scr (g_name (by decide)) (st_seq (st_asg (s_op o_mulS s_int (s_cb c_int (s_cons s_var s_nil))) (g_name (by decide)))
      (st_seq (st_if (s_tst (s_op o_ib s_var s_int)) (st_asg (s_op o_i0 (s_neg s_int) s_var) (g_name (by decide))) st_next)
      (st_if (s_tst (s_op o_ib s_var (s_op o_pow s_int s_int))) (st_for (i_range1 (s_cons s_int s_nil)) (g_name (by decide)) (st_if (s_tst (s_op o_ib s_var s_int)) (st_seq (st_drop (s_app (s_op o_mod (s_cb c_int (s_cons s_var s_nil)) s_int)))
      (st_asg (s_op o_fdiv s_var s_int) (g_name (by decide)))) st_next)) (st_for (i_range1 (s_cons s_int s_nil)) (g_name (by decide)) (st_seq (st_asg (s_op o_mod (s_cb c_int (s_cons (s_op o_i0 (s_op o_i0 (s_op o_mulS s_var s_int) (s_op o_mulS s_var s_int)) s_int) s_nil)) s_int) (g_name (by decide)))
      (st_drop (s_app (s_op o_mod (s_cb c_int (s_cons (s_op o_i0 (s_op o_mulS s_var s_int) (s_op o_fdiv s_var s_int)) s_nil)) s_int)))))))))
      (st_frz (by decide) (st_ret s_var))))) h
theorem ok_are_endsH {P : Program} {w : World} {K : PySem.W.Frag} {mg : Str → Option Value} {base : Heap} (T : Env K mg) : L2H.FnH P w K mg base CX0 1 T.a_are_ends T.d_are_ends ["many", "ends"] (spP K 2 den_are_ends) := by
  refine fun_okH T.F_are_ends sc_are_ends (fun vs H Q E h => len_P h) (fun cdv A outer s H vs Q E p hot hr h => ?_)
  refine ⟨_, (pss_cons (ps_if (pt_not (pt_chain op_le op_le pe_int (pe_callB (k_len K) (by rfl) T.z_len (by decide +kernel) (pa_cons (pv 1) pa_nil)) (pe_glob (v := .int 6) (by rfl) T.c_MOST_ENDS ⟨_, rfl⟩))) (pss_one (ps_ret pe_bl)) pss_nil)
      (pss_cons (ps_set (i := 2) sc_are_ends.nd rfl (Or.inl rfl) (pe_un un_neg pe_int))
      (pss_cons (L2H.ps_forH PassesOwn.never hot (pi_tupH K (by rfl) (pv 1)) (pg_tupH K (by rfl) hot (pgs_cons (pg_name (i := 3) sc_are_ends.nd rfl (Or.inl rfl)) (pgs_cons (pg_name (i := 4) sc_are_ends.nd rfl (Or.inl rfl)) pgs_nil))) (pss_cons (ps_if (pt_not (pt_chain op_lt op_lt (pv 2) (pv 3) (pv 0))) (pss_one (ps_ret pe_bl)) pss_nil)
      (pss_cons (ps_if (pt_not (pt_chain op_le op_le pe_int (pv 4) (pe_glob (v := .int 1000) (by rfl) T.c_MOST_WEIGHT ⟨_, rfl⟩))) (pss_one (ps_ret pe_bl)) pss_nil)
      (pss_one (ps_set (i := 2) sc_are_ends.nd rfl (Or.inl rfl) (pv 3))))))
      (pss_one (ps_ret pe_bl))))), ?_⟩
  exact run_P (N := ["many", "ends", "before", "state", "weight"]) (f := body_are_ends) (fun _ => (st_seq (st_if (s_not (s_tst (s_chain o_ib o_ib s_int (s_cb c_len (s_cons s_var s_nil)) s_int))) (st_ret s_bl) st_next)
      (st_seq (st_asg (s_neg s_int) (g_name (by decide)))
      (st_seq (st_then (by decide) (st_for (i_tup s_var) (g_tup (g_cons (g_name (by decide)) (g_cons (g_name (by decide)) g_nil))) (st_then (by decide) (st_seq (st_if (s_not (s_tst (s_chain o_ib o_ib s_var s_var s_var))) (st_ret s_bl) st_next)
      (st_seq (st_if (s_not (s_tst (s_chain o_ib o_ib s_int s_var s_int))) (st_ret s_bl) st_next)
      (st_asg s_var (g_name (by decide))))))))
      (st_ret s_bl))))) h
theorem ok_fault_in_stateH {P : Program} {w : World} {K : PySem.W.Frag} {mg : Str → Option Value} {base : Heap} (T : Env K mg) : L2H.FnH P w K mg base CX0 2 T.a_fault_in_state T.d_fault_in_state ["many", "state", "choices"] (spP K 3 den_fault_in_state) := by
  refine fun_okH T.F_fault_in_state sc_fault_in_state (fun vs H Q E h => len_P h) (fun cdv A outer s H vs Q E p hot hr h => ?_)
  have G_are_ends := ok_are_endsH (P := P) (w := w) (base := base) T
  have hr_are_ends : L2H.RoomH 1 _ := hr.mono (by decide)
  refine ⟨_, (pss_cons (ps_if (pt_not (pt_chain op_le op_le pe_int (pe_callB (k_len K) (by rfl) T.z_len (by decide +kernel) (pa_cons (pv 2) pa_nil)) (pe_glob (v := .int 6) (by rfl) T.c_MOST_CHOICES ⟨_, rfl⟩))) (pss_one (ps_ret (pe_tup (pa_cons pe_str (pa_cons (pv 1) pa_nil))))) pss_nil)
      (pss_cons (L2H.ps_forH PassesOwn.never hot (pi_enumTH K (by rfl) (by rfl) T.z_enumerate (pa_cons (pv 2) pa_nil)) (pg_tupH K (by rfl) hot (pgs_cons (pg_name (i := 3) sc_fault_in_state.nd rfl (Or.inl rfl)) (pgs_cons (pg_tupH K (by rfl) hot (pgs_cons (pg_name (i := 4) sc_fault_in_state.nd rfl (Or.inl rfl)) (pgs_cons (pg_name (i := 5) sc_fault_in_state.nd rfl (Or.inl rfl)) pgs_nil))) pgs_nil))) (pss_cons (ps_if (pt_not (pt_chain op_le op_le pe_int (pv 4) (pe_glob (v := .int 1000) (by rfl) T.c_MOST_COST ⟨_, rfl⟩))) (pss_one (ps_ret (pe_tup (pa_cons pe_str (pa_cons (pv 1) (pa_cons (pv 3) pa_nil)))))) pss_nil)
      (pss_one (ps_if (pt_not (pt_val (pe_callH0 (E := E0) G_are_ends hr_are_ends hot (by rfl) T.g_are_ends T.F_are_ends.kp T.b_are_ends (pa_cons (pv 0) (pa_cons (pv 5) pa_nil))))) (pss_one (ps_ret (pe_tup (pa_cons pe_str (pa_cons (pv 1) (pa_cons (pv 3) pa_nil)))))) pss_nil))))
      (pss_one (ps_ret pe_non)))), ?_⟩
  exact run_P (N := ["many", "state", "choices", "number", "cost", "ends"]) (f := body_fault_in_state) (fun _ => (st_seq (st_if (s_not (s_tst (s_chain o_ib o_ib s_int (s_cb c_len (s_cons s_var s_nil)) s_int))) (st_ret (s_tup (s_cons s_str (s_cons s_var s_nil)))) st_next)
      (st_seq (st_then (by decide) (st_for (i_enumK (s_cons s_var s_nil)) (g_tup (g_cons (g_name (by decide)) (g_cons (g_tup (g_cons (g_name (by decide)) (g_cons (g_name (by decide)) g_nil))) g_nil))) (st_then (by decide) (st_seq (st_if (s_not (s_tst (s_chain o_ib o_ib s_int s_var s_int))) (st_ret (s_tup (s_cons s_str (s_cons s_var (s_cons s_var s_nil))))) st_next)
      (st_if (s_not (s_tB (s_callP (s_cons s_var (s_cons s_var s_nil))))) (st_ret (s_tup (s_cons s_str (s_cons s_var (s_cons s_var s_nil))))) st_next)))))
      (st_ret s_non)))) h
theorem ok_faultH {P : Program} {w : World} {K : PySem.W.Frag} {mg : Str → Option Value} {base : Heap} (T : Env K mg) : L2H.FnH P w K mg base CX0 3 T.a_fault T.d_fault ["system"] (spP K 1 den_fault) := by
  refine fun_okH T.F_fault sc_fault (fun vs H Q E h => len_P h) (fun cdv A outer s H vs Q E p hot hr h => ?_)
  have G_fault_in_state := ok_fault_in_stateH (P := P) (w := w) (base := base) T
  have hr_fault_in_state : L2H.RoomH 2 _ := hr.mono (by decide)
  refine ⟨_, (pss_cons (ps_if (pt_not (pt_chain op_le op_le pe_int (pe_callB (k_len K) (by rfl) T.z_len (by decide +kernel) (pa_cons (pv 0) pa_nil)) (pe_glob (v := .int 20) (by rfl) T.c_MOST_STATES ⟨_, rfl⟩))) (pss_one (ps_ret (pe_tup (pa_cons pe_str pa_nil)))) pss_nil)
      (pss_cons (L2H.ps_forH PassesOwn.never hot (pi_enumTH K (by rfl) (by rfl) T.z_enumerate (pa_cons (pv 0) pa_nil)) (pg_tupH K (by rfl) hot (pgs_cons (pg_name (i := 1) sc_fault.nd rfl (Or.inl rfl)) (pgs_cons (pg_name (i := 2) sc_fault.nd rfl (Or.inl rfl)) pgs_nil))) (pss_cons (ps_set (i := 3) sc_fault.nd rfl (Or.inl rfl) (pe_callH0 (E := E0) G_fault_in_state hr_fault_in_state hot (by rfl) T.g_fault_in_state T.F_fault_in_state.kp T.b_fault_in_state (pa_cons (pe_callB (k_len K) (by rfl) T.z_len (by decide +kernel) (pa_cons (pv 0) pa_nil)) (pa_cons (pv 1) (pa_cons (pv 2) pa_nil)))))
      (pss_one (ps_if (pt_cmpR op_notN (pv 3) pe_non (nomark _)) (pss_one (ps_ret (pv 3))) pss_nil))))
      (pss_one (ps_ret pe_non)))), ?_⟩
  exact run_P (N := ["system", "state", "choices", "found"]) (f := body_fault) (fun _ => (st_seq (st_if (s_not (s_tst (s_chain o_ib o_ib s_int (s_cb c_len (s_cons s_var s_nil)) s_int))) (st_ret (s_tup (s_cons s_str s_nil))) st_next)
      (st_seq (st_then (by decide) (st_for (i_enumK (s_cons s_var s_nil)) (g_tup (g_cons (g_name (by decide)) (g_cons (g_name (by decide)) g_nil))) (st_then (by decide) (st_seq (st_asg (s_callP (s_cons (s_cb c_len (s_cons s_var s_nil)) (s_cons s_var (s_cons s_var s_nil)))) (g_name (by decide)))
      (st_if (s_tst (s_op o_notN s_var s_non)) (st_ret s_var) st_next)))))
      (st_ret s_non)))) h
theorem ok_checkN {P : Program} {w : World} {K : PySem.W.Frag} {mg : Str → Option Value} {base : Heap} (T : Env K mg) : FnOk P w K mg base (L2N.CX P w) 4 T.a_check T.d_check ["system"] (spX K T.L 1 den_check) := by
  refine fun_okN T.F_check sc_check (fun vs H Q E h => len_X h) (fun cdv A outer s H vs Q E hr h => ?_)
  have G_fault := ok_fault (P := P) (w := w) (base := base) T
  have hr_fault : Room 3 _ := hr.mono (by decide)
  have I_InvalidSystem := iok_InvalidSystem (P := P) (w := w) (base := base) T
  have hr_InvalidSystem : Room 2 _ := hr.mono (by decide)
  have tk : L2N.Takes (cxOf (L2N.CX P w) P w K mg base ["system", "found"] "check" (defScope s_check) T.a_check cdv A outer s H E) (fun cls d _ H => E cls d H) := L2N.takes_of rfl rfl rfl rfl
  refine ⟨_, (pss_cons (ps_nox (ps_set (i := 1) sc_check.nd rfl (Or.inl rfl) (pe_call G_fault hr_fault (by rfl) T.g_fault T.F_fault.kp T.b_fault .nil pass0 (pa_cons (pv 0) pa_nil))))
      (pss_one (ps_if (PT.nox (pt_cmpR op_notN (pv 1) pe_non (nomark _))) (pss_one (L2N.ps_raise rfl tk (pmk_oexN T.o_InvalidSystem T.i_InvalidSystem T.t_InvalidSystem I_InvalidSystem hr_InvalidSystem T.b_InvalidSystem .nil pass0 (by rfl) T.g_InvalidSystem (pa_cons (pv 1) pa_nil)))) pss_nil))), ?_⟩
  exact run_X (N := ["system", "found"]) (f := body_check) (fun C lk => (st_seq (st_asg (s_callP (s_cons s_var s_nil)) (g_name (by decide)))
      (st_if (s_tst (s_op o_notN s_var s_non)) (st_raise lk rfl rfl T.o_InvalidSystem T.n_InvalidSystem (s_cons s_var s_nil)) st_next))) h
theorem ok_Bench_initN {P : Program} {w : World} {K : PySem.W.Frag} {mg : Str → Option Value} {base : Heap} (T : Env K mg) : FnOk P w K mg base (L2N.CX P w) 5 T.a_Bench_init T.d_Bench_init ["self", "system"] (spO K T.L "Bench" 1 den_Bench_init) := by
  refine fun_okN T.F_Bench_init sc_Bench_init (fun vs H Q E h => len_O h) (fun cdv A outer s H vs Q E hr h => ?_)
  have G_check := ok_checkN (P := P) (w := w) (base := base) T
  have hr_check : Room 4 _ := hr.mono (by decide)
  have tk : L2N.Takes (cxOf (L2N.CX P w) P w K mg base ["self", "system"] "Bench.__init__" (defScope s_Bench_init) T.a_Bench_init cdv A outer s H E) (fun cls d _ H => E cls d H) := L2N.takes_of rfl rfl rfl rfl
  refine ⟨_, (pss_cons (ps_expr (pe_callS G_check hr_check (by rfl) T.g_check T.F_check.kp T.b_check (fun σ => L2N.passAt tk σ) (pa_cons (pv 1) pa_nil)))
      (pss_cons (ps_nox (ps_fld (pv 0) (pv 1) rfl))
      (pss_cons (ps_nox (ps_fld (pv 0) (pe_lst pa_nil) rfl))
      (pss_cons (ps_nox (ps_fld (pv 0) (pe_lst pa_nil) rfl))
      (pss_cons (ps_nox (ps_fld (pv 0) pe_dnewK rfl))
      (pss_one (ps_nox (ps_fld (pv 0) pe_int rfl)))))))), ?_⟩
  exact run_O (x := "self") (N := ["system"]) (f := body_Bench_init) (fun C lk => (st_seq (st_drop (s_callXO lk (s_cons s_var s_nil)))
      (st_seq (st_setF T.kk_Bench T.nf_Bench__now s_var)
      (st_seq (st_setFO T.kk_Bench T.nf_Bench__past (f_lst s_nil))
      (st_seq (st_setFO T.kk_Bench T.nf_Bench__ahead (f_lst s_nil))
      (st_seq (st_setFD T.kk_Bench T.nf_Bench__wishes)
      (st_setF T.kk_Bench T.nf_Bench__many_solved s_int))))))) h
theorem ok_l_refused {P : Program} {w : World} {K : PySem.W.Frag} {mg : Str → Option Value} {base : Heap} (T : Env K mg) : FnOk P w K mg base CX0 7 T.a_l_refused T.d_l_refused ["system"] (spP K 1 den_l_refused) := by
  refine T.F_l_refused.ok sc_l_refused (fun vs H Q E h => len_P h) (fun cdv A outer s H vs Q E hr h => ?_)
  have G_init := ok_Bench_initN (P := P) (w := w) (base := base) T
  have hr_init : Room 6 _ := hr
  have G_fault := ok_faultH (P := P) (w := w) (base := base) T
  have hr_fault : Room 3 _ := hr.mono (by decide)
  refine ⟨_, (pss_cons (L2N.ps_try_as (i := 1) rfl rfl sc_l_refused.nd rfl rfl ⟨rfl, by decide, .inl T.g_BestoddsError⟩ takes_noneN
      (fun W pn xe tk _ => pss_one (ps_expr (pe_makeS T.mk_Bench G_init hr_init (by rfl) T.g_Bench T.b_Bench_init .nil (fun σ => L2N.passAt tk σ) (pa_cons (pv 0) pa_nil))))
      (fun a oe cls d pn hz hf => pss_one (ps_ret (pe_and (pe_callB (call_isEd hz.zc hf) (by rfl) T.z_isinstance (by decide +kernel) (pa_cons (pv 1) (pa_cons (pe_glob (v := .ref T.c_InvalidSystem) (by rfl) T.g_InvalidSystem rfl) pa_nil)))
        (pe_and (pe_not (pe_callB (call_isEd hz.zc hf) (by rfl) T.z_isinstance (by decide +kernel) (pa_cons (pv 1) (pa_cons (pe_glob (v := .ref T.c_BenchError) (by rfl) T.g_BenchError rfl) pa_nil))))
        (pe_one (pe_cmpR (k_eqD K (by rfl) hr_fault.units) (pe_xf (xcB_xf T.xc_InvalidSystem) T.n_InvalidSystem hz.zc hf (pv 1))
          (pe_callH0 (E := E0) G_fault (L2H.roomH_mark hr_fault _) ⟨(a, oe), ⟨rfl, hf.choose, hf.choose_spec, hz.2.2 _ hf.choose_spec⟩, List.mem_cons_self⟩ (by rfl) T.g_fault T.F_fault.kp T.b_fault (pa_cons (pv 0) pa_nil)) (nomark _))))))))
      (pss_one (ps_ret pe_bl))), ?_⟩
  obtain ⟨ds, B, dv, bh, hl, hk⟩ := h
  obtain ⟨x', rfl⟩ : ∃ x', ds = [x'] := by
    match ds, hl with
    | [x'], _ => exact ⟨x', rfl⟩
  cases dv with
  | cons dx0 t =>
    rename_i v vs'
    cases t
    unfold den_l_refused at hk
    dsimp only at hk
    refine ⟨v, rfl, fun x dx hx hdx ne => ?_⟩
    have F0 : ∀ q o, upd (fun _ => none) x (HO.ins T.c_Bench dx []) q = some o → q = x ∧ o = .ins T.c_Bench dx [] := fun q o z => by
      by_cases e : q = x
      · subst e
        rw [upd_same] at z
        exact ⟨rfl, (Option.some.inj z).symm⟩
      · rw [upd_ne e] at z
        cases z
    have x0 : (upd (upd H dx (.own x)) x (.ins T.c_Bench dx [])) x = some (.ins T.c_Bench dx []) := upd_same
    have sH : Same H (upd (upd H dx (.own x)) x (.ins T.c_Bench dx [])) := (sm_new hdx).trans (sm_new (by rw [upd_ne (Ne.symm ne)]; exact hx))
    have bx : B x = none := by
      cases e : B x with
      | none => rfl
      | some o =>
        rw [bh x o e] at hx
        cases hx
    have up : ∀ {H' B' : Hp}, Bes (upd (upd H dx (.own x)) x (.ins T.c_Bench dx [])) (upd (fun _ => none) x (.ins T.c_Bench dx [])) B H' B' → Same H H' ∧ Frz H B B' := fun {H' B'} b => by
      refine ⟨fun p o z => b.keep p o ?_ (sH p o z), fun p o z => ?_⟩
      · have np : p ≠ x := by
          rintro rfl
          rw [z] at hx
          cases hx
        rw [upd_ne np]
      · rcases b.fz p o z with y | y | y
        · exact .inl y
        · refine .inr ?_
          cases e : H p with
          | none => rfl
          | some u =>
            rw [sH p u e] at y
            cases y
        · cases e : upd (fun _ => none) x (HO.ins T.c_Bench dx []) p with
          | none => exact absurd e y
          | some u =>
            obtain ⟨rfl, _⟩ := F0 p u e
            exact .inr hx
    refine ⟨x, [v], [], [x'], B, upd (fun _ => none) x (.ins T.c_Bench dx []), rfl, ⟨T.c_Bench, dx, [], fun _ _ => none, T.kk_Bench.at_, upd_same, rfl, ⟨fun i p o z => (nomatch z), fun i j p o q z => (nomatch z), fun i => rfl⟩, fun i u f z => (nomatch z)⟩, fun q o z => ?_, .cons dx0 .nil, bh.trans sH, rfl, ?_⟩
    · obtain ⟨rfl, rfl⟩ := F0 q o z
      exact ⟨x0, bx⟩
    cases q : den_Bench_init [] [x'] with
    | bad =>
      rw [q] at hk
      exact hk.elim
    | ok z =>
      rw [q] at hk
      obtain ⟨k1, hk⟩ := okTo_when.mp hk
      show ∀ v H' B' F', _ → _ → _ → _
      intro v' H' B' F' bes aft dz
      refine ⟨?_, ?_⟩
      · revert k1
        cases z with
        | mk z1 z2 =>
          cases z1 <;> first | (intro _; cases dz; rfl) | (intro k1; exact absurd k1 Bool.false_ne_true)
      · obtain ⟨s1, s2⟩ := up bes
        exact hk (.bl false) H' B' s1 bes.sB bes.bh s2 (.bl _)
    | err e =>
      rw [q] at hk
      dsimp only at hk
      show LeavesO K T.L "Bench" _ _ _ _ _ e
      intro c d v' H' B' hc bes _ da xd
      obtain ⟨s1, s2⟩ := up bes
      by_cases e1 : e.cls = "InvalidSystem"
      · rw [if_pos e1] at hk
        cases ea : e.arg with
        | none =>
          rw [ea] at hk
          exact hk.elim
        | some f =>
          rw [ea] at hk
          dsimp only at hk
          have hk := okTo_bind.mp hk
          have da' := da f ea
          unfold XD at xd
          rw [ea] at xd
          obtain ⟨dd, rfl, hdd⟩ := xd
          rw [e1] at hc hdd
          cases hc
          have xo := xcB_ok T.xc_InvalidSystem
          have nd : ∀ d2 : Addr, some dd = some d2 → ∃ fs, H' d2 = some (.xd fs) := fun d2 z => by cases z; exact ⟨_, hdd⟩
          refine ⟨true, T.h_InvalidSystem_BestoddsError, fun _ a na => ?_, fun z => nomatch z⟩
          refine ⟨.ref a, rfl, T.c_InvalidSystem, .ref T.c_InvalidSystem, .ref T.c_InvalidSystem, true, rfl, xo, rfl, fun _ z => z, T.j_InvalidSystem_InvalidSystem, nd, true, rfl, ?_⟩
          refine ifT ?_
          refine ⟨.ref a, rfl, T.c_InvalidSystem, .ref T.c_BenchError, .ref T.c_BenchError, false, rfl, xo, rfl, fun _ z => z, T.j_InvalidSystem_BenchError, nd, false, rfl, true, rfl, ?_⟩
          refine ifT ?_
          refine ⟨.ref a, rfl, rfl, rfl, dd, _, v', rfl, hdd, List.lookup_cons_self, ?_⟩
          refine ⟨v, rfl, [x'], B', .cons (da_mono bes.sB dx0) .nil, bes.bh, rfl, hk.mono fun g hg u H2 B2 sH2 sB2 bh2 fz2 du => ?_⟩
          obtain ⟨⟨k1, k2⟩, hg⟩ := okTo_when.mp hg
          refine ⟨f, g, da_dp (da_mono (sB2.trans bh2) da'), da_dp (da_mono bh2 du), k1, k2, ?_⟩
          refine hg _ H2 B2 (s1.trans sH2) (bes.sB.trans sB2) bh2 (fun p o z => ?_) (.bl _)
          rcases fz2 p o z with y | y
          · exact s2 p o y
          · refine .inr ?_
            cases e : H p with
            | none => rfl
            | some u =>
              rw [s1 p u e] at y
              cases y
      · rw [if_neg e1] at hk
        exact hk.elim

theorem ok_l_edit {P : Program} {w : World} {K : PySem.W.Frag} {mg : Str → Option Value} {base : Heap} (T : Env K mg) : FnOk P w K mg base CX0 4 T.a_l_edit T.d_l_edit ["state", "system"] (spB K 1 den_l_edit) := by
  refine T.F_l_edit.ok sc_l_edit (fun vs H Q E h => len_B h) (fun cdv A outer s H vs Q E hr h => ?_)
  have G_l_ends := ok_l_ends (P := P) (w := w) (base := base) T
  have hr_l_ends : Room 3 _ := hr.mono (by decide)
  have G_l_take := ok_l_take (P := P) (w := w) (base := base) T
  have hr_l_take : Room 2 _ := hr.mono (by decide)
  refine ⟨_, (pss_cons (ps_set (i := 2) sc_l_edit.nd rfl (Or.inl rfl) (pe_op op_sub (pe_call G_l_take hr_l_take (by rfl) T.g_l_take T.F_l_take.kp T.b_l_take .nil pass0 (pa_cons (pv 0) (pa_cons (pe_op op_add (pe_callB (k_len K) (by rfl) T.z_len (by decide +kernel) (pa_cons (pv 1) pa_nil)) pe_int) pa_nil))) (pe_callTy call_int1 (by rfl) T.z_int (by decide +kernel) (pa_cons (pe_cmpR op_eq (pe_call G_l_take hr_l_take (by rfl) T.g_l_take T.F_l_take.kp T.b_l_take .nil pass0 (pa_cons (pv 0) (pa_cons pe_int pa_nil))) pe_int (nomark _)) pa_nil))))
      (pss_cons (ps_set (i := 3) sc_l_edit.nd rfl (Or.inl rfl) pe_int)
      (pss_cons (ps_if (pt_chain op_le op_lt pe_int (pv 2) (pe_callB (k_len K) (by rfl) T.z_len (by decide +kernel) (pa_cons (pv 1) pa_nil))) (pss_one (ps_set (i := 3) sc_l_edit.nd rfl (Or.inl rfl) (pe_callB (k_len K) (by rfl) T.z_len (by decide +kernel) (pa_cons (pe_ix (ixT K) (pv 1) (pv 2) (fun _ _ => rfl)) pa_nil)))) pss_nil)
      (pss_cons (ps_set (i := 4) sc_l_edit.nd rfl (Or.inl rfl) (pe_op op_sub (pe_call G_l_take hr_l_take (by rfl) T.g_l_take T.F_l_take.kp T.b_l_take .nil pass0 (pa_cons (pv 0) (pa_cons (pe_op op_add (pv 3) pe_int) pa_nil))) (pe_callTy call_int1 (by rfl) T.z_int (by decide +kernel) (pa_cons (pe_cmpR op_eq (pe_call G_l_take hr_l_take (by rfl) T.g_l_take T.F_l_take.kp T.b_l_take .nil pass0 (pa_cons (pv 0) (pa_cons pe_int pa_nil))) pe_int (nomark _)) pa_nil))))
      (pss_cons (ps_set (i := 5) sc_l_edit.nd rfl (Or.inl rfl) (pe_ix (ixL K) (pe_lst (pa_cons pe_int (pa_cons pe_int (pa_cons pe_int (pa_cons pe_int (pa_cons pe_int (pa_cons (pe_op op_sub pe_int pe_int) pa_nil))))))) (pe_call G_l_take hr_l_take (by rfl) T.g_l_take T.F_l_take.kp T.b_l_take .nil pass0 (pa_cons (pv 0) (pa_cons (pe_op op_add pe_int (pe_op op_mul pe_int (pe_callTy call_int1 (by rfl) T.z_int (by decide +kernel) (pa_cons (pe_cmpR op_eq (pe_call G_l_take hr_l_take (by rfl) T.g_l_take T.F_l_take.kp T.b_l_take .nil pass0 (pa_cons (pv 0) (pa_cons pe_int pa_nil))) pe_int (nomark _)) pa_nil)))) pa_nil))) (fun _ _ => rfl)))
      (pss_cons (ps_set (i := 6) sc_l_edit.nd rfl (Or.inl rfl) (pe_call G_l_ends hr_l_ends (by rfl) T.g_l_ends T.F_l_ends.kp T.b_l_ends .nil pass0 (pa_cons (pv 0) (pa_cons (pe_callB (k_len K) (by rfl) T.z_len (by decide +kernel) (pa_cons (pv 1) pa_nil)) pa_nil))))
      (pss_cons (ps_if (pt_cmpR op_eq (pe_call G_l_take hr_l_take (by rfl) T.g_l_take T.F_l_take.kp T.b_l_take .nil pass0 (pa_cons (pv 0) (pa_cons pe_int pa_nil))) pe_int (nomark _)) (pss_one (ps_set (i := 6) sc_l_edit.nd rfl (Or.inl rfl) (pe_ix (ixL K) (pe_lst (pa_cons (pe_tup pa_nil) (pa_cons (pe_op (k_catA K) (pv 6) (pe_tup (pa_cons (pe_tup (pa_cons (pe_callB (k_len K) (by rfl) T.z_len (by decide +kernel) (pa_cons (pv 1) pa_nil)) (pa_cons pe_int pa_nil))) pa_nil))) (pa_cons (pe_op (k_catA K) (pe_slice (k_slT K) (pv 6) po_none (po_some pe_int)) (pv 6)) (pa_cons (pe_tup (pa_cons (pe_tup (pa_cons pe_int (pa_cons pe_int pa_nil))) pa_nil)) pa_nil))))) (pe_call G_l_take hr_l_take (by rfl) T.g_l_take T.F_l_take.kp T.b_l_take .nil pass0 (pa_cons (pv 0) (pa_cons pe_int pa_nil))) (fun _ _ => rfl)))) pss_nil)
      (pss_one (ps_ret (pe_tup (pa_cons (pe_ix (ixL K) (pe_lst (pa_cons pe_str (pa_cons pe_str (pa_cons pe_str pa_nil)))) (pe_call G_l_take hr_l_take (by rfl) T.g_l_take T.F_l_take.kp T.b_l_take .nil pass0 (pa_cons (pv 0) (pa_cons pe_int pa_nil))) (fun _ _ => rfl)) (pa_cons (pv 2) (pa_cons (pv 4) (pa_cons (pv 5) (pa_cons (pv 6) pa_nil))))))))))))))), ?_⟩
  exact run_B (N := ["system", "at", "size", "number", "cost", "ends"]) (f := body_l_edit) (fun _ => (st_seq (st_asg (s_op o_i0 (s_callB (s_cons (s_op o_i0 (s_cb c_len (s_cons s_var s_nil)) s_int) s_nil)) (s_cb c_int (s_cons (s_op o_eq (s_callB (s_cons s_int s_nil)) s_int) s_nil))) (g_name (by decide)))
      (st_seq (st_asg s_int (g_name (by decide)))
      (st_seq (st_if (s_tst (s_chain o_ib o_ib s_int s_var (s_cb c_len (s_cons s_var s_nil)))) (st_asg (s_cb c_len (s_cons (s_op o_ixT s_var s_var) s_nil)) (g_name (by decide))) st_next)
      (st_seq (st_asg (s_op o_i0 (s_callB (s_cons (s_op o_i0 s_var s_int) s_nil)) (s_cb c_int (s_cons (s_op o_eq (s_callB (s_cons s_int s_nil)) s_int) s_nil))) (g_name (by decide)))
      (st_seq (st_asg (s_op o_ixL (s_lst (s_cons s_int (s_cons s_int (s_cons s_int (s_cons s_int (s_cons s_int (s_cons (s_op o_i0 s_int s_int) s_nil))))))) (s_callB (s_cons (s_op o_i0 s_int (s_op o_mulS s_int (s_cb c_int (s_cons (s_op o_eq (s_callB (s_cons s_int s_nil)) s_int) s_nil)))) s_nil))) (g_name (by decide)))
      (st_seq (st_asg (s_callB (s_cons (s_cb c_len (s_cons s_var s_nil)) s_nil)) (g_name (by decide)))
      (st_seq (st_if (s_tst (s_op o_eq (s_callB (s_cons s_int s_nil)) s_int)) (st_asg (s_op o_ixL (s_lst (s_cons (s_tup s_nil) (s_cons (s_op o_catT s_var (s_tup (s_cons (s_tup (s_cons (s_cb c_len (s_cons s_var s_nil)) (s_cons s_int s_nil))) s_nil))) (s_cons (s_op o_catT (s_sl l_slT s_var s_noPart (s_part s_int)) s_var) (s_cons (s_tup (s_cons (s_tup (s_cons s_int (s_cons s_int s_nil))) s_nil)) s_nil))))) (s_callB (s_cons s_int s_nil))) (g_name (by decide))) st_next)
      (st_ret (s_tup (s_cons (s_op o_ixL (s_lst (s_cons s_str (s_cons s_str (s_cons s_str s_nil)))) (s_callB (s_cons s_int s_nil))) (s_cons s_var (s_cons s_var (s_cons s_var (s_cons s_var s_nil))))))))))))))) h
theorem ok_l_after {P : Program} {w : World} {K : PySem.W.Frag} {mg : Str → Option Value} {base : Heap} (T : Env K mg) : FnOk P w K mg base CX0 1 T.a_l_after T.d_l_after ["system", "edit"] (spP K 2 den_l_after) := by
  refine T.F_l_after.ok sc_l_after (fun vs H Q E h => len_P h) (fun cdv A outer s H vs Q E hr h => ?_)
  refine ⟨_, (pss_cons (ps_asg (pv 1) (k_gTup K (by rfl) (by rfl) (pgs_cons (pg_name (i := 3) sc_l_after.nd rfl (Or.inl rfl)) (pgs_cons (pg_name (i := 4) sc_l_after.nd rfl (Or.inl rfl)) (pgs_cons (pg_name (i := 5) sc_l_after.nd rfl (Or.inl rfl)) (pgs_cons (pg_name (i := 6) sc_l_after.nd rfl (Or.inl rfl)) (pgs_cons (pg_name (i := 7) sc_l_after.nd rfl (Or.inl rfl)) pgs_nil)))))))
      (pss_cons (ps_set (i := 2) sc_l_after.nd rfl (Or.inl rfl) (pe_ix (ixT K) (pv 0) (pv 4) (fun _ _ => rfl)))
      (pss_cons (ps_if (pt_cmpR op_eq (pv 3) pe_str (nomark _)) (pss_one (ps_set (i := 2) sc_l_after.nd rfl (Or.inl rfl) (pe_op (k_catA K) (pv 2) (pe_tup (pa_cons (pe_tup (pa_cons (pv 6) (pa_cons (pv 7) pa_nil))) pa_nil))))) (pss_one (ps_if (pt_cmpR op_eq (pv 3) pe_str (nomark _)) (pss_one (ps_set (i := 2) sc_l_after.nd rfl (Or.inl rfl) (pe_op (k_catA K) (pe_op (k_catA K) (pe_slice (k_slT K) (pv 2) po_none (po_some (pv 5))) (pe_tup (pa_cons (pe_tup (pa_cons (pv 6) (pa_cons (pv 7) pa_nil))) pa_nil))) (pe_slice (k_slT K) (pv 2) (po_some (pe_op op_add (pv 5) pe_int)) po_none)))) (pss_one (ps_set (i := 2) sc_l_after.nd rfl (Or.inl rfl) (pe_op (k_catA K) (pe_slice (k_slT K) (pv 2) po_none (po_some (pv 5))) (pe_slice (k_slT K) (pv 2) (po_some (pe_op op_add (pv 5) pe_int)) po_none)))))))
      (pss_one (ps_ret (pe_op (k_catA K) (pe_op (k_catA K) (pe_slice (k_slT K) (pv 0) po_none (po_some (pv 4))) (pe_tup (pa_cons (pv 2) pa_nil))) (pe_slice (k_slT K) (pv 0) (po_some (pe_op op_add (pv 4) pe_int)) po_none))))))), ?_⟩
  exact run_P (N := ["system", "edit", "choices", "way", "at", "number", "cost", "ends"]) (f := body_l_after) (fun _ => (st_seq (st_asg s_var (g_tup (g_cons (g_name (by decide)) (g_cons (g_name (by decide)) (g_cons (g_name (by decide)) (g_cons (g_name (by decide)) (g_cons (g_name (by decide)) g_nil)))))))
      (st_seq (st_asg (s_op o_ixT s_var s_var) (g_name (by decide)))
      (st_seq (st_if (s_tst (s_op o_eq s_var s_str)) (st_asg (s_op o_catT s_var (s_tup (s_cons (s_tup (s_cons s_var (s_cons s_var s_nil))) s_nil))) (g_name (by decide))) (st_if (s_tst (s_op o_eq s_var s_str)) (st_asg (s_op o_catT (s_op o_catT (s_sl l_slT s_var s_noPart (s_part s_var)) (s_tup (s_cons (s_tup (s_cons s_var (s_cons s_var s_nil))) s_nil))) (s_sl l_slT s_var (s_part (s_op o_i0 s_var s_int)) s_noPart)) (g_name (by decide))) (st_asg (s_op o_catT (s_sl l_slT s_var s_noPart (s_part s_var)) (s_sl l_slT s_var (s_part (s_op o_i0 s_var s_int)) s_noPart)) (g_name (by decide)))))
      (st_ret (s_op o_catT (s_op o_catT (s_sl l_slT s_var s_noPart (s_part s_var)) (s_tup (s_cons s_var s_nil))) (s_sl l_slT s_var (s_part (s_op o_i0 s_var s_int)) s_noPart))))))) h
theorem ok_l_refusal {P : Program} {w : World} {K : PySem.W.Frag} {mg : Str → Option Value} {base : Heap} (T : Env K mg) : FnOk P w K mg base CX0 4 T.a_l_refusal T.d_l_refusal ["system", "edit"] (spP K 2 den_l_refusal) := by
  refine T.F_l_refusal.ok sc_l_refusal (fun vs H Q E h => len_P h) (fun cdv A outer s H vs Q E hr h => ?_)
  have G_fault := ok_fault (P := P) (w := w) (base := base) T
  have hr_fault : Room 3 _ := hr.mono (by decide)
  have G_l_after := ok_l_after (P := P) (w := w) (base := base) T
  have hr_l_after : Room 1 _ := hr.mono (by decide)
  refine ⟨_, (pss_cons (ps_asg (pv 1) (k_gTup K (by rfl) (by rfl) (pgs_cons (pg_name (i := 3) sc_l_refusal.nd rfl (Or.inl rfl)) (pgs_cons (pg_name (i := 4) sc_l_refusal.nd rfl (Or.inl rfl)) (pgs_cons (pg_name (i := 5) sc_l_refusal.nd rfl (Or.inl rfl)) (pgs_cons (pg_name (i := 6) sc_l_refusal.nd rfl (Or.inl rfl)) (pgs_cons (pg_name (i := 7) sc_l_refusal.nd rfl (Or.inl rfl)) pgs_nil)))))))
      (pss_cons (ps_if (PW.pt (pw_or (pt_cmpR op_lt (pv 4) pe_int (nomark _)) (pw_or1 (pt_cmpR op_ge (pv 4) (pe_callB (k_len K) (by rfl) T.z_len (by decide +kernel) (pa_cons (pv 0) pa_nil)) (nomark _))))) (pss_one (ps_ret (pe_tup (pa_cons pe_str (pa_cons (pv 4) pa_nil))))) pss_nil)
      (pss_cons (ps_if (PW.pt (pw_and (pt_cmpR op_ne (pv 3) pe_str (nomark _)) (pw_and1 (PW.pt (pw_or (pt_cmpR op_lt (pv 5) pe_int (nomark _)) (pw_or1 (pt_cmpR op_ge (pv 5) (pe_callB (k_len K) (by rfl) T.z_len (by decide +kernel) (pa_cons (pe_ix (ixT K) (pv 0) (pv 4) (fun _ _ => rfl)) pa_nil)) (nomark _)))))))) (pss_one (ps_ret (pe_tup (pa_cons pe_str (pa_cons (pv 5) pa_nil))))) pss_nil)
      (pss_cons (ps_set (i := 2) sc_l_refusal.nd rfl (Or.inl rfl) (pe_call G_fault hr_fault (by rfl) T.g_fault T.F_fault.kp T.b_fault .nil pass0 (pa_cons (pe_call G_l_after hr_l_after (by rfl) T.g_l_after T.F_l_after.kp T.b_l_after .nil pass0 (pa_cons (pv 0) (pa_cons (pv 1) pa_nil))) pa_nil)))
      (pss_cons (ps_if (pt_cmpR op_notN (pv 2) pe_non (nomark _)) (pss_one (ps_ret (pe_tup (pa_cons pe_str (pa_cons (pv 2) pa_nil))))) pss_nil)
      (pss_one (ps_ret pe_non))))))), ?_⟩
  exact run_P (N := ["system", "edit", "found", "way", "at", "number", "cost", "ends"]) (f := body_l_refusal) (fun _ => (st_seq (st_asg s_var (g_tup (g_cons (g_name (by decide)) (g_cons (g_name (by decide)) (g_cons (g_name (by decide)) (g_cons (g_name (by decide)) (g_cons (g_name (by decide)) g_nil)))))))
      (st_seq (st_if (s_or (s_tst (s_op o_ib s_var s_int)) (s_tst (s_op o_ib s_var (s_cb c_len (s_cons s_var s_nil))))) (st_ret (s_tup (s_cons s_str (s_cons s_var s_nil)))) st_next)
      (st_seq (st_if (s_and (s_tst (s_op o_ne s_var s_str)) (s_or (s_tst (s_op o_ib s_var s_int)) (s_tst (s_op o_ib s_var (s_cb c_len (s_cons (s_op o_ixT s_var s_var) s_nil)))))) (st_ret (s_tup (s_cons s_str (s_cons s_var s_nil)))) st_next)
      (st_seq (st_asg (s_callP (s_cons (s_callP (s_cons s_var (s_cons s_var s_nil))) s_nil)) (g_name (by decide)))
      (st_seq (st_if (s_tst (s_op o_notN s_var s_non)) (st_ret (s_tup (s_cons s_str (s_cons s_var s_nil)))) st_next)
      (st_ret s_non))))))) h
theorem ok_Bench__turn_to {P : Program} {w : World} {K : PySem.W.Frag} {mg : Str → Option Value} {base : Heap} (T : Env K mg) : FnOk P w K mg base CX0 1 T.a_Bench__turn_to T.d_Bench__turn_to ["self", "state", "system"] (spO K T.L "Bench" 2 den_Bench__turn_to) := by
  refine T.F_Bench__turn_to.ok sc_Bench__turn_to (fun vs H Q E h => len_O h) (fun cdv A outer s H vs Q E hr h => ?_)
  refine ⟨_, (pss_cons (ps_fld (pv 0) (pv 2) rfl)
      (pss_one (ps_lock (ps_for PassesOwn.never rfl (pi_values (pe_fld (pv 0) rfl)) (pg_name (i := 3) sc_Bench__turn_to.nd rfl (Or.inl rfl)) pss_never)))), ?_⟩
  exact run_O (x := "self") (N := ["state", "system", "wish"]) (f := body_Bench__turn_to) (fun C lk => (st_seq (st_setF T.kk_Bench T.nf_Bench__now s_var)
      (st_then (by decide) (st_forNo T.kk_Bench T.nf_Bench__wishes)))) h
theorem ok_Bench_undo {P : Program} {w : World} {K : PySem.W.Frag} {mg : Str → Option Value} {base : Heap} (T : Env K mg) : FnOk P w K mg base CX0 2 T.a_Bench_undo T.d_Bench_undo ["self"] (spO K T.L "Bench" 0 den_Bench_undo) := by
  refine T.F_Bench_undo.ok sc_Bench_undo (fun vs H Q E h => len_O h) (fun cdv A outer s H vs Q E hr h => ?_)
  have G_Bench__turn_to := ok_Bench__turn_to (P := P) (w := w) (base := base) T
  have hr_Bench__turn_to : Room 1 _ := hr.mono (by decide)
  refine ⟨_, (pss_cons (ps_if (pt_not (k_truth K (by rfl) (pe_fld (pv 0) rfl) (by intro _; rfl))) (pss_one (ps_ret pe_bl)) pss_nil)
      (pss_cons (ps_asg (pe_bm0 PySem.F.plainAttrs_list PySem.F.slot_list_pop PySem.F.type_list_pop mt_pop (pe_fld (pv 0) rfl)) (k_gTup K (by rfl) (by rfl) (pgs_cons (pg_name (i := 1) sc_Bench_undo.nd rfl (Or.inl rfl)) (pgs_cons (pg_name (i := 2) sc_Bench_undo.nd rfl (Or.inl rfl)) pgs_nil))))
      (pss_cons (ps_expr (pe_bm PySem.F.plainAttrs_list PySem.F.slot_list_append PySem.F.type_list_append mt_append (pe_fld (pv 0) rfl) (pa_cons (pe_tup (pa_cons (pv 1) (pa_cons (pe_fld (pv 0) rfl) pa_nil))) pa_nil)))
      (pss_cons (ps_expr (pe_meth (pv 0) T.kk_Bench.cls T.me_Bench__turn_to G_Bench__turn_to hr_Bench__turn_to T.b_Bench__turn_to .nil pass0 (pa_cons (pv 1) (pa_cons (pv 2) pa_nil))))
      (pss_one (ps_ret pe_bl)))))), ?_⟩
  exact run_O (x := "self") (N := ["state", "system"]) (f := body_Bench_undo) (fun C lk => (st_seq (st_if (s_not (s_truF T.kk_Bench T.nf_Bench__past)) (st_ret s_bl) st_next)
      (st_seq (st_asg (s_popF T.kk_Bench T.nf_Bench__past) (g_tup (g_cons (g_name (by decide)) (g_cons (g_name (by decide)) g_nil))))
      (st_seq (st_drop (s_appF T.kk_Bench T.nf_Bench__ahead (q_tup (q_cons q_var (q_cons (q_fld T.kk_Bench T.nf_Bench__now) q_nil)))))
      (st_seq (st_drop (s_meth T.kk_Bench (s_cons s_var (s_cons s_var s_nil))))
      (st_ret s_bl)))))) h
theorem ok_Bench_system {P : Program} {w : World} {K : PySem.W.Frag} {mg : Str → Option Value} {base : Heap} (T : Env K mg) : FnOk P w K mg base CX0 1 T.a_Bench_system T.d_Bench_system ["self"] (spO K T.L "Bench" 0 den_Bench_system) := by
  refine T.F_Bench_system.ok sc_Bench_system (fun vs H Q E h => len_O h) (fun cdv A outer s H vs Q E hr h => ?_)
  refine ⟨_, (pss_one (ps_ret (pe_fld (pv 0) rfl))), ?_⟩
  exact run_O (x := "self") (N := []) (f := body_Bench_system) (fun C lk => (st_ret (s_fld T.kk_Bench T.nf_Bench__now))) h
theorem ok_Bench_changes {P : Program} {w : World} {K : PySem.W.Frag} {mg : Str → Option Value} {base : Heap} (T : Env K mg) : FnOk P w K mg base CX0 1 T.a_Bench_changes T.d_Bench_changes ["self"] (spO K T.L "Bench" 0 den_Bench_changes) := by
  refine T.F_Bench_changes.ok sc_Bench_changes (fun vs H Q E h => len_O h) (fun cdv A outer s H vs Q E hr h => ?_)
  refine ⟨_, (pss_one (ps_ret (pe_callB (k_len K) (by rfl) T.z_len (by decide +kernel) (pa_cons (pe_fld (pv 0) rfl) pa_nil)))), ?_⟩
  exact run_O (x := "self") (N := []) (f := body_Bench_changes) (fun C lk => (st_ret (s_lenF T.kk_Bench T.nf_Bench__past))) h
theorem ok_Bench_undone {P : Program} {w : World} {K : PySem.W.Frag} {mg : Str → Option Value} {base : Heap} (T : Env K mg) : FnOk P w K mg base CX0 1 T.a_Bench_undone T.d_Bench_undone ["self"] (spO K T.L "Bench" 0 den_Bench_undone) := by
  refine T.F_Bench_undone.ok sc_Bench_undone (fun vs H Q E h => len_O h) (fun cdv A outer s H vs Q E hr h => ?_)
  refine ⟨_, (pss_one (ps_ret (pe_callB (k_len K) (by rfl) T.z_len (by decide +kernel) (pa_cons (pe_fld (pv 0) rfl) pa_nil)))), ?_⟩
  exact run_O (x := "self") (N := []) (f := body_Bench_undone) (fun C lk => (st_ret (s_lenF T.kk_Bench T.nf_Bench__ahead))) h
theorem ok_Bench_redo {P : Program} {w : World} {K : PySem.W.Frag} {mg : Str → Option Value} {base : Heap} (T : Env K mg) : FnOk P w K mg base CX0 2 T.a_Bench_redo T.d_Bench_redo ["self"] (spO K T.L "Bench" 0 den_Bench_redo) := by
  refine T.F_Bench_redo.ok sc_Bench_redo (fun vs H Q E h => len_O h) (fun cdv A outer s H vs Q E hr h => ?_)
  have G_Bench__turn_to := ok_Bench__turn_to (P := P) (w := w) (base := base) T
  have hr_Bench__turn_to : Room 1 _ := hr.mono (by decide)
  refine ⟨_, (pss_cons (ps_if (pt_not (k_truth K (by rfl) (pe_fld (pv 0) rfl) (by intro _; rfl))) (pss_one (ps_ret pe_bl)) pss_nil)
      (pss_cons (ps_asg (pe_bm0 PySem.F.plainAttrs_list PySem.F.slot_list_pop PySem.F.type_list_pop mt_pop (pe_fld (pv 0) rfl)) (k_gTup K (by rfl) (by rfl) (pgs_cons (pg_name (i := 1) sc_Bench_redo.nd rfl (Or.inl rfl)) (pgs_cons (pg_name (i := 2) sc_Bench_redo.nd rfl (Or.inl rfl)) pgs_nil))))
      (pss_cons (ps_expr (pe_bm PySem.F.plainAttrs_list PySem.F.slot_list_append PySem.F.type_list_append mt_append (pe_fld (pv 0) rfl) (pa_cons (pe_tup (pa_cons (pv 1) (pa_cons (pe_fld (pv 0) rfl) pa_nil))) pa_nil)))
      (pss_cons (ps_expr (pe_meth (pv 0) T.kk_Bench.cls T.me_Bench__turn_to G_Bench__turn_to hr_Bench__turn_to T.b_Bench__turn_to .nil pass0 (pa_cons (pv 1) (pa_cons (pv 2) pa_nil))))
      (pss_one (ps_ret pe_bl)))))), ?_⟩
  exact run_O (x := "self") (N := ["state", "system"]) (f := body_Bench_redo) (fun C lk => (st_seq (st_if (s_not (s_truF T.kk_Bench T.nf_Bench__ahead)) (st_ret s_bl) st_next)
      (st_seq (st_asg (s_popF T.kk_Bench T.nf_Bench__ahead) (g_tup (g_cons (g_name (by decide)) (g_cons (g_name (by decide)) g_nil))))
      (st_seq (st_drop (s_appF T.kk_Bench T.nf_Bench__past (q_tup (q_cons q_var (q_cons (q_fld T.kk_Bench T.nf_Bench__now) q_nil)))))
      (st_seq (st_drop (s_meth T.kk_Bench (s_cons s_var (s_cons s_var s_nil))))
      (st_ret s_bl)))))) h
theorem ok_Bench__choices {P : Program} {w : World} {K : PySem.W.Frag} {mg : Str → Option Value} {base : Heap} (T : Env K mg) : FnOk P w K mg base (L2.CX P w) 3 T.a_Bench__choices T.d_Bench__choices ["self", "state"] (spO K T.L "Bench" 1 den_Bench__choices) := by
  refine T.F_Bench__choices.okX sc_Bench__choices (fun vs H Q E h => len_O h) (fun cdv A outer s H vs Q E hr h => ?_)
  have I_NoSuchState := iok_NoSuchState (P := P) (w := w) (base := base) T
  have hr_NoSuchState : Room 2 _ := hr.mono (by decide)
  have tk : Takes (cxOf (L2.CX P w) P w K mg base ["self", "state"] "Bench._choices" (defScope s_Bench__choices) T.a_Bench__choices cdv A outer s H E) (fun cls d _ H => E cls d H) := takes_of rfl rfl rfl rfl
  refine ⟨_, (pss_cons (ps_if (PT.nox (pt_not (pt_chain op_le op_lt pe_int (pv 1) (pe_callB (k_len K) (by rfl) T.z_len (by decide +kernel) (pa_cons (pe_fld (pv 0) rfl) pa_nil))))) (pss_one (ps_raise rfl tk (pmk_oex T.o_NoSuchState T.i_NoSuchState T.t_NoSuchState I_NoSuchState hr_NoSuchState T.b_NoSuchState .nil pass0 (by rfl) T.g_NoSuchState (pa_cons (pv 1) pa_nil)))) pss_nil)
      (pss_one (ps_nox (ps_ret (pe_ix (ixT K) (pe_fld (pv 0) rfl) (pv 1) (fun _ _ => rfl)))))), ?_⟩
  exact run_O (x := "self") (N := ["state"]) (f := body_Bench__choices) (fun C lk => (st_seq (st_if (s_not (s_tst (s_chain o_ib o_ib s_int s_var (s_cb c_len (s_cons (s_fld T.kk_Bench T.nf_Bench__now) s_nil))))) (st_raiseO lk rfl rfl T.o_NoSuchState T.n_NoSuchState (s_cons s_var s_nil)) st_next)
      (st_ret (s_op o_ixT (s_fld T.kk_Bench T.nf_Bench__now) s_var)))) h
theorem ok_Bench__others {P : Program} {w : World} {K : PySem.W.Frag} {mg : Str → Option Value} {base : Heap} (T : Env K mg) : FnOk P w K mg base (L2.CX P w) 4 T.a_Bench__others T.d_Bench__others ["self", "state", "number"] (spO K T.L "Bench" 2 den_Bench__others) := by
  refine T.F_Bench__others.okX sc_Bench__others (fun vs H Q E h => len_O h) (fun cdv A outer s H vs Q E hr h => ?_)
  have G_Bench__choices := ok_Bench__choices (P := P) (w := w) (base := base) T
  have hr_Bench__choices : Room 3 _ := hr.mono (by decide)
  have I_NoSuchChoice := iok_NoSuchChoice (P := P) (w := w) (base := base) T
  have hr_NoSuchChoice : Room 2 _ := hr.mono (by decide)
  have tk : Takes (cxOf (L2.CX P w) P w K mg base ["self", "state", "number", "choices"] "Bench._others" (defScope s_Bench__others) T.a_Bench__others cdv A outer s H E) (fun cls d _ H => E cls d H) := takes_of rfl rfl rfl rfl
  refine ⟨_, (pss_cons (ps_set (i := 3) sc_Bench__others.nd rfl (Or.inl rfl) (pe_meth (pv 0) T.kk_Bench.cls T.me_Bench__choices G_Bench__choices hr_Bench__choices T.b_Bench__choices .nil (passAll tk) (pa_cons (pv 1) pa_nil)))
      (pss_cons (ps_if (PT.nox (pt_not (pt_chain op_le op_lt pe_int (pv 2) (pe_callB (k_len K) (by rfl) T.z_len (by decide +kernel) (pa_cons (pv 3) pa_nil))))) (pss_one (ps_raise rfl tk (pmk_oex T.o_NoSuchChoice T.i_NoSuchChoice T.t_NoSuchChoice I_NoSuchChoice hr_NoSuchChoice T.b_NoSuchChoice .nil pass0 (by rfl) T.g_NoSuchChoice (pa_cons (pv 2) pa_nil)))) pss_nil)
      (pss_one (ps_nox (ps_ret (pe_tup (pa_cons (pe_slice (k_slT K) (pv 3) po_none (po_some (pv 2))) (pa_cons (pe_slice (k_slT K) (pv 3) (po_some (pe_op op_add (pv 2) pe_int)) po_none) pa_nil)))))))), ?_⟩
  exact run_O (x := "self") (N := ["state", "number", "choices"]) (f := body_Bench__others) (fun C lk => (st_seq (st_asg (s_methX lk T.kk_Bench (s_cons s_var s_nil)) (g_name (by decide)))
      (st_seq (st_if (s_not (s_tst (s_chain o_ib o_ib s_int s_var (s_cb c_len (s_cons s_var s_nil))))) (st_raiseO lk rfl rfl T.o_NoSuchChoice T.n_NoSuchChoice (s_cons s_var s_nil)) st_next)
      (st_ret (s_tup (s_cons (s_sl l_slT s_var s_noPart (s_part s_var)) (s_cons (s_sl l_slT s_var (s_part (s_op o_i0 s_var s_int)) s_noPart) s_nil))))))) h
theorem ok_Bench__change {P : Program} {w : World} {K : PySem.W.Frag} {mg : Str → Option Value} {base : Heap} (T : Env K mg) : FnOk P w K mg base (L2.CX P w) 5 T.a_Bench__change T.d_Bench__change ["self", "state", "choices"] (spO K T.L "Bench" 2 den_Bench__change) := by
  refine T.F_Bench__change.okX sc_Bench__change (fun vs H Q E h => len_O h) (fun cdv A outer s H vs Q E hr h => ?_)
  have G_check := ok_check (P := P) (w := w) (base := base) T
  have hr_check : Room 4 _ := hr.mono (by decide)
  have G_Bench__turn_to := ok_Bench__turn_to (P := P) (w := w) (base := base) T
  have hr_Bench__turn_to : Room 1 _ := hr.mono (by decide)
  have tk : Takes (cxOf (L2.CX P w) P w K mg base ["self", "state", "choices", "system"] "Bench._change" (defScope s_Bench__change) T.a_Bench__change cdv A outer s H E) (fun cls d _ H => E cls d H) := takes_of rfl rfl rfl rfl
  refine ⟨_, (pss_cons (ps_nox (ps_set (i := 3) sc_Bench__change.nd rfl (Or.inl rfl) (pe_tup (k_star K (by rfl) (pe_slice (k_slT K) (pe_fld (pv 0) rfl) po_none (po_some (pv 1))) (pa_cons (pv 2) (k_star K (by rfl) (pe_slice (k_slT K) (pe_fld (pv 0) rfl) (po_some (pe_op op_add (pv 1) pe_int)) po_none) pa_nil))))))
      (pss_cons (ps_expr (pe_callS G_check hr_check (by rfl) T.g_check T.F_check.kp T.b_check (fun σ => passAt tk σ) (pa_cons (pv 3) pa_nil)))
      (pss_cons (ps_if (PT.nox (pt_cmpR op_ge (pe_callB (k_len K) (by rfl) T.z_len (by decide +kernel) (pa_cons (pe_fld (pv 0) rfl) pa_nil)) (pe_glob (v := .int 100) (by rfl) T.c_MOST_CHANGES ⟨_, rfl⟩) (nomark _))) (pss_one (ps_raise rfl tk (pmk_own0A PySem.F.excBase_ValueError T.e_TooManyChanges T.g_TooManyChanges T.k_TooManyChanges (raises_own T.m_TooManyChanges T.y_TooManyChanges) (by rfl) pa_nil))) pss_nil)
      (pss_cons (ps_nox (ps_expr (pe_bm PySem.F.plainAttrs_list PySem.F.slot_list_append PySem.F.type_list_append mt_append (pe_fld (pv 0) rfl) (pa_cons (pe_tup (pa_cons (pv 1) (pa_cons (pe_fld (pv 0) rfl) pa_nil))) pa_nil))))
      (pss_cons (ps_nox (ps_fld (pv 0) (pe_lst pa_nil) rfl))
      (pss_one (ps_nox (ps_expr (pe_meth (pv 0) T.kk_Bench.cls T.me_Bench__turn_to G_Bench__turn_to hr_Bench__turn_to T.b_Bench__turn_to .nil pass0 (pa_cons (pv 1) (pa_cons (pv 3) pa_nil))))))))))), ?_⟩
  exact run_O (x := "self") (N := ["state", "choices", "system"]) (f := body_Bench__change) (fun C lk => (st_seq (st_asg (s_tup (s_star (s_sl l_slT (s_fld T.kk_Bench T.nf_Bench__now) s_noPart (s_part s_var)) (s_cons s_var (s_star (s_sl l_slT (s_fld T.kk_Bench T.nf_Bench__now) (s_part (s_op o_i0 s_var s_int)) s_noPart) s_nil)))) (g_name (by decide)))
      (st_seq (st_drop (s_callXO lk (s_cons s_var s_nil)))
      (st_seq (st_if (s_tst (s_op o_ib (s_lenF T.kk_Bench T.nf_Bench__past) s_int)) (st_raiseO0 lk rfl s_nil) st_next)
      (st_seq (st_drop (s_appF T.kk_Bench T.nf_Bench__past (q_tup (q_cons q_var (q_cons (q_fld T.kk_Bench T.nf_Bench__now) q_nil)))))
      (st_seq (st_setFO T.kk_Bench T.nf_Bench__ahead (f_lst s_nil))
      (st_drop (s_meth T.kk_Bench (s_cons s_var (s_cons s_var s_nil)))))))))) h
theorem ok_Bench_remove_choice {P : Program} {w : World} {K : PySem.W.Frag} {mg : Str → Option Value} {base : Heap} (T : Env K mg) : FnOk P w K mg base (L2.CX P w) 6 T.a_Bench_remove_choice T.d_Bench_remove_choice ["self", "state", "number"] (spO K T.L "Bench" 2 den_Bench_remove_choice) := by
  refine T.F_Bench_remove_choice.okX sc_Bench_remove_choice (fun vs H Q E h => len_O h) (fun cdv A outer s H vs Q E hr h => ?_)
  have G_Bench__others := ok_Bench__others (P := P) (w := w) (base := base) T
  have hr_Bench__others : Room 4 _ := hr.mono (by decide)
  have G_Bench__change := ok_Bench__change (P := P) (w := w) (base := base) T
  have hr_Bench__change : Room 5 _ := hr.mono (by decide)
  have tk : Takes (cxOf (L2.CX P w) P w K mg base ["self", "state", "number", "before", "after"] "Bench.remove_choice" (defScope s_Bench_remove_choice) T.a_Bench_remove_choice cdv A outer s H E) (fun cls d _ H => E cls d H) := takes_of rfl rfl rfl rfl
  refine ⟨_, (pss_cons (ps_asg (pe_meth (pv 0) T.kk_Bench.cls T.me_Bench__others G_Bench__others hr_Bench__others T.b_Bench__others .nil (passAll tk) (pa_cons (pv 1) (pa_cons (pv 2) pa_nil))) (k_gTup K (by rfl) (by rfl) (pgs_cons (pg_name (i := 3) sc_Bench_remove_choice.nd rfl (Or.inl rfl)) (pgs_cons (pg_name (i := 4) sc_Bench_remove_choice.nd rfl (Or.inl rfl)) pgs_nil))))
      (pss_one (ps_expr (pe_meth (pv 0) T.kk_Bench.cls T.me_Bench__change G_Bench__change hr_Bench__change T.b_Bench__change .nil (passAll tk) (pa_cons (pv 1) (pa_cons (pe_tup (k_star K (by rfl) (pv 3) (k_star K (by rfl) (pv 4) pa_nil))) pa_nil)))))), ?_⟩
  exact run_O (x := "self") (N := ["state", "number", "before", "after"]) (f := body_Bench_remove_choice) (fun C lk => (st_seq (st_asg (s_methX lk T.kk_Bench (s_cons s_var (s_cons s_var s_nil))) (g_tup (g_cons (g_name (by decide)) (g_cons (g_name (by decide)) g_nil))))
      (st_drop (s_methX lk T.kk_Bench (s_cons s_var (s_cons (s_tup (s_star s_var (s_star s_var s_nil))) s_nil)))))) h
theorem ok_Bench_add_choice {P : Program} {w : World} {K : PySem.W.Frag} {mg : Str → Option Value} {base : Heap} (T : Env K mg) : FnOk P w K mg base (L2.CX P w) 6 T.a_Bench_add_choice T.d_Bench_add_choice ["self", "state", "cost", "ends"] (spO K T.L "Bench" 3 den_Bench_add_choice) := by
  refine T.F_Bench_add_choice.okX sc_Bench_add_choice (fun vs H Q E h => len_O h) (fun cdv A outer s H vs Q E hr h => ?_)
  have G_Bench__choices := ok_Bench__choices (P := P) (w := w) (base := base) T
  have hr_Bench__choices : Room 3 _ := hr.mono (by decide)
  have G_Bench__change := ok_Bench__change (P := P) (w := w) (base := base) T
  have hr_Bench__change : Room 5 _ := hr.mono (by decide)
  have tk : Takes (cxOf (L2.CX P w) P w K mg base ["self", "state", "cost", "ends", "choices"] "Bench.add_choice" (defScope s_Bench_add_choice) T.a_Bench_add_choice cdv A outer s H E) (fun cls d _ H => E cls d H) := takes_of rfl rfl rfl rfl
  refine ⟨_, (pss_cons (ps_set (i := 4) sc_Bench_add_choice.nd rfl (Or.inl rfl) (pe_meth (pv 0) T.kk_Bench.cls T.me_Bench__choices G_Bench__choices hr_Bench__choices T.b_Bench__choices .nil (passAll tk) (pa_cons (pv 1) pa_nil)))
      (pss_one (ps_expr (pe_meth (pv 0) T.kk_Bench.cls T.me_Bench__change G_Bench__change hr_Bench__change T.b_Bench__change .nil (passAll tk) (pa_cons (pv 1) (pa_cons (pe_tup (k_star K (by rfl) (pv 4) (pa_cons (pe_tup (pa_cons (pv 2) (pa_cons (pv 3) pa_nil))) pa_nil))) pa_nil)))))), ?_⟩
  exact run_O (x := "self") (N := ["state", "cost", "ends", "choices"]) (f := body_Bench_add_choice) (fun C lk => (st_seq (st_asg (s_methX lk T.kk_Bench (s_cons s_var s_nil)) (g_name (by decide)))
      (st_drop (s_methX lk T.kk_Bench (s_cons s_var (s_cons (s_tup (s_star s_var (s_cons (s_tup (s_cons s_var (s_cons s_var s_nil))) s_nil))) s_nil)))))) h
theorem ok_Bench_set_choice {P : Program} {w : World} {K : PySem.W.Frag} {mg : Str → Option Value} {base : Heap} (T : Env K mg) : FnOk P w K mg base (L2.CX P w) 6 T.a_Bench_set_choice T.d_Bench_set_choice ["self", "state", "number", "cost", "ends"] (spO K T.L "Bench" 4 den_Bench_set_choice) := by
  refine T.F_Bench_set_choice.okX sc_Bench_set_choice (fun vs H Q E h => len_O h) (fun cdv A outer s H vs Q E hr h => ?_)
  have G_Bench__others := ok_Bench__others (P := P) (w := w) (base := base) T
  have hr_Bench__others : Room 4 _ := hr.mono (by decide)
  have G_Bench__change := ok_Bench__change (P := P) (w := w) (base := base) T
  have hr_Bench__change : Room 5 _ := hr.mono (by decide)
  have tk : Takes (cxOf (L2.CX P w) P w K mg base ["self", "state", "number", "cost", "ends", "before", "after"] "Bench.set_choice" (defScope s_Bench_set_choice) T.a_Bench_set_choice cdv A outer s H E) (fun cls d _ H => E cls d H) := takes_of rfl rfl rfl rfl
  refine ⟨_, (pss_cons (ps_asg (pe_meth (pv 0) T.kk_Bench.cls T.me_Bench__others G_Bench__others hr_Bench__others T.b_Bench__others .nil (passAll tk) (pa_cons (pv 1) (pa_cons (pv 2) pa_nil))) (k_gTup K (by rfl) (by rfl) (pgs_cons (pg_name (i := 5) sc_Bench_set_choice.nd rfl (Or.inl rfl)) (pgs_cons (pg_name (i := 6) sc_Bench_set_choice.nd rfl (Or.inl rfl)) pgs_nil))))
      (pss_one (ps_expr (pe_meth (pv 0) T.kk_Bench.cls T.me_Bench__change G_Bench__change hr_Bench__change T.b_Bench__change .nil (passAll tk) (pa_cons (pv 1) (pa_cons (pe_tup (k_star K (by rfl) (pv 5) (pa_cons (pe_tup (pa_cons (pv 3) (pa_cons (pv 4) pa_nil))) (k_star K (by rfl) (pv 6) pa_nil)))) pa_nil)))))), ?_⟩
  exact run_O (x := "self") (N := ["state", "number", "cost", "ends", "before", "after"]) (f := body_Bench_set_choice) (fun C lk => (st_seq (st_asg (s_methX lk T.kk_Bench (s_cons s_var (s_cons s_var s_nil))) (g_tup (g_cons (g_name (by decide)) (g_cons (g_name (by decide)) g_nil))))
      (st_drop (s_methX lk T.kk_Bench (s_cons s_var (s_cons (s_tup (s_star s_var (s_cons (s_tup (s_cons s_var (s_cons s_var s_nil))) (s_star s_var s_nil)))) s_nil)))))) h
theorem ok_l_kind {P : Program} {w : World} {K : PySem.W.Frag} {mg : Str → Option Value} {base : Heap} (T : Env K mg) : FnE P w K mg base 2 T.a_l_kind T.d_l_kind ["e"] (spKind K T.L) := by
  refine fn_E T.F_l_kind sc_l_kind (fun p vs H Q h => by rw [h.1]; rfl) (fun cdv A outer s H vs Q p hr h => ?_)
  obtain ⟨a, oe⟩ := p
  obtain ⟨rfl, e, y, c, d, v, B, hk, hc, hz, hf, da, bh, xd, k⟩ := h
  refine ⟨_, pss_cons (ps_set (i := 1) sc_l_kind.nd rfl (Or.inl rfl) (pe_lst pa_nil))
    (pss_cons (ps_if (pt_val (pe_callB (call_isEd hz hf) (by rfl) T.z_isinstance (by decide +kernel) (pa_cons (pv 0) (pa_cons (pe_glob (v := .ref T.c_NoSuchState) (by rfl) T.g_NoSuchState rfl) pa_nil))))
      (pss_one (ps_expr (pe_bm PySem.F.plainAttrs_list PySem.F.slot_list_append PySem.F.type_list_append mt_append (pv 1) (pa_cons (pe_tup (pa_cons pe_str (pa_cons (pe_xf (xcB_xf T.xc_NoSuchState) T.n_NoSuchState hz hf (pv 0)) pa_nil))) pa_nil)))) pss_nil)
    (pss_cons (ps_if (pt_val (pe_callB (call_isEd hz hf) (by rfl) T.z_isinstance (by decide +kernel) (pa_cons (pv 0) (pa_cons (pe_glob (v := .ref T.c_NoSuchChoice) (by rfl) T.g_NoSuchChoice rfl) pa_nil))))
      (pss_one (ps_expr (pe_bm PySem.F.plainAttrs_list PySem.F.slot_list_append PySem.F.type_list_append mt_append (pv 1) (pa_cons (pe_tup (pa_cons pe_str (pa_cons (pe_xf (xcB_xf T.xc_NoSuchChoice) T.n_NoSuchChoice hz hf (pv 0)) pa_nil))) pa_nil)))) pss_nil)
    (pss_cons (ps_if (pt_val (pe_callB (call_isEd hz hf) (by rfl) T.z_isinstance (by decide +kernel) (pa_cons (pv 0) (pa_cons (pe_glob (v := .ref T.c_InvalidSystem) (by rfl) T.g_InvalidSystem rfl) pa_nil))))
      (pss_one (ps_expr (pe_bm PySem.F.plainAttrs_list PySem.F.slot_list_append PySem.F.type_list_append mt_append (pv 1) (pa_cons (pe_tup (pa_cons pe_str (pa_cons (pe_xf (xcB_xf T.xc_InvalidSystem) T.n_InvalidSystem hz hf (pv 0)) pa_nil))) pa_nil)))) pss_nil)
    (pss_cons (ps_if (pt_val (pe_callB (call_isEd hz hf) (by rfl) T.z_isinstance (by decide +kernel) (pa_cons (pv 0) (pa_cons (pe_glob (v := .ref T.c_TooManyChanges) (by rfl) T.g_TooManyChanges rfl) pa_nil))))
      (pss_one (ps_expr (pe_bm PySem.F.plainAttrs_list PySem.F.slot_list_append PySem.F.type_list_append mt_append (pv 1) (pa_cons (pe_tup (pa_cons pe_str (pa_cons pe_int pa_nil))) pa_nil)))) pss_nil)
    (pss_cons (ps_if (PW.pt (pw_or (pt_cmpR op_ne (pe_callB (k_len K) (by rfl) T.z_len (by decide +kernel) (pa_cons (pv 1) pa_nil)) pe_int (nomark _)) (pw_or (pt_not (pt_val (pe_callB (call_isEd hz hf) (by rfl) T.z_isinstance (by decide +kernel) (pa_cons (pv 0) (pa_cons (pe_bltn (v := .ty "ValueError") (by rfl) T.z_ValueError (by decide +kernel) rfl) pa_nil))))) (pw_or1 (pt_cmpR op_eq (pe_callB (call_isEd hz hf) (by rfl) T.z_isinstance (by decide +kernel) (pa_cons (pv 0) (pa_cons (pe_glob (v := .ref T.c_BenchError) (by rfl) T.g_BenchError rfl) pa_nil))) (pe_callB (call_isEd hz hf) (by rfl) T.z_isinstance (by decide +kernel) (pa_cons (pv 0) (pa_cons (pe_glob (v := .ref T.c_InvalidSystem) (by rfl) T.g_InvalidSystem rfl) pa_nil))) (nomark _)))))) (pss_one (ps_ret (pe_tup (pa_cons pe_str (pa_cons pe_int pa_nil))))) pss_nil)
    (pss_one (ps_ret (pe_ix (ixL K) (pv 1) pe_int (fun _ _ => rfl))))))))), ?_⟩
  refine ⟨(by show 0 ≤ sizeLine; decide), fun l hl => ?_⟩
  unfold kindD at hk
  cases ea : e.arg with
  | none =>
    rw [ea] at hk
    dsimp only at hk
    by_cases e1 : e.cls = "TooManyChanges"
    · rw [if_pos e1] at hk
      cases hk
      rw [e1] at hc
      cases hc
      unfold XD at xd
      rw [ea] at xd
      have xd : d = none := xd
      subst xd
      have xo := xcB_ok T.xc_TooManyChanges
      have nd : ∀ d2 : Addr, (none : Option Addr) = some d2 → ∃ fs, upd H l (.lst []) d2 = some (.xd fs) := fun d2 z => nomatch z
      refine ⟨_, rfl, T.c_TooManyChanges, .ref T.c_NoSuchState, .ref T.c_NoSuchState, false, rfl, xo, rfl, fun _ z => z, T.j_TooManyChanges_NoSuchState, nd, false, rfl, ?_⟩
      refine ifF ?_
      refine ⟨_, rfl, T.c_TooManyChanges, .ref T.c_NoSuchChoice, .ref T.c_NoSuchChoice, false, rfl, xo, rfl, fun _ z => z, T.j_TooManyChanges_NoSuchChoice, nd, false, rfl, ?_⟩
      refine ifF ?_
      refine ⟨_, rfl, T.c_TooManyChanges, .ref T.c_InvalidSystem, .ref T.c_InvalidSystem, false, rfl, xo, rfl, fun _ z => z, T.j_TooManyChanges_InvalidSystem, nd, false, rfl, ?_⟩
      refine ifF ?_
      refine ⟨_, rfl, T.c_TooManyChanges, .ref T.c_TooManyChanges, .ref T.c_TooManyChanges, true, rfl, xo, rfl, fun _ z => z, T.j_TooManyChanges_TooManyChanges, nd, true, rfl, ?_⟩
      refine ifT ?_
      refine ⟨_, rfl, .inl ⟨rfl, [], SqL.of upd_same⟩, ?_⟩
      refine ⟨(by show 2 ≤ sizeLine; decide), fun p hp => ?_⟩
      have pl : l ≠ p := by
        rintro rfl
        rw [upd_same] at hp
        cases hp
      refine ⟨l, [], .ref p, rfl, rfl, (by rw [upd_ne pl]; exact upd_same), (by decide), ?_⟩
      have nd : ∀ d2 : Addr, (none : Option Addr) = some d2 → ∃ fs, upd (upd (upd H l (.lst [])) p (.tup [.str "many", .int 0])) l (.lst [.ref p]) d2 = some (.xd fs) := fun d2 z => nomatch z
      refine ⟨_, rfl, l, [.ref p], rfl, .inl (SqL.of upd_same), ?_⟩
      refine ⟨rfl, false, (by rfl), ?_⟩
      refine ifF ?_
      refine ⟨_, rfl, T.c_TooManyChanges, .ty "ValueError", .type "ValueError", true, rfl, xo, rfl, fun _ z => z, T.j_TooManyChanges_ValueError, nd, true, rfl, ?_⟩
      refine ifF ?_
      refine ⟨_, rfl, T.c_TooManyChanges, .ref T.c_BenchError, .ref T.c_BenchError, true, rfl, xo, rfl, fun _ z => z, T.j_TooManyChanges_BenchError, nd, ?_⟩
      refine ⟨_, rfl, T.c_TooManyChanges, .ref T.c_InvalidSystem, .ref T.c_InvalidSystem, false, rfl, xo, rfl, fun _ z => z, T.j_TooManyChanges_InvalidSystem, nd, ?_⟩
      refine ⟨rfl, false, (by rfl), ?_⟩
      refine ifF ?_
      refine ⟨_, rfl, l, [.ref p], 0, .ref p, rfl, rfl, SqL.of upd_same, rfl, ?_⟩
      exact kind_end bh (.int 0) k hl hp
    · rw [if_neg e1] at hk
      cases hk
  | some z =>
    rw [ea] at hk
    dsimp only at hk
    unfold XD at xd
    rw [ea] at xd
    obtain ⟨dd, rfl, hdd⟩ := xd
    have da' := da z ea
    have dl : dd ≠ l := ne_of_none hdd hl
    by_cases e1 : e.cls = "NoSuchState"
    · rw [if_pos e1] at hk
      cases hk
      rw [e1] at hc hdd
      cases hc
      have hdd1 : upd H l (.lst []) dd = some (.xd [("state", v)]) := by rw [upd_ne dl]; exact hdd
      have xo := xcB_ok T.xc_NoSuchState
      have nd : ∀ d2 : Addr, some dd = some d2 → ∃ fs, upd H l (.lst []) d2 = some (.xd fs) := fun d2 z => by cases z; exact ⟨_, hdd1⟩
      refine ⟨_, rfl, T.c_NoSuchState, .ref T.c_NoSuchState, .ref T.c_NoSuchState, true, rfl, xo, rfl, fun _ z => z, T.j_NoSuchState_NoSuchState, nd, true, rfl, ?_⟩
      refine ifT ?_
      refine ⟨_, rfl, .inl ⟨rfl, [], SqL.of upd_same⟩, ?_⟩
      refine ⟨_, rfl, rfl, rfl, dd, _, v, rfl, hdd1, List.lookup_cons_self, ?_⟩
      refine ⟨(by show 2 ≤ sizeLine; decide), fun p hp => ?_⟩
      have pl : l ≠ p := by
        rintro rfl
        rw [upd_same] at hp
        cases hp
      refine ⟨l, [], .ref p, rfl, rfl, (by rw [upd_ne pl]; exact upd_same), (by decide), ?_⟩
      have nd : ∀ d2 : Addr, some dd = some d2 → ∃ fs, upd (upd (upd H l (.lst [])) p (.tup [.str "state", v])) l (.lst [.ref p]) d2 = some (.xd fs) := fun d2 z => by
        cases z
        rw [upd_ne dl, upd_ne (ne_of_none hdd1 hp)]
        exact ⟨_, hdd1⟩
      refine ⟨_, rfl, T.c_NoSuchState, .ref T.c_NoSuchChoice, .ref T.c_NoSuchChoice, false, rfl, xo, rfl, fun _ z => z, T.j_NoSuchState_NoSuchChoice, nd, false, rfl, ?_⟩
      refine ifF ?_
      refine ⟨_, rfl, T.c_NoSuchState, .ref T.c_InvalidSystem, .ref T.c_InvalidSystem, false, rfl, xo, rfl, fun _ z => z, T.j_NoSuchState_InvalidSystem, nd, false, rfl, ?_⟩
      refine ifF ?_
      refine ⟨_, rfl, T.c_NoSuchState, .ref T.c_TooManyChanges, .ref T.c_TooManyChanges, false, rfl, xo, rfl, fun _ z => z, T.j_NoSuchState_TooManyChanges, nd, false, rfl, ?_⟩
      refine ifF ?_
      refine ⟨_, rfl, l, [.ref p], rfl, .inl (SqL.of upd_same), ?_⟩
      refine ⟨rfl, false, (by rfl), ?_⟩
      refine ifF ?_
      refine ⟨_, rfl, T.c_NoSuchState, .ty "ValueError", .type "ValueError", true, rfl, xo, rfl, fun _ z => z, T.j_NoSuchState_ValueError, nd, true, rfl, ?_⟩
      refine ifF ?_
      refine ⟨_, rfl, T.c_NoSuchState, .ref T.c_BenchError, .ref T.c_BenchError, true, rfl, xo, rfl, fun _ z => z, T.j_NoSuchState_BenchError, nd, ?_⟩
      refine ⟨_, rfl, T.c_NoSuchState, .ref T.c_InvalidSystem, .ref T.c_InvalidSystem, false, rfl, xo, rfl, fun _ z => z, T.j_NoSuchState_InvalidSystem, nd, ?_⟩
      refine ⟨rfl, false, (by rfl), ?_⟩
      refine ifF ?_
      refine ⟨_, rfl, l, [.ref p], 0, .ref p, rfl, rfl, SqL.of upd_same, rfl, ?_⟩
      exact kind_end bh da' k hl hp
    · rw [if_neg e1] at hk
      by_cases e2 : e.cls = "NoSuchChoice"
      · rw [if_pos e2] at hk
        cases hk
        rw [e2] at hc hdd
        cases hc
        have hdd1 : upd H l (.lst []) dd = some (.xd [("number", v)]) := by rw [upd_ne dl]; exact hdd
        have xo := xcB_ok T.xc_NoSuchChoice
        have nd : ∀ d2 : Addr, some dd = some d2 → ∃ fs, upd H l (.lst []) d2 = some (.xd fs) := fun d2 z => by cases z; exact ⟨_, hdd1⟩
        refine ⟨_, rfl, T.c_NoSuchChoice, .ref T.c_NoSuchState, .ref T.c_NoSuchState, false, rfl, xo, rfl, fun _ z => z, T.j_NoSuchChoice_NoSuchState, nd, false, rfl, ?_⟩
        refine ifF ?_
        refine ⟨_, rfl, T.c_NoSuchChoice, .ref T.c_NoSuchChoice, .ref T.c_NoSuchChoice, true, rfl, xo, rfl, fun _ z => z, T.j_NoSuchChoice_NoSuchChoice, nd, true, rfl, ?_⟩
        refine ifT ?_
        refine ⟨_, rfl, .inl ⟨rfl, [], SqL.of upd_same⟩, ?_⟩
        refine ⟨_, rfl, rfl, rfl, dd, _, v, rfl, hdd1, List.lookup_cons_self, ?_⟩
        refine ⟨(by show 2 ≤ sizeLine; decide), fun p hp => ?_⟩
        have pl : l ≠ p := by
          rintro rfl
          rw [upd_same] at hp
          cases hp
        refine ⟨l, [], .ref p, rfl, rfl, (by rw [upd_ne pl]; exact upd_same), (by decide), ?_⟩
        have nd : ∀ d2 : Addr, some dd = some d2 → ∃ fs, upd (upd (upd H l (.lst [])) p (.tup [.str "choice", v])) l (.lst [.ref p]) d2 = some (.xd fs) := fun d2 z => by
          cases z
          rw [upd_ne dl, upd_ne (ne_of_none hdd1 hp)]
          exact ⟨_, hdd1⟩
        refine ⟨_, rfl, T.c_NoSuchChoice, .ref T.c_InvalidSystem, .ref T.c_InvalidSystem, false, rfl, xo, rfl, fun _ z => z, T.j_NoSuchChoice_InvalidSystem, nd, false, rfl, ?_⟩
        refine ifF ?_
        refine ⟨_, rfl, T.c_NoSuchChoice, .ref T.c_TooManyChanges, .ref T.c_TooManyChanges, false, rfl, xo, rfl, fun _ z => z, T.j_NoSuchChoice_TooManyChanges, nd, false, rfl, ?_⟩
        refine ifF ?_
        refine ⟨_, rfl, l, [.ref p], rfl, .inl (SqL.of upd_same), ?_⟩
        refine ⟨rfl, false, (by rfl), ?_⟩
        refine ifF ?_
        refine ⟨_, rfl, T.c_NoSuchChoice, .ty "ValueError", .type "ValueError", true, rfl, xo, rfl, fun _ z => z, T.j_NoSuchChoice_ValueError, nd, true, rfl, ?_⟩
        refine ifF ?_
        refine ⟨_, rfl, T.c_NoSuchChoice, .ref T.c_BenchError, .ref T.c_BenchError, true, rfl, xo, rfl, fun _ z => z, T.j_NoSuchChoice_BenchError, nd, ?_⟩
        refine ⟨_, rfl, T.c_NoSuchChoice, .ref T.c_InvalidSystem, .ref T.c_InvalidSystem, false, rfl, xo, rfl, fun _ z => z, T.j_NoSuchChoice_InvalidSystem, nd, ?_⟩
        refine ⟨rfl, false, (by rfl), ?_⟩
        refine ifF ?_
        refine ⟨_, rfl, l, [.ref p], 0, .ref p, rfl, rfl, SqL.of upd_same, rfl, ?_⟩
        exact kind_end bh da' k hl hp
      · rw [if_neg e2] at hk
        by_cases e3 : e.cls = "InvalidSystem"
        · rw [if_pos e3] at hk
          cases hk
          rw [e3] at hc hdd
          cases hc
          have hdd1 : upd H l (.lst []) dd = some (.xd [("fault", v)]) := by rw [upd_ne dl]; exact hdd
          have xo := xcB_ok T.xc_InvalidSystem
          have nd : ∀ d2 : Addr, some dd = some d2 → ∃ fs, upd H l (.lst []) d2 = some (.xd fs) := fun d2 z => by cases z; exact ⟨_, hdd1⟩
          refine ⟨_, rfl, T.c_InvalidSystem, .ref T.c_NoSuchState, .ref T.c_NoSuchState, false, rfl, xo, rfl, fun _ z => z, T.j_InvalidSystem_NoSuchState, nd, false, rfl, ?_⟩
          refine ifF ?_
          refine ⟨_, rfl, T.c_InvalidSystem, .ref T.c_NoSuchChoice, .ref T.c_NoSuchChoice, false, rfl, xo, rfl, fun _ z => z, T.j_InvalidSystem_NoSuchChoice, nd, false, rfl, ?_⟩
          refine ifF ?_
          refine ⟨_, rfl, T.c_InvalidSystem, .ref T.c_InvalidSystem, .ref T.c_InvalidSystem, true, rfl, xo, rfl, fun _ z => z, T.j_InvalidSystem_InvalidSystem, nd, true, rfl, ?_⟩
          refine ifT ?_
          refine ⟨_, rfl, .inl ⟨rfl, [], SqL.of upd_same⟩, ?_⟩
          refine ⟨_, rfl, rfl, rfl, dd, _, v, rfl, hdd1, List.lookup_cons_self, ?_⟩
          refine ⟨(by show 2 ≤ sizeLine; decide), fun p hp => ?_⟩
          have pl : l ≠ p := by
            rintro rfl
            rw [upd_same] at hp
            cases hp
          refine ⟨l, [], .ref p, rfl, rfl, (by rw [upd_ne pl]; exact upd_same), (by decide), ?_⟩
          have nd : ∀ d2 : Addr, some dd = some d2 → ∃ fs, upd (upd (upd H l (.lst [])) p (.tup [.str "fault", v])) l (.lst [.ref p]) d2 = some (.xd fs) := fun d2 z => by
            cases z
            rw [upd_ne dl, upd_ne (ne_of_none hdd1 hp)]
            exact ⟨_, hdd1⟩
          refine ⟨_, rfl, T.c_InvalidSystem, .ref T.c_TooManyChanges, .ref T.c_TooManyChanges, false, rfl, xo, rfl, fun _ z => z, T.j_InvalidSystem_TooManyChanges, nd, false, rfl, ?_⟩
          refine ifF ?_
          refine ⟨_, rfl, l, [.ref p], rfl, .inl (SqL.of upd_same), ?_⟩
          refine ⟨rfl, false, (by rfl), ?_⟩
          refine ifF ?_
          refine ⟨_, rfl, T.c_InvalidSystem, .ty "ValueError", .type "ValueError", true, rfl, xo, rfl, fun _ z => z, T.j_InvalidSystem_ValueError, nd, true, rfl, ?_⟩
          refine ifF ?_
          refine ⟨_, rfl, T.c_InvalidSystem, .ref T.c_BenchError, .ref T.c_BenchError, false, rfl, xo, rfl, fun _ z => z, T.j_InvalidSystem_BenchError, nd, ?_⟩
          refine ⟨_, rfl, T.c_InvalidSystem, .ref T.c_InvalidSystem, .ref T.c_InvalidSystem, true, rfl, xo, rfl, fun _ z => z, T.j_InvalidSystem_InvalidSystem, nd, ?_⟩
          refine ⟨rfl, false, (by rfl), ?_⟩
          refine ifF ?_
          refine ⟨_, rfl, l, [.ref p], 0, .ref p, rfl, rfl, SqL.of upd_same, rfl, ?_⟩
          exact kind_end bh da' k hl hp
        · rw [if_neg e3] at hk
          cases hk
theorem hh_l_kind {K : PySem.W.Frag} {mg : Str → Option Value} (T : Env K mg) {i n : Nat} (hi : i < n) : ∀ (e : Exc) (y : PyData) (c : Addr) (d : Option Addr) (v : V) (σ : L2.St) (H B : Hp) (D : Ends), kindD e = some y → T.L.at_ e.cls = some c → (∀ z, e.arg = some z → Da K B v z) → Same B H → XD T.L e v d H →
    (∀ u H' B', Same H H' → Same B B' → Same B' H' → Frz H B B' → Da K B' u y → D.rt u H') → σ.length = n → wAs K (.ref T.c_BestoddsError) i (fun a cls d => tRet (tCallE a cls d (spKind K T.L) (tCons (tVar i) tNil))) (fun _ _ _ _ => False) D (.ref c) d σ H := by
  intro e y c d v σ H B D hk hc da bh xd k hn
  have h : PySem.W.exmOne K (.ref c) (.ref T.c_BestoddsError) = some true := by
    have hk2 := hk
    unfold kindD at hk2
    cases ea : e.arg with
    | none =>
      rw [ea] at hk2
      dsimp only at hk2
      by_cases e1 : e.cls = "TooManyChanges"
      · rw [e1] at hc
        cases hc
        exact T.h_TooManyChanges_BestoddsError
      · rw [if_neg e1] at hk2
        cases hk2
    | some z =>
      rw [ea] at hk2
      dsimp only at hk2
      by_cases e1 : e.cls = "NoSuchState"
      · rw [e1] at hc
        cases hc
        exact T.h_NoSuchState_BestoddsError
      · rw [if_neg e1] at hk2
        by_cases e2 : e.cls = "NoSuchChoice"
        · rw [e2] at hc
          cases hc
          exact T.h_NoSuchChoice_BestoddsError
        · rw [if_neg e2] at hk2
          by_cases e3 : e.cls = "InvalidSystem"
          · rw [e3] at hc
            cases hc
            exact T.h_InvalidSystem_BestoddsError
          · rw [if_neg e3] at hk2
            cases hk2
  refine ⟨true, h, fun _ a na => ?_, fun z => nomatch z⟩
  refine ⟨.ref a, List.getElem?_set_self (by omega), fun oe hz hf => ⟨rfl, e, y, c, d, v, B, hk, hc, hz, hf, da, bh, xd, ?_⟩⟩
  exact k

theorem ok_l_done {P : Program} {w : World} {K : PySem.W.Frag} {mg : Str → Option Value} {base : Heap} (T : Env K mg) : FnOk P w K mg base CX0 7 T.a_l_done T.d_l_done ["bench", "edit"] (spO K T.L "Bench" 1 den_l_done) := by
  refine T.F_l_done.ok sc_l_done (fun vs H Q E h => len_O h) (fun cdv A outer s H vs Q E hr h => ?_)
  have G_Bench_remove_choice := ok_Bench_remove_choice (P := P) (w := w) (base := base) T
  have hr_Bench_remove_choice : Room 6 _ := hr.mono (by decide)
  have G_Bench_add_choice := ok_Bench_add_choice (P := P) (w := w) (base := base) T
  have hr_Bench_add_choice : Room 6 _ := hr.mono (by decide)
  have G_Bench_set_choice := ok_Bench_set_choice (P := P) (w := w) (base := base) T
  have hr_Bench_set_choice : Room 6 _ := hr.mono (by decide)
  have G_l_kind := ok_l_kind (P := P) (w := w) (base := base) T
  have hr_l_kind : Room 2 _ := hr.mono (by decide)
  refine ⟨_, (pss_cons (ps_asg (pv 1) (k_gTup K (by rfl) (by rfl) (pgs_cons (pg_name (i := 3) sc_l_done.nd rfl (Or.inl rfl)) (pgs_cons (pg_name (i := 4) sc_l_done.nd rfl (Or.inl rfl)) (pgs_cons (pg_name (i := 5) sc_l_done.nd rfl (Or.inl rfl)) (pgs_cons (pg_name (i := 6) sc_l_done.nd rfl (Or.inl rfl)) (pgs_cons (pg_name (i := 7) sc_l_done.nd rfl (Or.inl rfl)) pgs_nil)))))))
      (pss_one (ps_try_as (i := 2) rfl rfl sc_l_done.nd rfl rfl ⟨rfl, by decide, .inl T.g_BestoddsError⟩ takes_none5 (fun W pn xe tk _ => (pss_cons (ps_if (PT.nox (pt_cmpR op_eq (pv 3) pe_str (nomark _))) (pss_one (ps_ret (pe_meth (pv 0) T.kk_Bench.cls T.me_Bench_add_choice G_Bench_add_choice hr_Bench_add_choice T.b_Bench_add_choice .nil (passAll (takes_len (n := 8) rfl tk)) (pa_cons (pv 4) (pa_cons (pv 6) (pa_cons (pv 7) pa_nil)))))) pss_nil)
      (pss_cons (ps_if (PT.nox (pt_cmpR op_eq (pv 3) pe_str (nomark _))) (pss_one (ps_ret (pe_meth (pv 0) T.kk_Bench.cls T.me_Bench_set_choice G_Bench_set_choice hr_Bench_set_choice T.b_Bench_set_choice .nil (passAll (takes_len (n := 8) rfl tk)) (pa_cons (pv 4) (pa_cons (pv 5) (pa_cons (pv 6) (pa_cons (pv 7) pa_nil))))))) pss_nil)
      (pss_one (ps_ret (pe_meth (pv 0) T.kk_Bench.cls T.me_Bench_remove_choice G_Bench_remove_choice hr_Bench_remove_choice T.b_Bench_remove_choice .nil (passAll (takes_len (n := 8) rfl tk)) (pa_cons (pv 4) (pa_cons (pv 5) pa_nil))))))))
      (fun a oe cls d pn hz hf => pss_one (ps_ret (pe_callE hz hf G_l_kind (L2H.roomH_of hr_l_kind) (by rfl) T.g_l_kind T.F_l_kind.kp T.b_l_kind (pa_cons (pv 2) pa_nil))))))), ?_⟩
  exact run_O1 (x := "bench") (N := ["edit", "e", "way", "at", "number", "cost", "ends"]) (f := body_l_done) (fun C hob lk => (st_seq (st_asg s_var (g_tup (g_cons (g_name (by decide)) (g_cons (g_name (by decide)) (g_cons (g_name (by decide)) (g_cons (g_name (by decide)) (g_cons (g_name (by decide)) g_nil)))))))
      (st_then (by decide) (st_tryR hob (fun C1 W lk => (st_seq (st_if (s_tst (s_op o_eq s_var s_str)) (st_ret (s_methX lk T.kk_Bench (s_cons s_var (s_cons s_var (s_cons s_var s_nil))))) st_next)
      (st_seq (st_if (s_tst (s_op o_eq s_var s_str)) (st_ret (s_methX lk T.kk_Bench (s_cons s_var (s_cons s_var (s_cons s_var (s_cons s_var s_nil)))))) st_next)
      (st_ret (s_methX lk T.kk_Bench (s_cons s_var (s_cons s_var s_nil))))))) (hh_l_kind T (by decide)))))) h
theorem ok_law0 {P : Program} {w : World} {K : PySem.W.Frag} {mg : Str → Option Value} {base : Heap} (T : Env K mg) : FnOk P w K mg base CX0 10 T.a_law T.d_law ["script"] (spS K den_law) := by
  refine T.F_law.ok sc_law (fun vs H Q E h => len_S h) (fun cdv A outer s H vs Q E hr h => ?_)
  have G_l_system := ok_l_system (P := P) (w := w) (base := base) T
  have hr_l_system : Room 5 _ := hr.mono (by decide)
  have G_Bench_init := ok_Bench_init (P := P) (w := w) (base := base) T
  have hr_Bench_init : Room 5 _ := hr.mono (by decide)
  have G_l_take := ok_l_take (P := P) (w := w) (base := base) T
  have hr_l_take : Room 2 _ := hr.mono (by decide)
  have G_l_tape := ok_l_tape (P := P) (w := w) (base := base) T
  have hr_l_tape : Room 1 _ := hr.mono (by decide)
  have G_l_refused := ok_l_refused (P := P) (w := w) (base := base) T
  have hr_l_refused : Room 7 _ := hr.mono (by decide)
  have G_l_equal := ok_l_equal (P := P) (w := w) (base := base) T
  have hr_l_equal : Room 9 _ := hr.mono (by decide)
  have G_l_edit := ok_l_edit (P := P) (w := w) (base := base) T
  have hr_l_edit : Room 4 _ := hr.mono (by decide)
  have G_l_refusal := ok_l_refusal (P := P) (w := w) (base := base) T
  have hr_l_refusal : Room 4 _ := hr.mono (by decide)
  have G_Bench_undo := ok_Bench_undo (P := P) (w := w) (base := base) T
  have hr_Bench_undo : Room 2 _ := hr.mono (by decide)
  have G_l_after := ok_l_after (P := P) (w := w) (base := base) T
  have hr_l_after : Room 1 _ := hr.mono (by decide)
  have G_Bench_system := ok_Bench_system (P := P) (w := w) (base := base) T
  have hr_Bench_system : Room 1 _ := hr.mono (by decide)
  have G_Bench_changes := ok_Bench_changes (P := P) (w := w) (base := base) T
  have hr_Bench_changes : Room 1 _ := hr.mono (by decide)
  have G_Bench_undone := ok_Bench_undone (P := P) (w := w) (base := base) T
  have hr_Bench_undone : Room 1 _ := hr.mono (by decide)
  have G_Bench_redo := ok_Bench_redo (P := P) (w := w) (base := base) T
  have hr_Bench_redo : Room 2 _ := hr.mono (by decide)
  have G_l_done := ok_l_done (P := P) (w := w) (base := base) T
  have hr_l_done : Room 7 _ := hr.mono (by decide)
  have hr1_Bench_init : Room (5 + 1) _ := hr.mono (by decide)
  refine ⟨_, (pss_cons (ps_set (i := 1) sc_law.nd rfl (Or.inl rfl) (pe_lst (pa_cons (pe_call G_l_tape hr_l_tape (by rfl) T.g_l_tape T.F_l_tape.kp T.b_l_tape .nil pass0 (pa_cons (pv 0) pa_nil)) (pa_cons pe_int pa_nil))))
      (pss_cons (ps_set (i := 2) sc_law.nd rfl (Or.inl rfl) (pe_call G_l_system hr_l_system (by rfl) T.g_l_system T.F_l_system.kp T.b_l_system .nil pass0 (pa_cons (pv 1) (pa_cons pe_int pa_nil))))
      (pss_cons (ps_set (i := 3) sc_law.nd rfl (Or.inl rfl) (pe_make T.mk_Bench G_Bench_init hr1_Bench_init (by rfl) T.g_Bench T.b_Bench_init .nil passNo (pa_cons (pv 2) pa_nil)))
      (pss_cons (ps_set (i := 4) sc_law.nd rfl (Or.inl rfl) (pe_lst pa_nil))
      (pss_cons (ps_set (i := 5) sc_law.nd rfl (Or.inl rfl) (pe_lst pa_nil))
      (pss_cons (ps_for PassesOwn.never rfl (pi_range1 (by rfl) T.z_range (pa_cons (pe_op op_add pe_int (pe_call G_l_take hr_l_take (by rfl) T.g_l_take T.F_l_take.kp T.b_l_take .nil pass0 (pa_cons (pv 1) (pa_cons pe_int pa_nil)))) pa_nil)) (pg_name (i := 6) sc_law.nd rfl (Or.inl rfl)) (pss_cons (ps_set (i := 8) sc_law.nd rfl (Or.inl rfl) (pe_call G_l_take hr_l_take (by rfl) T.g_l_take T.F_l_take.kp T.b_l_take .nil pass0 (pa_cons (pv 1) (pa_cons pe_int pa_nil))))
      (pss_cons (ps_if (pt_cmpR op_eq (pv 8) pe_int (nomark _)) (pss_cons (ps_if (pt_not (pt_val (pe_call G_l_equal hr_l_equal (by rfl) T.g_l_equal T.F_l_equal.kp T.b_l_equal .nil pass0 (pa_cons (pe_meth0 (pv 3) T.kk_Bench.cls T.me_Bench_undo G_Bench_undo hr_Bench_undo T.b_Bench_undo .nil pass0) (pa_cons (pe_cmpR op_gt (pe_callB (k_len K) (by rfl) T.z_len (by decide +kernel) (pa_cons (pv 4) pa_nil)) pe_int (nomark _)) pa_nil))))) (pss_one (ps_ret pe_bl)) pss_nil)
      (pss_one (ps_if (pt_cmpR op_gt (pe_callB (k_len K) (by rfl) T.z_len (by decide +kernel) (pa_cons (pv 4) pa_nil)) pe_int (nomark _)) (pss_cons (ps_expr (pe_bm PySem.F.plainAttrs_list PySem.F.slot_list_append PySem.F.type_list_append mt_append (pv 5) (pa_cons (pv 2) pa_nil)))
      (pss_one (ps_set (i := 2) sc_law.nd rfl (Or.inl rfl) (pe_bm0 PySem.F.plainAttrs_list PySem.F.slot_list_pop PySem.F.type_list_pop mt_pop (pv 4))))) pss_nil))) (pss_one (ps_if (pt_cmpR op_eq (pv 8) pe_int (nomark _)) (pss_cons (ps_if (pt_not (pt_val (pe_call G_l_equal hr_l_equal (by rfl) T.g_l_equal T.F_l_equal.kp T.b_l_equal .nil pass0 (pa_cons (pe_meth0 (pv 3) T.kk_Bench.cls T.me_Bench_redo G_Bench_redo hr_Bench_redo T.b_Bench_redo .nil pass0) (pa_cons (pe_cmpR op_gt (pe_callB (k_len K) (by rfl) T.z_len (by decide +kernel) (pa_cons (pv 5) pa_nil)) pe_int (nomark _)) pa_nil))))) (pss_one (ps_ret pe_bl)) pss_nil)
      (pss_one (ps_if (pt_cmpR op_gt (pe_callB (k_len K) (by rfl) T.z_len (by decide +kernel) (pa_cons (pv 5) pa_nil)) pe_int (nomark _)) (pss_cons (ps_expr (pe_bm PySem.F.plainAttrs_list PySem.F.slot_list_append PySem.F.type_list_append mt_append (pv 4) (pa_cons (pv 2) pa_nil)))
      (pss_one (ps_set (i := 2) sc_law.nd rfl (Or.inl rfl) (pe_bm0 PySem.F.plainAttrs_list PySem.F.slot_list_pop PySem.F.type_list_pop mt_pop (pv 5))))) pss_nil))) (pss_cons (ps_set (i := 9) sc_law.nd rfl (Or.inl rfl) (pe_call G_l_edit hr_l_edit (by rfl) T.g_l_edit T.F_l_edit.kp T.b_l_edit .nil pass0 (pa_cons (pv 1) (pa_cons (pv 2) pa_nil))))
      (pss_cons (ps_set (i := 10) sc_law.nd rfl (Or.inl rfl) (pe_call G_l_refusal hr_l_refusal (by rfl) T.g_l_refusal T.F_l_refusal.kp T.b_l_refusal .nil pass0 (pa_cons (pv 2) (pa_cons (pv 9) pa_nil))))
      (pss_cons (ps_if (pt_not (pt_val (pe_call G_l_equal hr_l_equal (by rfl) T.g_l_equal T.F_l_equal.kp T.b_l_equal .nil pass0 (pa_cons (pe_call G_l_done hr_l_done (by rfl) T.g_l_done T.F_l_done.kp T.b_l_done .nil pass0 (pa_cons (pv 3) (pa_cons (pv 9) pa_nil))) (pa_cons (pv 10) pa_nil))))) (pss_one (ps_ret pe_bl)) pss_nil)
      (pss_one (ps_if (pt_cmpR op_isN (pv 10) pe_non (nomark _)) (pss_cons (ps_expr (pe_bm PySem.F.plainAttrs_list PySem.F.slot_list_append PySem.F.type_list_append mt_append (pv 4) (pa_cons (pv 2) pa_nil)))
      (pss_cons (ps_set (i := 5) sc_law.nd rfl (Or.inl rfl) (pe_lst pa_nil))
      (pss_one (ps_set (i := 2) sc_law.nd rfl (Or.inl rfl) (pe_call G_l_after hr_l_after (by rfl) T.g_l_after T.F_l_after.kp T.b_l_after .nil pass0 (pa_cons (pv 2) (pa_cons (pv 9) pa_nil))))))) pss_nil))))))))
      (pss_one (ps_if (pt_not (pt_val (pe_call G_l_equal hr_l_equal (by rfl) T.g_l_equal T.F_l_equal.kp T.b_l_equal .nil pass0 (pa_cons (pe_lst (pa_cons (pe_meth0 (pv 3) T.kk_Bench.cls T.me_Bench_system G_Bench_system hr_Bench_system T.b_Bench_system .nil pass0) (pa_cons (pe_meth0 (pv 3) T.kk_Bench.cls T.me_Bench_changes G_Bench_changes hr_Bench_changes T.b_Bench_changes .nil pass0) (pa_cons (pe_meth0 (pv 3) T.kk_Bench.cls T.me_Bench_undone G_Bench_undone hr_Bench_undone T.b_Bench_undone .nil pass0) pa_nil)))) (pa_cons (pe_lst (pa_cons (pv 2) (pa_cons (pe_callB (k_len K) (by rfl) T.z_len (by decide +kernel) (pa_cons (pv 4) pa_nil)) (pa_cons (pe_callB (k_len K) (by rfl) T.z_len (by decide +kernel) (pa_cons (pv 5) pa_nil)) pa_nil)))) pa_nil))))) (pss_one (ps_ret pe_bl)) pss_nil)))))
      (pss_cons (ps_set (i := 7) sc_law.nd rfl (Or.inl rfl) (pe_call G_l_take hr_l_take (by rfl) T.g_l_take T.F_l_take.kp T.b_l_take .nil pass0 (pa_cons (pv 1) (pa_cons (pe_callB (k_len K) (by rfl) T.z_len (by decide +kernel) (pa_cons (pv 2) pa_nil)) pa_nil))))
      (pss_one (ps_ret (pe_and (pe_call G_l_refused hr_l_refused (by rfl) T.g_l_refused T.F_l_refused.kp T.b_l_refused .nil pass0 (pa_cons (pe_op (k_catA K) (pe_op (k_catA K) (pe_slice (k_slT K) (pv 2) po_none (po_some (pv 7))) (pe_tup (pa_cons (pe_tup pa_nil) pa_nil))) (pe_slice (k_slT K) (pv 2) (po_some (pe_op op_add (pv 7) pe_int)) po_none)) pa_nil)) (pe_one (pe_call G_l_refused hr_l_refused (by rfl) T.g_l_refused T.F_l_refused.kp T.b_l_refused .nil pass0 (pa_cons (pe_tup pa_nil) pa_nil))))))))))))), ?_⟩
  exact run_S1 (N := ["state", "system", "bench", "before", "behind", "turn", "at", "way", "edit", "due"]) (f := body_law) (fun _ nob => (st_seq (st_own (by decide) (f_lst (s_cons s_callS (s_cons s_int s_nil))))
      (st_seq (st_asg (s_callB (s_cons s_int s_nil)) (g_name (by decide)))
      (st_seq (st_make nob (by decide) T.kk_Bench (s_cons s_var s_nil))
      (st_seq (st_own (by decide) (f_lst s_nil))
      (st_seq (st_own (by decide) (f_lst s_nil))
      (st_seq (st_then (by decide) (st_for (i_range1 (s_cons (s_op o_i0 s_int (s_callB (s_cons s_int s_nil))) s_nil)) (g_name (by decide)) (st_then (by decide) (st_seq (st_asg (s_callB (s_cons s_int s_nil)) (g_name (by decide)))
      (st_seq (st_then (by decide) (st_if (s_tst (s_op o_eq s_var s_int)) (st_seq (st_if (s_not (s_tB (s_callP (s_cons (s_meth T.kk_Bench s_nil) (s_cons (s_op o_ib s_lenO s_int) s_nil))))) (st_ret s_bl) st_next)
      (st_if (s_tst (s_op o_ib s_lenO s_int)) (st_seq (st_drop (s_app s_var))
      (st_asg s_pop (g_name (by decide)))) st_next)) (st_then (by decide) (st_if (s_tst (s_op o_eq s_var s_int)) (st_seq (st_if (s_not (s_tB (s_callP (s_cons (s_meth T.kk_Bench s_nil) (s_cons (s_op o_ib s_lenO s_int) s_nil))))) (st_ret s_bl) st_next)
      (st_if (s_tst (s_op o_ib s_lenO s_int)) (st_seq (st_drop (s_app s_var))
      (st_asg s_pop (g_name (by decide)))) st_next)) (st_seq (st_asg (s_callB (s_cons s_var s_nil)) (g_name (by decide)))
      (st_seq (st_asg (s_callP (s_cons s_var (s_cons s_var s_nil))) (g_name (by decide)))
      (st_seq (st_if (s_not (s_tB (s_callP (s_cons (s_callO (s_cons s_var s_nil)) (s_cons s_var s_nil))))) (st_ret s_bl) st_next)
      (st_if (s_tst (s_op o_isN s_var s_non)) (st_seq (st_drop (s_app s_var))
      (st_seq (st_own (by decide) (f_lst s_nil))
      (st_asg (s_callP (s_cons s_var (s_cons s_var s_nil))) (g_name (by decide))))) st_next))))))))
      (st_if (s_not (s_tB (s_callP (s_cons (s_lst (s_cons (s_meth T.kk_Bench s_nil) (s_cons (s_meth T.kk_Bench s_nil) (s_cons (s_meth T.kk_Bench s_nil) s_nil)))) (s_cons (s_lst (s_cons s_var (s_cons s_lenO (s_cons s_lenO s_nil)))) s_nil))))) (st_ret s_bl) st_next))))))
      (st_seq (st_asg (s_callB (s_cons (s_cb c_len (s_cons s_var s_nil)) s_nil)) (g_name (by decide)))
      (st_ret (s_andV (s_callP (s_cons (s_op o_catT (s_op o_catT (s_sl l_slT s_var s_noPart (s_part s_var)) (s_tup (s_cons (s_tup s_nil) s_nil))) (s_sl l_slT s_var (s_part (s_op o_i0 s_var s_int)) s_noPart)) s_nil)) (s_callP (s_cons (s_tup s_nil) s_nil)))))))))))) h
def sp_law (K : PySem.W.Frag) : Sp := fun vs H Q _ => ∃ (a : Addr) (ns : List Int), vs = [.ref a] ∧ SqL K H a (ns.map V.int) ∧ ns.length ≤ 63 ∧ ∀ H', Q (.bl true) H'
theorem ok_law {P : Program} {w : World} {K : PySem.W.Frag} {mg : Str → Option Value} {base : Heap} (T : Env K mg) : FnOk P w K mg base CX0 10 T.a_law T.d_law ["script"] (sp_law K) :=
  (ok_law0 T).imp fun vs H Q E ⟨a, ns, e, s, hl, q⟩ => ⟨a, ns, H, e, s, Same.refl _, (law_worth hl).mono fun z hz v H' B' _ _ _ _ dv => by
    subst hz
    cases dv
    exact q H'⟩
theorem all_mk {l : PySem.W.OpenLaw} {w : World} {K : PySem.W.Frag} {h : Heap} {mg : Str → Option Value} {fa f0 f1 f2 f3 f4 f5 f6 f7 f8 f9 f10 f11 f12 f13 f14 f15 f16 f17 f18 f19 f20 f21 f22 f23 f24 f25 f26 f27 f28 f29 f30 : Addr} (X : K.In h) (G : h.Ns mainGlobals mg) (hfa : mg "law" = some (.ref fa))
    {c_Bench : Addr} (ac_Bench : PySem.W.nsIn K mainGlobals "Bench" = some (some (.ref c_Bench)))
    {od0 an0 : Option Addr} {sl0 : Array (Option Value)} {oc0 kV0 dc0 pm0 cd0 ct0 : Value}
    {od1 an1 : Option Addr} {sl1 : Array (Option Value)} {oc1 kV1 dc1 pm1 cd1 ct1 : Value}
    {od2 an2 : Option Addr} {sl2 : Array (Option Value)} {oc2 kV2 dc2 pm2 cd2 ct2 : Value}
    {od3 an3 : Option Addr} {sl3 : Array (Option Value)} {oc3 kV3 dc3 pm3 cd3 ct3 : Value}
    {od4 an4 : Option Addr} {sl4 : Array (Option Value)} {oc4 kV4 dc4 pm4 cd4 ct4 : Value}
    {od5 an5 : Option Addr} {sl5 : Array (Option Value)} {oc5 kV5 dc5 pm5 cd5 ct5 : Value}
    {od6 an6 : Option Addr} {sl6 : Array (Option Value)} {oc6 kV6 dc6 pm6 cd6 ct6 : Value}
    {od7 an7 : Option Addr} {sl7 : Array (Option Value)} {oc7 kV7 dc7 pm7 cd7 ct7 : Value}
    {od8 an8 : Option Addr} {sl8 : Array (Option Value)} {oc8 kV8 dc8 pm8 cd8 ct8 : Value}
    {od9 an9 : Option Addr} {sl9 : Array (Option Value)} {oc9 kV9 dc9 pm9 cd9 ct9 : Value}
    {od10 an10 : Option Addr} {sl10 : Array (Option Value)} {oc10 kV10 dc10 pm10 cd10 ct10 : Value}
    {od11 an11 : Option Addr} {sl11 : Array (Option Value)} {oc11 kV11 dc11 pm11 cd11 ct11 : Value}
    {od12 an12 : Option Addr} {sl12 : Array (Option Value)} {oc12 kV12 dc12 pm12 cd12 ct12 : Value}
    {od13 an13 : Option Addr} {sl13 : Array (Option Value)} {oc13 kV13 dc13 pm13 cd13 ct13 : Value}
    {od14 an14 : Option Addr} {sl14 : Array (Option Value)} {oc14 kV14 dc14 pm14 cd14 ct14 : Value}
    {od15 an15 : Option Addr} {sl15 : Array (Option Value)} {oc15 kV15 dc15 pm15 cd15 ct15 : Value}
    {od16 an16 : Option Addr} {sl16 : Array (Option Value)} {oc16 kV16 dc16 pm16 cd16 ct16 : Value}
    {od17 an17 : Option Addr} {sl17 : Array (Option Value)} {oc17 kV17 dc17 pm17 cd17 ct17 : Value}
    {od18 an18 : Option Addr} {sl18 : Array (Option Value)} {oc18 kV18 dc18 pm18 cd18 ct18 : Value}
    {od19 an19 : Option Addr} {sl19 : Array (Option Value)} {oc19 kV19 dc19 pm19 cd19 ct19 : Value}
    {od20 an20 : Option Addr} {sl20 : Array (Option Value)} {oc20 kV20 dc20 pm20 cd20 ct20 : Value}
    {od21 an21 : Option Addr} {sl21 : Array (Option Value)} {oc21 kV21 dc21 pm21 cd21 ct21 : Value}
    {od22 an22 : Option Addr} {sl22 : Array (Option Value)} {oc22 kV22 dc22 pm22 cd22 ct22 : Value}
    {od23 an23 : Option Addr} {sl23 : Array (Option Value)} {oc23 kV23 dc23 pm23 cd23 ct23 : Value}
    {od24 an24 : Option Addr} {sl24 : Array (Option Value)} {oc24 kV24 dc24 pm24 cd24 ct24 : Value}
    {od25 an25 : Option Addr} {sl25 : Array (Option Value)} {oc25 kV25 dc25 pm25 cd25 ct25 : Value}
    {od26 an26 : Option Addr} {sl26 : Array (Option Value)} {oc26 kV26 dc26 pm26 cd26 ct26 : Value}
    {od27 an27 : Option Addr} {sl27 : Array (Option Value)} {oc27 kV27 dc27 pm27 cd27 ct27 : Value}
    {od28 an28 : Option Addr} {sl28 : Array (Option Value)} {oc28 kV28 dc28 pm28 cd28 ct28 : Value}
    {od29 an29 : Option Addr} {sl29 : Array (Option Value)} {oc29 kV29 dc29 pm29 cd29 ct29 : Value}
    {od30 an30 : Option Addr} {sl30 : Array (Option Value)} {oc30 kV30 dc30 pm30 cd30 ct30 : Value}
    {c_BestoddsError : Addr} (ac_BestoddsError : PySem.W.nsIn K mainGlobals "BestoddsError" = some (some (.ref c_BestoddsError)))
    {c_InvalidSystem : Addr} (ac_InvalidSystem : PySem.W.nsIn K mainGlobals "InvalidSystem" = some (some (.ref c_InvalidSystem)))
    {c_BenchError : Addr} (ac_BenchError : PySem.W.nsIn K mainGlobals "BenchError" = some (some (.ref c_BenchError)))
    {c_NoSuchState : Addr} (ac_NoSuchState : PySem.W.nsIn K mainGlobals "NoSuchState" = some (some (.ref c_NoSuchState)))
    {c_NoSuchChoice : Addr} (ac_NoSuchChoice : PySem.W.nsIn K mainGlobals "NoSuchChoice" = some (some (.ref c_NoSuchChoice)))
    {c_TooManyChanges : Addr} (ac_TooManyChanges : PySem.W.nsIn K mainGlobals "TooManyChanges" = some (some (.ref c_TooManyChanges)))
    (e_BestoddsError : PySem.W.excIn K c_BestoddsError [.type "ValueError", .type "Exception", .type "BaseException", .type "object"] "ValueError.__new__" = true) (k_BestoddsError : PySem.W.keepIn K (.ref c_BestoddsError) = true)
    {nmInvalidSystem qInvalidSystem : Str} {NInvalidSystem : Addr} {bsInvalidSystem : List Value} {snInvalidSystem : List Str} {subInvalidSystem : List Value} {abInvalidSystem : Bool} {colInvalidSystem : Option Bool} {ddInvalidSystem : Option Addr} {u0InvalidSystem u1InvalidSystem u2InvalidSystem u3InvalidSystem u5InvalidSystem : Option Value} {f_InvalidSystem : Addr} {odInvalidSystem anInvalidSystem : Option Addr} {slInvalidSystem : Array (Option Value)} {ocInvalidSystem kVInvalidSystem dcInvalidSystem pmInvalidSystem cdInvalidSystem ctInvalidSystem : Value}
    (xl_InvalidSystem : K.lookup c_InvalidSystem = some (excClassObj nmInvalidSystem qInvalidSystem c_InvalidSystem NInvalidSystem bsInvalidSystem [.ref c_BestoddsError, .type "ValueError", .type "Exception", .type "BaseException", .type "object"] true snInvalidSystem subInvalidSystem abInvalidSystem colInvalidSystem ddInvalidSystem u0InvalidSystem u1InvalidSystem u2InvalidSystem u3InvalidSystem u5InvalidSystem "ValueError.__new__"))
    (sa_InvalidSystem : PySem.W.findIn K (.ref c_InvalidSystem) "__setattr__" = some (some (.builtin "object.__setattr__"))) (ex_InvalidSystem : PySem.W.subIn K (.ref c_InvalidSystem) (.type "BaseException") = some true) (ty_InvalidSystem : PySem.W.typeIn K (.ref c_InvalidSystem) = some (.type "type")) (kc_InvalidSystem : PySem.W.keepIn K (.ref c_InvalidSystem) = true)
    (ai_InvalidSystem : PySem.W.findIn K (.ref c_InvalidSystem) "__init__" = some (some (.ref f_InvalidSystem))) (ti_InvalidSystem : PySem.W.typeIn K (.ref f_InvalidSystem) = some (.type "function"))
    (li_InvalidSystem : K.lookup f_InvalidSystem = some ⟨ocInvalidSystem, odInvalidSystem, .func (PySem.W.fnOf "__init__" "InvalidSystem.__init__" (defArgs s_InvalidSystem) (defBody s_InvalidSystem) (defScope s_InvalidSystem) .none kVInvalidSystem dcInvalidSystem pmInvalidSystem anInvalidSystem cdInvalidSystem ctInvalidSystem), slInvalidSystem⟩) (ci_InvalidSystem : PySem.W.codeIn K cdInvalidSystem "InvalidSystem.__init__" = true) (ki_InvalidSystem : PySem.W.keepIn K (.ref f_InvalidSystem) = true) (fr_InvalidSystem : PySem.W.findIn K (.ref c_InvalidSystem) "fault" = some none)
    (e_BenchError : PySem.W.excIn K c_BenchError [.type "ValueError", .type "Exception", .type "BaseException", .type "object"] "ValueError.__new__" = true) (k_BenchError : PySem.W.keepIn K (.ref c_BenchError) = true)
    {nmNoSuchState qNoSuchState : Str} {NNoSuchState : Addr} {bsNoSuchState : List Value} {snNoSuchState : List Str} {subNoSuchState : List Value} {abNoSuchState : Bool} {colNoSuchState : Option Bool} {ddNoSuchState : Option Addr} {u0NoSuchState u1NoSuchState u2NoSuchState u3NoSuchState u5NoSuchState : Option Value} {f_NoSuchState : Addr} {odNoSuchState anNoSuchState : Option Addr} {slNoSuchState : Array (Option Value)} {ocNoSuchState kVNoSuchState dcNoSuchState pmNoSuchState cdNoSuchState ctNoSuchState : Value}
    (xl_NoSuchState : K.lookup c_NoSuchState = some (excClassObj nmNoSuchState qNoSuchState c_NoSuchState NNoSuchState bsNoSuchState [.ref c_BenchError, .ref c_BestoddsError, .type "ValueError", .type "Exception", .type "BaseException", .type "object"] true snNoSuchState subNoSuchState abNoSuchState colNoSuchState ddNoSuchState u0NoSuchState u1NoSuchState u2NoSuchState u3NoSuchState u5NoSuchState "ValueError.__new__"))
    (sa_NoSuchState : PySem.W.findIn K (.ref c_NoSuchState) "__setattr__" = some (some (.builtin "object.__setattr__"))) (ex_NoSuchState : PySem.W.subIn K (.ref c_NoSuchState) (.type "BaseException") = some true) (ty_NoSuchState : PySem.W.typeIn K (.ref c_NoSuchState) = some (.type "type")) (kc_NoSuchState : PySem.W.keepIn K (.ref c_NoSuchState) = true)
    (ai_NoSuchState : PySem.W.findIn K (.ref c_NoSuchState) "__init__" = some (some (.ref f_NoSuchState))) (ti_NoSuchState : PySem.W.typeIn K (.ref f_NoSuchState) = some (.type "function"))
    (li_NoSuchState : K.lookup f_NoSuchState = some ⟨ocNoSuchState, odNoSuchState, .func (PySem.W.fnOf "__init__" "NoSuchState.__init__" (defArgs s_NoSuchState) (defBody s_NoSuchState) (defScope s_NoSuchState) .none kVNoSuchState dcNoSuchState pmNoSuchState anNoSuchState cdNoSuchState ctNoSuchState), slNoSuchState⟩) (ci_NoSuchState : PySem.W.codeIn K cdNoSuchState "NoSuchState.__init__" = true) (ki_NoSuchState : PySem.W.keepIn K (.ref f_NoSuchState) = true) (fr_NoSuchState : PySem.W.findIn K (.ref c_NoSuchState) "state" = some none)
    {nmNoSuchChoice qNoSuchChoice : Str} {NNoSuchChoice : Addr} {bsNoSuchChoice : List Value} {snNoSuchChoice : List Str} {subNoSuchChoice : List Value} {abNoSuchChoice : Bool} {colNoSuchChoice : Option Bool} {ddNoSuchChoice : Option Addr} {u0NoSuchChoice u1NoSuchChoice u2NoSuchChoice u3NoSuchChoice u5NoSuchChoice : Option Value} {f_NoSuchChoice : Addr} {odNoSuchChoice anNoSuchChoice : Option Addr} {slNoSuchChoice : Array (Option Value)} {ocNoSuchChoice kVNoSuchChoice dcNoSuchChoice pmNoSuchChoice cdNoSuchChoice ctNoSuchChoice : Value}
    (xl_NoSuchChoice : K.lookup c_NoSuchChoice = some (excClassObj nmNoSuchChoice qNoSuchChoice c_NoSuchChoice NNoSuchChoice bsNoSuchChoice [.ref c_BenchError, .ref c_BestoddsError, .type "ValueError", .type "Exception", .type "BaseException", .type "object"] true snNoSuchChoice subNoSuchChoice abNoSuchChoice colNoSuchChoice ddNoSuchChoice u0NoSuchChoice u1NoSuchChoice u2NoSuchChoice u3NoSuchChoice u5NoSuchChoice "ValueError.__new__"))
    (sa_NoSuchChoice : PySem.W.findIn K (.ref c_NoSuchChoice) "__setattr__" = some (some (.builtin "object.__setattr__"))) (ex_NoSuchChoice : PySem.W.subIn K (.ref c_NoSuchChoice) (.type "BaseException") = some true) (ty_NoSuchChoice : PySem.W.typeIn K (.ref c_NoSuchChoice) = some (.type "type")) (kc_NoSuchChoice : PySem.W.keepIn K (.ref c_NoSuchChoice) = true)
    (ai_NoSuchChoice : PySem.W.findIn K (.ref c_NoSuchChoice) "__init__" = some (some (.ref f_NoSuchChoice))) (ti_NoSuchChoice : PySem.W.typeIn K (.ref f_NoSuchChoice) = some (.type "function"))
    (li_NoSuchChoice : K.lookup f_NoSuchChoice = some ⟨ocNoSuchChoice, odNoSuchChoice, .func (PySem.W.fnOf "__init__" "NoSuchChoice.__init__" (defArgs s_NoSuchChoice) (defBody s_NoSuchChoice) (defScope s_NoSuchChoice) .none kVNoSuchChoice dcNoSuchChoice pmNoSuchChoice anNoSuchChoice cdNoSuchChoice ctNoSuchChoice), slNoSuchChoice⟩) (ci_NoSuchChoice : PySem.W.codeIn K cdNoSuchChoice "NoSuchChoice.__init__" = true) (ki_NoSuchChoice : PySem.W.keepIn K (.ref f_NoSuchChoice) = true) (fr_NoSuchChoice : PySem.W.findIn K (.ref c_NoSuchChoice) "number" = some none)
    (e_TooManyChanges : PySem.W.excIn K c_TooManyChanges [.type "ValueError", .type "Exception", .type "BaseException", .type "object"] "ValueError.__new__" = true) (k_TooManyChanges : PySem.W.keepIn K (.ref c_TooManyChanges) = true)
    (a0 : PySem.W.nsIn K mainGlobals "_law_draw" = some (some (.ref f0))) (l0 : K.lookup f0 = some ⟨oc0, od0, .func (PySem.W.fnOf "_law_draw" "_law_draw" (defArgs s_l_draw) (defBody s_l_draw) (defScope s_l_draw) .none kV0 dc0 pm0 an0 cd0 ct0), sl0⟩) (c0 : PySem.W.codeIn K cd0 "_law_draw" = true) (k0 : PySem.W.keepIn K (.ref f0) = true)
    (a1 : PySem.W.nsIn K mainGlobals "_law_take" = some (some (.ref f1))) (l1 : K.lookup f1 = some ⟨oc1, od1, .func (PySem.W.fnOf "_law_take" "_law_take" (defArgs s_l_take) (defBody s_l_take) (defScope s_l_take) .none kV1 dc1 pm1 an1 cd1 ct1), sl1⟩) (c1 : PySem.W.codeIn K cd1 "_law_take" = true) (k1 : PySem.W.keepIn K (.ref f1) = true)
    (a2 : PySem.W.nsIn K mainGlobals "_law_ends" = some (some (.ref f2))) (l2 : K.lookup f2 = some ⟨oc2, od2, .func (PySem.W.fnOf "_law_ends" "_law_ends" (defArgs s_l_ends) (defBody s_l_ends) (defScope s_l_ends) .none kV2 dc2 pm2 an2 cd2 ct2), sl2⟩) (c2 : PySem.W.codeIn K cd2 "_law_ends" = true) (k2 : PySem.W.keepIn K (.ref f2) = true)
    (a3 : PySem.W.nsIn K mainGlobals "_law_choices" = some (some (.ref f3))) (l3 : K.lookup f3 = some ⟨oc3, od3, .func (PySem.W.fnOf "_law_choices" "_law_choices" (defArgs s_l_choices) (defBody s_l_choices) (defScope s_l_choices) .none kV3 dc3 pm3 an3 cd3 ct3), sl3⟩) (c3 : PySem.W.codeIn K cd3 "_law_choices" = true) (k3 : PySem.W.keepIn K (.ref f3) = true)
    (a4 : PySem.W.nsIn K mainGlobals "_law_system" = some (some (.ref f4))) (l4 : K.lookup f4 = some ⟨oc4, od4, .func (PySem.W.fnOf "_law_system" "_law_system" (defArgs s_l_system) (defBody s_l_system) (defScope s_l_system) .none kV4 dc4 pm4 an4 cd4 ct4), sl4⟩) (c4 : PySem.W.codeIn K cd4 "_law_system" = true) (k4 : PySem.W.keepIn K (.ref f4) = true)
    (a5 : PySem.W.nsIn K mainGlobals "are_ends" = some (some (.ref f5))) (l5 : K.lookup f5 = some ⟨oc5, od5, .func (PySem.W.fnOf "are_ends" "are_ends" (defArgs s_are_ends) (defBody s_are_ends) (defScope s_are_ends) .none kV5 dc5 pm5 an5 cd5 ct5), sl5⟩) (c5 : PySem.W.codeIn K cd5 "are_ends" = true) (k5 : PySem.W.keepIn K (.ref f5) = true)
    (a6 : PySem.W.nsIn K mainGlobals "fault_in_state" = some (some (.ref f6))) (l6 : K.lookup f6 = some ⟨oc6, od6, .func (PySem.W.fnOf "fault_in_state" "fault_in_state" (defArgs s_fault_in_state) (defBody s_fault_in_state) (defScope s_fault_in_state) .none kV6 dc6 pm6 an6 cd6 ct6), sl6⟩) (c6 : PySem.W.codeIn K cd6 "fault_in_state" = true) (k6 : PySem.W.keepIn K (.ref f6) = true)
    (a7 : PySem.W.nsIn K mainGlobals "fault" = some (some (.ref f7))) (l7 : K.lookup f7 = some ⟨oc7, od7, .func (PySem.W.fnOf "fault" "fault" (defArgs s_fault) (defBody s_fault) (defScope s_fault) .none kV7 dc7 pm7 an7 cd7 ct7), sl7⟩) (c7 : PySem.W.codeIn K cd7 "fault" = true) (k7 : PySem.W.keepIn K (.ref f7) = true)
    (a8 : PySem.W.nsIn K mainGlobals "check" = some (some (.ref f8))) (l8 : K.lookup f8 = some ⟨oc8, od8, .func (PySem.W.fnOf "check" "check" (defArgs s_check) (defBody s_check) (defScope s_check) .none kV8 dc8 pm8 an8 cd8 ct8), sl8⟩) (c8 : PySem.W.codeIn K cd8 "check" = true) (k8 : PySem.W.keepIn K (.ref f8) = true)
    (a9 : PySem.W.findIn K (.ref c_Bench) "__init__" = some (some (.ref f9))) (fn9 : PySem.W.isFn K (.ref f9) = true) (l9 : K.lookup f9 = some ⟨oc9, od9, .func (PySem.W.fnOf "__init__" "Bench.__init__" (defArgs s_Bench_init) (defBody s_Bench_init) (defScope s_Bench_init) .none kV9 dc9 pm9 an9 cd9 ct9), sl9⟩) (c9 : PySem.W.codeIn K cd9 "Bench.__init__" = true) (k9 : PySem.W.keepIn K (.ref f9) = true)
    (a10 : PySem.W.nsIn K mainGlobals "_law_tape" = some (some (.ref f10))) (l10 : K.lookup f10 = some ⟨oc10, od10, .func (PySem.W.fnOf "_law_tape" "_law_tape" (defArgs s_l_tape) (defBody s_l_tape) (defScope s_l_tape) .none kV10 dc10 pm10 an10 cd10 ct10), sl10⟩) (c10 : PySem.W.codeIn K cd10 "_law_tape" = true) (k10 : PySem.W.keepIn K (.ref f10) = true)
    (a11 : PySem.W.nsIn K mainGlobals "_law_refused" = some (some (.ref f11))) (l11 : K.lookup f11 = some ⟨oc11, od11, .func (PySem.W.fnOf "_law_refused" "_law_refused" (defArgs s_l_refused) (defBody s_l_refused) (defScope s_l_refused) .none kV11 dc11 pm11 an11 cd11 ct11), sl11⟩) (c11 : PySem.W.codeIn K cd11 "_law_refused" = true) (k11 : PySem.W.keepIn K (.ref f11) = true)
    (a12 : PySem.W.nsIn K mainGlobals "_law_equal" = some (some (.ref f12))) (l12 : K.lookup f12 = some ⟨oc12, od12, .func (PySem.W.fnOf "_law_equal" "_law_equal" (defArgs s_l_equal) (defBody s_l_equal) (defScope s_l_equal) .none kV12 dc12 pm12 an12 cd12 ct12), sl12⟩) (c12 : PySem.W.codeIn K cd12 "_law_equal" = true) (k12 : PySem.W.keepIn K (.ref f12) = true)
    (a13 : PySem.W.nsIn K mainGlobals "_law_edit" = some (some (.ref f13))) (l13 : K.lookup f13 = some ⟨oc13, od13, .func (PySem.W.fnOf "_law_edit" "_law_edit" (defArgs s_l_edit) (defBody s_l_edit) (defScope s_l_edit) .none kV13 dc13 pm13 an13 cd13 ct13), sl13⟩) (c13 : PySem.W.codeIn K cd13 "_law_edit" = true) (k13 : PySem.W.keepIn K (.ref f13) = true)
    (a14 : PySem.W.nsIn K mainGlobals "_law_after" = some (some (.ref f14))) (l14 : K.lookup f14 = some ⟨oc14, od14, .func (PySem.W.fnOf "_law_after" "_law_after" (defArgs s_l_after) (defBody s_l_after) (defScope s_l_after) .none kV14 dc14 pm14 an14 cd14 ct14), sl14⟩) (c14 : PySem.W.codeIn K cd14 "_law_after" = true) (k14 : PySem.W.keepIn K (.ref f14) = true)
    (a15 : PySem.W.nsIn K mainGlobals "_law_refusal" = some (some (.ref f15))) (l15 : K.lookup f15 = some ⟨oc15, od15, .func (PySem.W.fnOf "_law_refusal" "_law_refusal" (defArgs s_l_refusal) (defBody s_l_refusal) (defScope s_l_refusal) .none kV15 dc15 pm15 an15 cd15 ct15), sl15⟩) (c15 : PySem.W.codeIn K cd15 "_law_refusal" = true) (k15 : PySem.W.keepIn K (.ref f15) = true)
    (a16 : PySem.W.findIn K (.ref c_Bench) "_turn_to" = some (some (.ref f16))) (fn16 : PySem.W.isFn K (.ref f16) = true) (l16 : K.lookup f16 = some ⟨oc16, od16, .func (PySem.W.fnOf "_turn_to" "Bench._turn_to" (defArgs s_Bench__turn_to) (defBody s_Bench__turn_to) (defScope s_Bench__turn_to) .none kV16 dc16 pm16 an16 cd16 ct16), sl16⟩) (c16 : PySem.W.codeIn K cd16 "Bench._turn_to" = true) (k16 : PySem.W.keepIn K (.ref f16) = true)
    (a17 : PySem.W.findIn K (.ref c_Bench) "undo" = some (some (.ref f17))) (fn17 : PySem.W.isFn K (.ref f17) = true) (l17 : K.lookup f17 = some ⟨oc17, od17, .func (PySem.W.fnOf "undo" "Bench.undo" (defArgs s_Bench_undo) (defBody s_Bench_undo) (defScope s_Bench_undo) .none kV17 dc17 pm17 an17 cd17 ct17), sl17⟩) (c17 : PySem.W.codeIn K cd17 "Bench.undo" = true) (k17 : PySem.W.keepIn K (.ref f17) = true)
    (a18 : PySem.W.findIn K (.ref c_Bench) "system" = some (some (.ref f18))) (fn18 : PySem.W.isFn K (.ref f18) = true) (l18 : K.lookup f18 = some ⟨oc18, od18, .func (PySem.W.fnOf "system" "Bench.system" (defArgs s_Bench_system) (defBody s_Bench_system) (defScope s_Bench_system) .none kV18 dc18 pm18 an18 cd18 ct18), sl18⟩) (c18 : PySem.W.codeIn K cd18 "Bench.system" = true) (k18 : PySem.W.keepIn K (.ref f18) = true)
    (a19 : PySem.W.findIn K (.ref c_Bench) "changes" = some (some (.ref f19))) (fn19 : PySem.W.isFn K (.ref f19) = true) (l19 : K.lookup f19 = some ⟨oc19, od19, .func (PySem.W.fnOf "changes" "Bench.changes" (defArgs s_Bench_changes) (defBody s_Bench_changes) (defScope s_Bench_changes) .none kV19 dc19 pm19 an19 cd19 ct19), sl19⟩) (c19 : PySem.W.codeIn K cd19 "Bench.changes" = true) (k19 : PySem.W.keepIn K (.ref f19) = true)
    (a20 : PySem.W.findIn K (.ref c_Bench) "undone" = some (some (.ref f20))) (fn20 : PySem.W.isFn K (.ref f20) = true) (l20 : K.lookup f20 = some ⟨oc20, od20, .func (PySem.W.fnOf "undone" "Bench.undone" (defArgs s_Bench_undone) (defBody s_Bench_undone) (defScope s_Bench_undone) .none kV20 dc20 pm20 an20 cd20 ct20), sl20⟩) (c20 : PySem.W.codeIn K cd20 "Bench.undone" = true) (k20 : PySem.W.keepIn K (.ref f20) = true)
    (a21 : PySem.W.findIn K (.ref c_Bench) "redo" = some (some (.ref f21))) (fn21 : PySem.W.isFn K (.ref f21) = true) (l21 : K.lookup f21 = some ⟨oc21, od21, .func (PySem.W.fnOf "redo" "Bench.redo" (defArgs s_Bench_redo) (defBody s_Bench_redo) (defScope s_Bench_redo) .none kV21 dc21 pm21 an21 cd21 ct21), sl21⟩) (c21 : PySem.W.codeIn K cd21 "Bench.redo" = true) (k21 : PySem.W.keepIn K (.ref f21) = true)
    (a22 : PySem.W.findIn K (.ref c_Bench) "_choices" = some (some (.ref f22))) (fn22 : PySem.W.isFn K (.ref f22) = true) (l22 : K.lookup f22 = some ⟨oc22, od22, .func (PySem.W.fnOf "_choices" "Bench._choices" (defArgs s_Bench__choices) (defBody s_Bench__choices) (defScope s_Bench__choices) .none kV22 dc22 pm22 an22 cd22 ct22), sl22⟩) (c22 : PySem.W.codeIn K cd22 "Bench._choices" = true) (k22 : PySem.W.keepIn K (.ref f22) = true)
    (a23 : PySem.W.findIn K (.ref c_Bench) "_others" = some (some (.ref f23))) (fn23 : PySem.W.isFn K (.ref f23) = true) (l23 : K.lookup f23 = some ⟨oc23, od23, .func (PySem.W.fnOf "_others" "Bench._others" (defArgs s_Bench__others) (defBody s_Bench__others) (defScope s_Bench__others) .none kV23 dc23 pm23 an23 cd23 ct23), sl23⟩) (c23 : PySem.W.codeIn K cd23 "Bench._others" = true) (k23 : PySem.W.keepIn K (.ref f23) = true)
    (a24 : PySem.W.findIn K (.ref c_Bench) "_change" = some (some (.ref f24))) (fn24 : PySem.W.isFn K (.ref f24) = true) (l24 : K.lookup f24 = some ⟨oc24, od24, .func (PySem.W.fnOf "_change" "Bench._change" (defArgs s_Bench__change) (defBody s_Bench__change) (defScope s_Bench__change) .none kV24 dc24 pm24 an24 cd24 ct24), sl24⟩) (c24 : PySem.W.codeIn K cd24 "Bench._change" = true) (k24 : PySem.W.keepIn K (.ref f24) = true)
    (a25 : PySem.W.findIn K (.ref c_Bench) "remove_choice" = some (some (.ref f25))) (fn25 : PySem.W.isFn K (.ref f25) = true) (l25 : K.lookup f25 = some ⟨oc25, od25, .func (PySem.W.fnOf "remove_choice" "Bench.remove_choice" (defArgs s_Bench_remove_choice) (defBody s_Bench_remove_choice) (defScope s_Bench_remove_choice) .none kV25 dc25 pm25 an25 cd25 ct25), sl25⟩) (c25 : PySem.W.codeIn K cd25 "Bench.remove_choice" = true) (k25 : PySem.W.keepIn K (.ref f25) = true)
    (a26 : PySem.W.findIn K (.ref c_Bench) "add_choice" = some (some (.ref f26))) (fn26 : PySem.W.isFn K (.ref f26) = true) (l26 : K.lookup f26 = some ⟨oc26, od26, .func (PySem.W.fnOf "add_choice" "Bench.add_choice" (defArgs s_Bench_add_choice) (defBody s_Bench_add_choice) (defScope s_Bench_add_choice) .none kV26 dc26 pm26 an26 cd26 ct26), sl26⟩) (c26 : PySem.W.codeIn K cd26 "Bench.add_choice" = true) (k26 : PySem.W.keepIn K (.ref f26) = true)
    (a27 : PySem.W.findIn K (.ref c_Bench) "set_choice" = some (some (.ref f27))) (fn27 : PySem.W.isFn K (.ref f27) = true) (l27 : K.lookup f27 = some ⟨oc27, od27, .func (PySem.W.fnOf "set_choice" "Bench.set_choice" (defArgs s_Bench_set_choice) (defBody s_Bench_set_choice) (defScope s_Bench_set_choice) .none kV27 dc27 pm27 an27 cd27 ct27), sl27⟩) (c27 : PySem.W.codeIn K cd27 "Bench.set_choice" = true) (k27 : PySem.W.keepIn K (.ref f27) = true)
    (a28 : PySem.W.nsIn K mainGlobals "_law_kind" = some (some (.ref f28))) (l28 : K.lookup f28 = some ⟨oc28, od28, .func (PySem.W.fnOf "_law_kind" "_law_kind" (defArgs s_l_kind) (defBody s_l_kind) (defScope s_l_kind) .none kV28 dc28 pm28 an28 cd28 ct28), sl28⟩) (c28 : PySem.W.codeIn K cd28 "_law_kind" = true) (k28 : PySem.W.keepIn K (.ref f28) = true)
    (a29 : PySem.W.nsIn K mainGlobals "_law_done" = some (some (.ref f29))) (l29 : K.lookup f29 = some ⟨oc29, od29, .func (PySem.W.fnOf "_law_done" "_law_done" (defArgs s_l_done) (defBody s_l_done) (defScope s_l_done) .none kV29 dc29 pm29 an29 cd29 ct29), sl29⟩) (c29 : PySem.W.codeIn K cd29 "_law_done" = true) (k29 : PySem.W.keepIn K (.ref f29) = true)
    (a30 : PySem.W.nsIn K mainGlobals "law" = some (some (.ref f30))) (l30 : K.lookup f30 = some ⟨oc30, od30, .func (PySem.W.fnOf "law" "law" (defArgs s_law) (defBody s_law) (defScope s_law) .none kV30 dc30 pm30 an30 cd30 ct30), sl30⟩) (c30 : PySem.W.codeIn K cd30 "law" = true) (k30 : PySem.W.keepIn K (.ref f30) = true)
    (z_ValueError : PySem.W.nsIn K mainGlobals "ValueError" = some none)
    (z_bool : PySem.W.nsIn K mainGlobals "bool" = some none)
    (z_enumerate : PySem.W.nsIn K mainGlobals "enumerate" = some none)
    (z_int : PySem.W.nsIn K mainGlobals "int" = some none)
    (z_isinstance : PySem.W.nsIn K mainGlobals "isinstance" = some none)
    (z_len : PySem.W.nsIn K mainGlobals "len" = some none)
    (z_list : PySem.W.nsIn K mainGlobals "list" = some none)
    (z_range : PySem.W.nsIn K mainGlobals "range" = some none)
    (z_str : PySem.W.nsIn K mainGlobals "str" = some none)
    (z_tuple : PySem.W.nsIn K mainGlobals "tuple" = some none)
    {t_MOST_CHANGES : Tok} (z_MOST_CHANGES : PySem.W.nsIn K mainGlobals "MOST_CHANGES" = some (some (.int 100 t_MOST_CHANGES)))
    {t_MOST_CHOICES : Tok} (z_MOST_CHOICES : PySem.W.nsIn K mainGlobals "MOST_CHOICES" = some (some (.int 6 t_MOST_CHOICES)))
    {t_MOST_COST : Tok} (z_MOST_COST : PySem.W.nsIn K mainGlobals "MOST_COST" = some (some (.int 1000 t_MOST_COST)))
    {t_MOST_ENDS : Tok} (z_MOST_ENDS : PySem.W.nsIn K mainGlobals "MOST_ENDS" = some (some (.int 6 t_MOST_ENDS)))
    {t_MOST_STATES : Tok} (z_MOST_STATES : PySem.W.nsIn K mainGlobals "MOST_STATES" = some (some (.int 20 t_MOST_STATES)))
    {t_MOST_WEIGHT : Tok} (z_MOST_WEIGHT : PySem.W.nsIn K mainGlobals "MOST_WEIGHT" = some (some (.int 1000 t_MOST_WEIGHT)))
    (m_BestoddsError : PySem.W.subIn K (.ref c_BestoddsError) (.type "BaseException") = some true) (y_BestoddsError : PySem.W.typeIn K (.ref c_BestoddsError) = some (.type "type"))
    (m_BenchError : PySem.W.subIn K (.ref c_BenchError) (.type "BaseException") = some true) (y_BenchError : PySem.W.typeIn K (.ref c_BenchError) = some (.type "type"))
    (m_TooManyChanges : PySem.W.subIn K (.ref c_TooManyChanges) (.type "BaseException") = some true) (y_TooManyChanges : PySem.W.typeIn K (.ref c_TooManyChanges) = some (.type "type"))
    (h_NoSuchState_BestoddsError : PySem.W.exmOne K (.ref c_NoSuchState) (.ref c_BestoddsError) = some true)
    (h_NoSuchChoice_BestoddsError : PySem.W.exmOne K (.ref c_NoSuchChoice) (.ref c_BestoddsError) = some true)
    (h_InvalidSystem_BestoddsError : PySem.W.exmOne K (.ref c_InvalidSystem) (.ref c_BestoddsError) = some true)
    (h_TooManyChanges_BestoddsError : PySem.W.exmOne K (.ref c_TooManyChanges) (.ref c_BestoddsError) = some true)
    (j_NoSuchState_NoSuchState : PySem.W.kitOne K (.ref c_NoSuchState) (.ref c_NoSuchState) = some true)
    (j_NoSuchState_NoSuchChoice : PySem.W.kitOne K (.ref c_NoSuchState) (.ref c_NoSuchChoice) = some false)
    (j_NoSuchState_InvalidSystem : PySem.W.kitOne K (.ref c_NoSuchState) (.ref c_InvalidSystem) = some false)
    (j_NoSuchState_TooManyChanges : PySem.W.kitOne K (.ref c_NoSuchState) (.ref c_TooManyChanges) = some false)
    (j_NoSuchState_ValueError : PySem.W.kitOne K (.ref c_NoSuchState) (.type "ValueError") = some true)
    (j_NoSuchState_BenchError : PySem.W.kitOne K (.ref c_NoSuchState) (.ref c_BenchError) = some true)
    (j_NoSuchChoice_NoSuchState : PySem.W.kitOne K (.ref c_NoSuchChoice) (.ref c_NoSuchState) = some false)
    (j_NoSuchChoice_NoSuchChoice : PySem.W.kitOne K (.ref c_NoSuchChoice) (.ref c_NoSuchChoice) = some true)
    (j_NoSuchChoice_InvalidSystem : PySem.W.kitOne K (.ref c_NoSuchChoice) (.ref c_InvalidSystem) = some false)
    (j_NoSuchChoice_TooManyChanges : PySem.W.kitOne K (.ref c_NoSuchChoice) (.ref c_TooManyChanges) = some false)
    (j_NoSuchChoice_ValueError : PySem.W.kitOne K (.ref c_NoSuchChoice) (.type "ValueError") = some true)
    (j_NoSuchChoice_BenchError : PySem.W.kitOne K (.ref c_NoSuchChoice) (.ref c_BenchError) = some true)
    (j_InvalidSystem_NoSuchState : PySem.W.kitOne K (.ref c_InvalidSystem) (.ref c_NoSuchState) = some false)
    (j_InvalidSystem_NoSuchChoice : PySem.W.kitOne K (.ref c_InvalidSystem) (.ref c_NoSuchChoice) = some false)
    (j_InvalidSystem_InvalidSystem : PySem.W.kitOne K (.ref c_InvalidSystem) (.ref c_InvalidSystem) = some true)
    (j_InvalidSystem_TooManyChanges : PySem.W.kitOne K (.ref c_InvalidSystem) (.ref c_TooManyChanges) = some false)
    (j_InvalidSystem_ValueError : PySem.W.kitOne K (.ref c_InvalidSystem) (.type "ValueError") = some true)
    (j_InvalidSystem_BenchError : PySem.W.kitOne K (.ref c_InvalidSystem) (.ref c_BenchError) = some false)
    (j_TooManyChanges_NoSuchState : PySem.W.kitOne K (.ref c_TooManyChanges) (.ref c_NoSuchState) = some false)
    (j_TooManyChanges_NoSuchChoice : PySem.W.kitOne K (.ref c_TooManyChanges) (.ref c_NoSuchChoice) = some false)
    (j_TooManyChanges_InvalidSystem : PySem.W.kitOne K (.ref c_TooManyChanges) (.ref c_InvalidSystem) = some false)
    (j_TooManyChanges_TooManyChanges : PySem.W.kitOne K (.ref c_TooManyChanges) (.ref c_TooManyChanges) = some true)
    (j_TooManyChanges_ValueError : PySem.W.kitOne K (.ref c_TooManyChanges) (.type "ValueError") = some true)
    (j_TooManyChanges_BenchError : PySem.W.kitOne K (.ref c_TooManyChanges) (.ref c_BenchError) = some true)
    (xc_NoSuchState : xcB K c_NoSuchState = true)
    (xc_NoSuchChoice : xcB K c_NoSuchChoice = true)
    (xc_InvalidSystem : xcB K c_InvalidSystem = true)
    (xc_TooManyChanges : xcB K c_TooManyChanges = true)
    (pg_Bench : PySem.W.plainGet K c_Bench Str.empty = true) (hd_Bench : PySem.W.hasDictIn K c_Bench = true) (po_Bench : PySem.W.plainOver K c_Bench = true) (sa_Bench : PySem.W.findIn K (.ref c_Bench) "__setattr__" = some (some (.builtin "object.__setattr__")))
    (nf_Bench__now : PySem.W.findIn K (.ref c_Bench) "_now" = some none)
    (nf_Bench__past : PySem.W.findIn K (.ref c_Bench) "_past" = some none)
    (nf_Bench__ahead : PySem.W.findIn K (.ref c_Bench) "_ahead" = some none)
    (nf_Bench__wishes : PySem.W.findIn K (.ref c_Bench) "_wishes" = some none)
    (nf_Bench__many_solved : PySem.W.findIn K (.ref c_Bench) "_many_solved" = some none)
    (mk_Bench : PySem.W.makesIn K c_Bench = true) (kc_Bench : PySem.W.keepIn K (.ref c_Bench) = true)
    : ∃ fd : FuncData, (∀ (s : Shared) (v : Value), BindsTo s fd ⟨[v], []⟩ [("script", v)]) ∧ ∀ base : Heap, K.In base → base.Ns mainGlobals mg → FnOk l.prog w K mg base CX0 10 fa fd ["script"] (sp_law K) := by
  have e := hfa.symm.trans (PySem.W.mg_of X G a30)
  cases e
  have F0 := fun_mk (st := s_l_draw) l0 c0 k0
  have b0 := F0.binds (ps := ["tape", "at", "many"]) fun _ _ _ _ _ _ us hl => match us, hl with | [_, _, _], _ => rfl
  have F1 := fun_mk (st := s_l_take) l1 c1 k1
  have b1 := F1.binds (ps := ["state", "many"]) fun _ _ _ _ _ _ us hl => match us, hl with | [_, _], _ => rfl
  have F2 := fun_mk (st := s_l_ends) l2 c2 k2
  have b2 := F2.binds (ps := ["state", "many"]) fun _ _ _ _ _ _ us hl => match us, hl with | [_, _], _ => rfl
  have F3 := fun_mk (st := s_l_choices) l3 c3 k3
  have b3 := F3.binds (ps := ["state", "many", "most"]) fun _ _ _ _ _ _ us hl => match us, hl with | [_, _, _], _ => rfl
  have F4 := fun_mk (st := s_l_system) l4 c4 k4
  have b4 := F4.binds (ps := ["state", "most"]) fun _ _ _ _ _ _ us hl => match us, hl with | [_, _], _ => rfl
  have F5 := fun_mk (st := s_are_ends) l5 c5 k5
  have b5 := F5.binds (ps := ["many", "ends"]) fun _ _ _ _ _ _ us hl => match us, hl with | [_, _], _ => rfl
  have F6 := fun_mk (st := s_fault_in_state) l6 c6 k6
  have b6 := F6.binds (ps := ["many", "state", "choices"]) fun _ _ _ _ _ _ us hl => match us, hl with | [_, _, _], _ => rfl
  have F7 := fun_mk (st := s_fault) l7 c7 k7
  have b7 := F7.binds (ps := ["system"]) fun _ _ _ _ _ _ us hl => match us, hl with | [_], _ => rfl
  have F8 := fun_mk (st := s_check) l8 c8 k8
  have b8 := F8.binds (ps := ["system"]) fun _ _ _ _ _ _ us hl => match us, hl with | [_], _ => rfl
  have F9 := fun_mk (st := s_Bench_init) l9 c9 k9
  have b9 := F9.binds (ps := ["self", "system"]) fun _ _ _ _ _ _ us hl => match us, hl with | [_, _], _ => rfl
  have F10 := fun_mk (st := s_l_tape) l10 c10 k10
  have b10 := F10.binds (ps := ["script"]) fun _ _ _ _ _ _ us hl => match us, hl with | [_], _ => rfl
  have F11 := fun_mk (st := s_l_refused) l11 c11 k11
  have b11 := F11.binds (ps := ["system"]) fun _ _ _ _ _ _ us hl => match us, hl with | [_], _ => rfl
  have F12 := fun_mk (st := s_l_equal) l12 c12 k12
  have b12 := F12.binds (ps := ["actual", "due"]) fun _ _ _ _ _ _ us hl => match us, hl with | [_, _], _ => rfl
  have F13 := fun_mk (st := s_l_edit) l13 c13 k13
  have b13 := F13.binds (ps := ["state", "system"]) fun _ _ _ _ _ _ us hl => match us, hl with | [_, _], _ => rfl
  have F14 := fun_mk (st := s_l_after) l14 c14 k14
  have b14 := F14.binds (ps := ["system", "edit"]) fun _ _ _ _ _ _ us hl => match us, hl with | [_, _], _ => rfl
  have F15 := fun_mk (st := s_l_refusal) l15 c15 k15
  have b15 := F15.binds (ps := ["system", "edit"]) fun _ _ _ _ _ _ us hl => match us, hl with | [_, _], _ => rfl
  have F16 := fun_mk (st := s_Bench__turn_to) l16 c16 k16
  have b16 := F16.binds (ps := ["self", "state", "system"]) fun _ _ _ _ _ _ us hl => match us, hl with | [_, _, _], _ => rfl
  have F17 := fun_mk (st := s_Bench_undo) l17 c17 k17
  have b17 := F17.binds (ps := ["self"]) fun _ _ _ _ _ _ us hl => match us, hl with | [_], _ => rfl
  have F18 := fun_mk (st := s_Bench_system) l18 c18 k18
  have b18 := F18.binds (ps := ["self"]) fun _ _ _ _ _ _ us hl => match us, hl with | [_], _ => rfl
  have F19 := fun_mk (st := s_Bench_changes) l19 c19 k19
  have b19 := F19.binds (ps := ["self"]) fun _ _ _ _ _ _ us hl => match us, hl with | [_], _ => rfl
  have F20 := fun_mk (st := s_Bench_undone) l20 c20 k20
  have b20 := F20.binds (ps := ["self"]) fun _ _ _ _ _ _ us hl => match us, hl with | [_], _ => rfl
  have F21 := fun_mk (st := s_Bench_redo) l21 c21 k21
  have b21 := F21.binds (ps := ["self"]) fun _ _ _ _ _ _ us hl => match us, hl with | [_], _ => rfl
  have F22 := fun_mk (st := s_Bench__choices) l22 c22 k22
  have b22 := F22.binds (ps := ["self", "state"]) fun _ _ _ _ _ _ us hl => match us, hl with | [_, _], _ => rfl
  have F23 := fun_mk (st := s_Bench__others) l23 c23 k23
  have b23 := F23.binds (ps := ["self", "state", "number"]) fun _ _ _ _ _ _ us hl => match us, hl with | [_, _, _], _ => rfl
  have F24 := fun_mk (st := s_Bench__change) l24 c24 k24
  have b24 := F24.binds (ps := ["self", "state", "choices"]) fun _ _ _ _ _ _ us hl => match us, hl with | [_, _, _], _ => rfl
  have F25 := fun_mk (st := s_Bench_remove_choice) l25 c25 k25
  have b25 := F25.binds (ps := ["self", "state", "number"]) fun _ _ _ _ _ _ us hl => match us, hl with | [_, _, _], _ => rfl
  have F26 := fun_mk (st := s_Bench_add_choice) l26 c26 k26
  have b26 := F26.binds (ps := ["self", "state", "cost", "ends"]) fun _ _ _ _ _ _ us hl => match us, hl with | [_, _, _, _], _ => rfl
  have F27 := fun_mk (st := s_Bench_set_choice) l27 c27 k27
  have b27 := F27.binds (ps := ["self", "state", "number", "cost", "ends"]) fun _ _ _ _ _ _ us hl => match us, hl with | [_, _, _, _, _], _ => rfl
  have F28 := fun_mk (st := s_l_kind) l28 c28 k28
  have b28 := F28.binds (ps := ["e"]) fun _ _ _ _ _ _ us hl => match us, hl with | [_], _ => rfl
  have F29 := fun_mk (st := s_l_done) l29 c29 k29
  have b29 := F29.binds (ps := ["bench", "edit"]) fun _ _ _ _ _ _ us hl => match us, hl with | [_, _], _ => rfl
  have F30 := fun_mk (st := s_law) l30 c30 k30
  have b30 := F30.binds (ps := ["script"]) fun _ _ _ _ _ _ us hl => match us, hl with | [_], _ => rfl
  have F_InvalidSystem := fun_mk (st := s_InvalidSystem) li_InvalidSystem ci_InvalidSystem ki_InvalidSystem
  have b_InvalidSystem := F_InvalidSystem.binds (ps := ["self", "fault"]) fun _ _ _ _ _ _ us hl => match us, hl with | [_, _], _ => rfl
  have F_NoSuchState := fun_mk (st := s_NoSuchState) li_NoSuchState ci_NoSuchState ki_NoSuchState
  have b_NoSuchState := F_NoSuchState.binds (ps := ["self", "state"]) fun _ _ _ _ _ _ us hl => match us, hl with | [_, _], _ => rfl
  have F_NoSuchChoice := fun_mk (st := s_NoSuchChoice) li_NoSuchChoice ci_NoSuchChoice ki_NoSuchChoice
  have b_NoSuchChoice := F_NoSuchChoice.binds (ps := ["self", "number"]) fun _ _ _ _ _ _ us hl => match us, hl with | [_, _], _ => rfl
  let T : Env K mg := { a_l_draw := _, d_l_draw := _, F_l_draw := F0, b_l_draw := b0, g_l_draw := PySem.W.mg_of X G a0, a_l_take := _, d_l_take := _, F_l_take := F1, b_l_take := b1, g_l_take := PySem.W.mg_of X G a1, a_l_ends := _, d_l_ends := _, F_l_ends := F2, b_l_ends := b2, g_l_ends := PySem.W.mg_of X G a2, a_l_choices := _, d_l_choices := _, F_l_choices := F3, b_l_choices := b3, g_l_choices := PySem.W.mg_of X G a3, a_l_system := _, d_l_system := _, F_l_system := F4, b_l_system := b4, g_l_system := PySem.W.mg_of X G a4, a_are_ends := _, d_are_ends := _, F_are_ends := F5, b_are_ends := b5, g_are_ends := PySem.W.mg_of X G a5, a_fault_in_state := _, d_fault_in_state := _, F_fault_in_state := F6, b_fault_in_state := b6, g_fault_in_state := PySem.W.mg_of X G a6, a_fault := _, d_fault := _, F_fault := F7, b_fault := b7, g_fault := PySem.W.mg_of X G a7, a_check := _, d_check := _, F_check := F8, b_check := b8, g_check := PySem.W.mg_of X G a8, a_Bench_init := _, d_Bench_init := _, F_Bench_init := F9, b_Bench_init := b9, a_l_tape := _, d_l_tape := _, F_l_tape := F10, b_l_tape := b10, g_l_tape := PySem.W.mg_of X G a10, a_l_refused := _, d_l_refused := _, F_l_refused := F11, b_l_refused := b11, g_l_refused := PySem.W.mg_of X G a11, a_l_equal := _, d_l_equal := _, F_l_equal := F12, b_l_equal := b12, g_l_equal := PySem.W.mg_of X G a12, a_l_edit := _, d_l_edit := _, F_l_edit := F13, b_l_edit := b13, g_l_edit := PySem.W.mg_of X G a13, a_l_after := _, d_l_after := _, F_l_after := F14, b_l_after := b14, g_l_after := PySem.W.mg_of X G a14, a_l_refusal := _, d_l_refusal := _, F_l_refusal := F15, b_l_refusal := b15, g_l_refusal := PySem.W.mg_of X G a15, a_Bench__turn_to := _, d_Bench__turn_to := _, F_Bench__turn_to := F16, b_Bench__turn_to := b16, a_Bench_undo := _, d_Bench_undo := _, F_Bench_undo := F17, b_Bench_undo := b17, a_Bench_system := _, d_Bench_system := _, F_Bench_system := F18, b_Bench_system := b18, a_Bench_changes := _, d_Bench_changes := _, F_Bench_changes := F19, b_Bench_changes := b19, a_Bench_undone := _, d_Bench_undone := _, F_Bench_undone := F20, b_Bench_undone := b20, a_Bench_redo := _, d_Bench_redo := _, F_Bench_redo := F21, b_Bench_redo := b21, a_Bench__choices := _, d_Bench__choices := _, F_Bench__choices := F22, b_Bench__choices := b22, a_Bench__others := _, d_Bench__others := _, F_Bench__others := F23, b_Bench__others := b23, a_Bench__change := _, d_Bench__change := _, F_Bench__change := F24, b_Bench__change := b24, a_Bench_remove_choice := _, d_Bench_remove_choice := _, F_Bench_remove_choice := F25, b_Bench_remove_choice := b25, a_Bench_add_choice := _, d_Bench_add_choice := _, F_Bench_add_choice := F26, b_Bench_add_choice := b26, a_Bench_set_choice := _, d_Bench_set_choice := _, F_Bench_set_choice := F27, b_Bench_set_choice := b27, a_l_kind := _, d_l_kind := _, F_l_kind := F28, b_l_kind := b28, g_l_kind := PySem.W.mg_of X G a28, a_l_done := _, d_l_done := _, F_l_done := F29, b_l_done := b29, g_l_done := PySem.W.mg_of X G a29, a_law := _, d_law := _, F_law := F30, b_law := b30, g_law := PySem.W.mg_of X G a30, c_BestoddsError := _, g_BestoddsError := PySem.W.mg_of X G ac_BestoddsError, e_BestoddsError := e_BestoddsError, k_BestoddsError := k_BestoddsError, c_InvalidSystem := _, g_InvalidSystem := PySem.W.mg_of X G ac_InvalidSystem, a_InvalidSystem := _, d_InvalidSystem := _, o_InvalidSystem := ⟨⟨_, _, _, _, _, _, _, _, _, _, _, _, _, _, _, xl_InvalidSystem, rfl⟩, sa_InvalidSystem, ex_InvalidSystem, ty_InvalidSystem, kc_InvalidSystem⟩, i_InvalidSystem := ai_InvalidSystem, t_InvalidSystem := ti_InvalidSystem, F_InvalidSystem := F_InvalidSystem, b_InvalidSystem := b_InvalidSystem, n_InvalidSystem := fr_InvalidSystem, c_BenchError := _, g_BenchError := PySem.W.mg_of X G ac_BenchError, e_BenchError := e_BenchError, k_BenchError := k_BenchError, c_NoSuchState := _, g_NoSuchState := PySem.W.mg_of X G ac_NoSuchState, a_NoSuchState := _, d_NoSuchState := _, o_NoSuchState := ⟨⟨_, _, _, _, _, _, _, _, _, _, _, _, _, _, _, xl_NoSuchState, rfl⟩, sa_NoSuchState, ex_NoSuchState, ty_NoSuchState, kc_NoSuchState⟩, i_NoSuchState := ai_NoSuchState, t_NoSuchState := ti_NoSuchState, F_NoSuchState := F_NoSuchState, b_NoSuchState := b_NoSuchState, n_NoSuchState := fr_NoSuchState, c_NoSuchChoice := _, g_NoSuchChoice := PySem.W.mg_of X G ac_NoSuchChoice, a_NoSuchChoice := _, d_NoSuchChoice := _, o_NoSuchChoice := ⟨⟨_, _, _, _, _, _, _, _, _, _, _, _, _, _, _, xl_NoSuchChoice, rfl⟩, sa_NoSuchChoice, ex_NoSuchChoice, ty_NoSuchChoice, kc_NoSuchChoice⟩, i_NoSuchChoice := ai_NoSuchChoice, t_NoSuchChoice := ti_NoSuchChoice, F_NoSuchChoice := F_NoSuchChoice, b_NoSuchChoice := b_NoSuchChoice, n_NoSuchChoice := fr_NoSuchChoice, c_TooManyChanges := _, g_TooManyChanges := PySem.W.mg_of X G ac_TooManyChanges, e_TooManyChanges := e_TooManyChanges, k_TooManyChanges := k_TooManyChanges, z_ValueError := PySem.W.mg_none_of X G z_ValueError, z_bool := PySem.W.mg_none_of X G z_bool, z_enumerate := PySem.W.mg_none_of X G z_enumerate, z_int := PySem.W.mg_none_of X G z_int, z_isinstance := PySem.W.mg_none_of X G z_isinstance, z_len := PySem.W.mg_none_of X G z_len, z_list := PySem.W.mg_none_of X G z_list, z_range := PySem.W.mg_none_of X G z_range, z_str := PySem.W.mg_none_of X G z_str, z_tuple := PySem.W.mg_none_of X G z_tuple, k_MOST_CHANGES := t_MOST_CHANGES, c_MOST_CHANGES := PySem.W.mg_of X G z_MOST_CHANGES, k_MOST_CHOICES := t_MOST_CHOICES, c_MOST_CHOICES := PySem.W.mg_of X G z_MOST_CHOICES, k_MOST_COST := t_MOST_COST, c_MOST_COST := PySem.W.mg_of X G z_MOST_COST, k_MOST_ENDS := t_MOST_ENDS, c_MOST_ENDS := PySem.W.mg_of X G z_MOST_ENDS, k_MOST_STATES := t_MOST_STATES, c_MOST_STATES := PySem.W.mg_of X G z_MOST_STATES, k_MOST_WEIGHT := t_MOST_WEIGHT, c_MOST_WEIGHT := PySem.W.mg_of X G z_MOST_WEIGHT, m_BestoddsError := m_BestoddsError, y_BestoddsError := y_BestoddsError, m_BenchError := m_BenchError, y_BenchError := y_BenchError, m_TooManyChanges := m_TooManyChanges, y_TooManyChanges := y_TooManyChanges, h_NoSuchState_BestoddsError := h_NoSuchState_BestoddsError, h_NoSuchChoice_BestoddsError := h_NoSuchChoice_BestoddsError, h_InvalidSystem_BestoddsError := h_InvalidSystem_BestoddsError, h_TooManyChanges_BestoddsError := h_TooManyChanges_BestoddsError, j_NoSuchState_NoSuchState := j_NoSuchState_NoSuchState, j_NoSuchState_NoSuchChoice := j_NoSuchState_NoSuchChoice, j_NoSuchState_InvalidSystem := j_NoSuchState_InvalidSystem, j_NoSuchState_TooManyChanges := j_NoSuchState_TooManyChanges, j_NoSuchState_ValueError := j_NoSuchState_ValueError, j_NoSuchState_BenchError := j_NoSuchState_BenchError, j_NoSuchChoice_NoSuchState := j_NoSuchChoice_NoSuchState, j_NoSuchChoice_NoSuchChoice := j_NoSuchChoice_NoSuchChoice, j_NoSuchChoice_InvalidSystem := j_NoSuchChoice_InvalidSystem, j_NoSuchChoice_TooManyChanges := j_NoSuchChoice_TooManyChanges, j_NoSuchChoice_ValueError := j_NoSuchChoice_ValueError, j_NoSuchChoice_BenchError := j_NoSuchChoice_BenchError, j_InvalidSystem_NoSuchState := j_InvalidSystem_NoSuchState, j_InvalidSystem_NoSuchChoice := j_InvalidSystem_NoSuchChoice, j_InvalidSystem_InvalidSystem := j_InvalidSystem_InvalidSystem, j_InvalidSystem_TooManyChanges := j_InvalidSystem_TooManyChanges, j_InvalidSystem_ValueError := j_InvalidSystem_ValueError, j_InvalidSystem_BenchError := j_InvalidSystem_BenchError, j_TooManyChanges_NoSuchState := j_TooManyChanges_NoSuchState, j_TooManyChanges_NoSuchChoice := j_TooManyChanges_NoSuchChoice, j_TooManyChanges_InvalidSystem := j_TooManyChanges_InvalidSystem, j_TooManyChanges_TooManyChanges := j_TooManyChanges_TooManyChanges, j_TooManyChanges_ValueError := j_TooManyChanges_ValueError, j_TooManyChanges_BenchError := j_TooManyChanges_BenchError, xc_NoSuchState := xc_NoSuchState, xc_NoSuchChoice := xc_NoSuchChoice, xc_InvalidSystem := xc_InvalidSystem, xc_TooManyChanges := xc_TooManyChanges, c_Bench := _, g_Bench := PySem.W.mg_of X G ac_Bench, kk_Bench := ⟨ac_Bench, ⟨pg_Bench, hd_Bench, po_Bench, sa_Bench⟩⟩, nf_Bench__now := nf_Bench__now, nf_Bench__past := nf_Bench__past, nf_Bench__ahead := nf_Bench__ahead, nf_Bench__wishes := nf_Bench__wishes, nf_Bench__many_solved := nf_Bench__many_solved, mk_Bench := ⟨mk_Bench, a9, fn9, kc_Bench⟩, me_Bench__turn_to := ⟨a16, fn16, k16⟩, me_Bench_undo := ⟨a17, fn17, k17⟩, me_Bench_system := ⟨a18, fn18, k18⟩, me_Bench_changes := ⟨a19, fn19, k19⟩, me_Bench_undone := ⟨a20, fn20, k20⟩, me_Bench_redo := ⟨a21, fn21, k21⟩, me_Bench__choices := ⟨a22, fn22, k22⟩, me_Bench__others := ⟨a23, fn23, k23⟩, me_Bench__change := ⟨a24, fn24, k24⟩, me_Bench_remove_choice := ⟨a25, fn25, k25⟩, me_Bench_add_choice := ⟨a26, fn26, k26⟩, me_Bench_set_choice := ⟨a27, fn27, k27⟩ }
  exact ⟨PySem.W.fnOf "law" "law" (defArgs s_law) (defBody s_law) (defScope s_law) .none kV30 dc30 pm30 an30 cd30 ct30, fun s v => .of_eq rfl, fun base _ _ => ok_law T⟩
end Bo
open PySem PySem.W PyProof.Rows
set_option maxRecDepth 100000 in
set_option maxHeartbeats 0 in
theorem PySem.Challenge.cw_bestodds_k43_changes_of_benches_holds : PySem.Challenge.rw_bestodds_k43_changes_of_benches.Holds := by
  w_on; o_law; k_head; (case hw => w_witness2)
  k_fill
  refine L2.walk_of (l := PySem.Challenge.rw_bestodds_k43_changes_of_benches) (n := 63) (k := 10) (x := "script") (CX := fun _ => L2.CX0) (sp := fun w => Bo.sp_law _) rfl (by decide) rfl ⟨rfl, by decide, by decide⟩ (fun w h Y => PySem.W.kIn_of Y) ?F (fun _ _ a ns hl _ hS => ⟨a, ns, rfl, hS, hl, fun _ => rfl⟩) (fun _ _ _ _ _ h => h)
  case F =>
    intro w mg fa h KX G hmg
    refine' Bo.all_mk KX G hmg ?ac_Bench ?ac_BestoddsError ?ac_InvalidSystem ?ac_BenchError ?ac_NoSuchState ?ac_NoSuchChoice ?ac_TooManyChanges ?e_BestoddsError ?k_BestoddsError ?xl_InvalidSystem ?sa_InvalidSystem ?ex_InvalidSystem ?ty_InvalidSystem ?kc_InvalidSystem ?ai_InvalidSystem ?ti_InvalidSystem ?li_InvalidSystem ?ci_InvalidSystem ?ki_InvalidSystem ?fr_InvalidSystem ?e_BenchError ?k_BenchError ?xl_NoSuchState ?sa_NoSuchState ?ex_NoSuchState ?ty_NoSuchState ?kc_NoSuchState ?ai_NoSuchState ?ti_NoSuchState ?li_NoSuchState ?ci_NoSuchState ?ki_NoSuchState ?fr_NoSuchState ?xl_NoSuchChoice ?sa_NoSuchChoice ?ex_NoSuchChoice ?ty_NoSuchChoice ?kc_NoSuchChoice ?ai_NoSuchChoice ?ti_NoSuchChoice ?li_NoSuchChoice ?ci_NoSuchChoice ?ki_NoSuchChoice ?fr_NoSuchChoice ?e_TooManyChanges ?k_TooManyChanges ?a0 ?l0 ?c0 ?k0 ?a1 ?l1 ?c1 ?k1 ?a2 ?l2 ?c2 ?k2 ?a3 ?l3 ?c3 ?k3 ?a4 ?l4 ?c4 ?k4 ?a5 ?l5 ?c5 ?k5 ?a6 ?l6 ?c6 ?k6 ?a7 ?l7 ?c7 ?k7 ?a8 ?l8 ?c8 ?k8 ?a9 ?fn9 ?l9 ?c9 ?k9 ?a10 ?l10 ?c10 ?k10 ?a11 ?l11 ?c11 ?k11 ?a12 ?l12 ?c12 ?k12 ?a13 ?l13 ?c13 ?k13 ?a14 ?l14 ?c14 ?k14 ?a15 ?l15 ?c15 ?k15 ?a16 ?fn16 ?l16 ?c16 ?k16 ?a17 ?fn17 ?l17 ?c17 ?k17 ?a18 ?fn18 ?l18 ?c18 ?k18 ?a19 ?fn19 ?l19 ?c19 ?k19 ?a20 ?fn20 ?l20 ?c20 ?k20 ?a21 ?fn21 ?l21 ?c21 ?k21 ?a22 ?fn22 ?l22 ?c22 ?k22 ?a23 ?fn23 ?l23 ?c23 ?k23 ?a24 ?fn24 ?l24 ?c24 ?k24 ?a25 ?fn25 ?l25 ?c25 ?k25 ?a26 ?fn26 ?l26 ?c26 ?k26 ?a27 ?fn27 ?l27 ?c27 ?k27 ?a28 ?l28 ?c28 ?k28 ?a29 ?l29 ?c29 ?k29 ?a30 ?l30 ?c30 ?k30 ?z_ValueError ?z_bool ?z_enumerate ?z_int ?z_isinstance ?z_len ?z_list ?z_range ?z_str ?z_tuple ?z_MOST_CHANGES ?z_MOST_CHOICES ?z_MOST_COST ?z_MOST_ENDS ?z_MOST_STATES ?z_MOST_WEIGHT ?m_BestoddsError ?y_BestoddsError ?m_BenchError ?y_BenchError ?m_TooManyChanges ?y_TooManyChanges ?h_NoSuchState_BestoddsError ?h_NoSuchChoice_BestoddsError ?h_InvalidSystem_BestoddsError ?h_TooManyChanges_BestoddsError ?j_NoSuchState_NoSuchState ?j_NoSuchState_NoSuchChoice ?j_NoSuchState_InvalidSystem ?j_NoSuchState_TooManyChanges ?j_NoSuchState_ValueError ?j_NoSuchState_BenchError ?j_NoSuchChoice_NoSuchState ?j_NoSuchChoice_NoSuchChoice ?j_NoSuchChoice_InvalidSystem ?j_NoSuchChoice_TooManyChanges ?j_NoSuchChoice_ValueError ?j_NoSuchChoice_BenchError ?j_InvalidSystem_NoSuchState ?j_InvalidSystem_NoSuchChoice ?j_InvalidSystem_InvalidSystem ?j_InvalidSystem_TooManyChanges ?j_InvalidSystem_ValueError ?j_InvalidSystem_BenchError ?j_TooManyChanges_NoSuchState ?j_TooManyChanges_NoSuchChoice ?j_TooManyChanges_InvalidSystem ?j_TooManyChanges_TooManyChanges ?j_TooManyChanges_ValueError ?j_TooManyChanges_BenchError ?xc_NoSuchState ?xc_NoSuchChoice ?xc_InvalidSystem ?xc_TooManyChanges ?pg_Bench ?hd_Bench ?po_Bench ?sa_Bench ?nf_Bench__now ?nf_Bench__past ?nf_Bench__ahead ?nf_Bench__wishes ?nf_Bench__many_solved ?mk_Bench ?kc_Bench
    (case ac_Bench => k_is)
    (case ac_BestoddsError => k_is)
    (case ac_InvalidSystem => k_is)
    (case ac_BenchError => k_is)
    (case ac_NoSuchState => k_is)
    (case ac_NoSuchChoice => k_is)
    (case ac_TooManyChanges => k_is)
    (case e_BestoddsError => k_exc)
    (case k_BestoddsError => k_is)
    (case xl_InvalidSystem => k_is)
    (case sa_InvalidSystem => k_is)
    (case ex_InvalidSystem => k_is)
    (case ty_InvalidSystem => k_is)
    (case kc_InvalidSystem => k_is)
    (case ai_InvalidSystem => k_is)
    (case ti_InvalidSystem => k_is)
    (case li_InvalidSystem => k_is)
    (case ci_InvalidSystem => k_is)
    (case ki_InvalidSystem => k_is)
    (case fr_InvalidSystem => k_is)
    (case e_BenchError => k_exc)
    (case k_BenchError => k_is)
    (case xl_NoSuchState => k_is)
    (case sa_NoSuchState => k_is)
    (case ex_NoSuchState => k_is)
    (case ty_NoSuchState => k_is)
    (case kc_NoSuchState => k_is)
    (case ai_NoSuchState => k_is)
    (case ti_NoSuchState => k_is)
    (case li_NoSuchState => k_is)
    (case ci_NoSuchState => k_is)
    (case ki_NoSuchState => k_is)
    (case fr_NoSuchState => k_is)
    (case xl_NoSuchChoice => k_is)
    (case sa_NoSuchChoice => k_is)
    (case ex_NoSuchChoice => k_is)
    (case ty_NoSuchChoice => k_is)
    (case kc_NoSuchChoice => k_is)
    (case ai_NoSuchChoice => k_is)
    (case ti_NoSuchChoice => k_is)
    (case li_NoSuchChoice => k_is)
    (case ci_NoSuchChoice => k_is)
    (case ki_NoSuchChoice => k_is)
    (case fr_NoSuchChoice => k_is)
    (case e_TooManyChanges => k_exc)
    (case k_TooManyChanges => k_is)
    (case a0 => k_is)
    (case l0 => k_is)
    (case c0 => k_is)
    (case k0 => k_is)
    (case a1 => k_is)
    (case l1 => k_is)
    (case c1 => k_is)
    (case k1 => k_is)
    (case a2 => k_is)
    (case l2 => k_is)
    (case c2 => k_is)
    (case k2 => k_is)
    (case a3 => k_is)
    (case l3 => k_is)
    (case c3 => k_is)
    (case k3 => k_is)
    (case a4 => k_is)
    (case l4 => k_is)
    (case c4 => k_is)
    (case k4 => k_is)
    (case a5 => k_is)
    (case l5 => k_is)
    (case c5 => k_is)
    (case k5 => k_is)
    (case a6 => k_is)
    (case l6 => k_is)
    (case c6 => k_is)
    (case k6 => k_is)
    (case a7 => k_is)
    (case l7 => k_is)
    (case c7 => k_is)
    (case k7 => k_is)
    (case a8 => k_is)
    (case l8 => k_is)
    (case c8 => k_is)
    (case k8 => k_is)
    (case a9 => k_is)
    (case fn9 => k_is)
    (case l9 => k_is)
    (case c9 => k_is)
    (case k9 => k_is)
    (case a10 => k_is)
    (case l10 => k_is)
    (case c10 => k_is)
    (case k10 => k_is)
    (case a11 => k_is)
    (case l11 => k_is)
    (case c11 => k_is)
    (case k11 => k_is)
    (case a12 => k_is)
    (case l12 => k_is)
    (case c12 => k_is)
    (case k12 => k_is)
    (case a13 => k_is)
    (case l13 => k_is)
    (case c13 => k_is)
    (case k13 => k_is)
    (case a14 => k_is)
    (case l14 => k_is)
    (case c14 => k_is)
    (case k14 => k_is)
    (case a15 => k_is)
    (case l15 => k_is)
    (case c15 => k_is)
    (case k15 => k_is)
    (case a16 => k_is)
    (case fn16 => k_is)
    (case l16 => k_is)
    (case c16 => k_is)
    (case k16 => k_is)
    (case a17 => k_is)
    (case fn17 => k_is)
    (case l17 => k_is)
    (case c17 => k_is)
    (case k17 => k_is)
    (case a18 => k_is)
    (case fn18 => k_is)
    (case l18 => k_is)
    (case c18 => k_is)
    (case k18 => k_is)
    (case a19 => k_is)
    (case fn19 => k_is)
    (case l19 => k_is)
    (case c19 => k_is)
    (case k19 => k_is)
    (case a20 => k_is)
    (case fn20 => k_is)
    (case l20 => k_is)
    (case c20 => k_is)
    (case k20 => k_is)
    (case a21 => k_is)
    (case fn21 => k_is)
    (case l21 => k_is)
    (case c21 => k_is)
    (case k21 => k_is)
    (case a22 => k_is)
    (case fn22 => k_is)
    (case l22 => k_is)
    (case c22 => k_is)
    (case k22 => k_is)
    (case a23 => k_is)
    (case fn23 => k_is)
    (case l23 => k_is)
    (case c23 => k_is)
    (case k23 => k_is)
    (case a24 => k_is)
    (case fn24 => k_is)
    (case l24 => k_is)
    (case c24 => k_is)
    (case k24 => k_is)
    (case a25 => k_is)
    (case fn25 => k_is)
    (case l25 => k_is)
    (case c25 => k_is)
    (case k25 => k_is)
    (case a26 => k_is)
    (case fn26 => k_is)
    (case l26 => k_is)
    (case c26 => k_is)
    (case k26 => k_is)
    (case a27 => k_is)
    (case fn27 => k_is)
    (case l27 => k_is)
    (case c27 => k_is)
    (case k27 => k_is)
    (case a28 => k_is)
    (case l28 => k_is)
    (case c28 => k_is)
    (case k28 => k_is)
    (case a29 => k_is)
    (case l29 => k_is)
    (case c29 => k_is)
    (case k29 => k_is)
    (case a30 => k_is)
    (case l30 => k_is)
    (case c30 => k_is)
    (case k30 => k_is)
    (case z_ValueError => k_is)
    (case z_bool => k_is)
    (case z_enumerate => k_is)
    (case z_int => k_is)
    (case z_isinstance => k_is)
    (case z_len => k_is)
    (case z_list => k_is)
    (case z_range => k_is)
    (case z_str => k_is)
    (case z_tuple => k_is)
    (case z_MOST_CHANGES => k_is)
    (case z_MOST_CHOICES => k_is)
    (case z_MOST_COST => k_is)
    (case z_MOST_ENDS => k_is)
    (case z_MOST_STATES => k_is)
    (case z_MOST_WEIGHT => k_is)
    (case m_BestoddsError => k_is)
    (case y_BestoddsError => k_is)
    (case m_BenchError => k_is)
    (case y_BenchError => k_is)
    (case m_TooManyChanges => k_is)
    (case y_TooManyChanges => k_is)
    (case h_NoSuchState_BestoddsError => first | kernel_rfl | exact Eq.refl _)
    (case h_NoSuchChoice_BestoddsError => first | kernel_rfl | exact Eq.refl _)
    (case h_InvalidSystem_BestoddsError => first | kernel_rfl | exact Eq.refl _)
    (case h_TooManyChanges_BestoddsError => first | kernel_rfl | exact Eq.refl _)
    (case j_NoSuchState_NoSuchState => first | kernel_rfl | exact Eq.refl _)
    (case j_NoSuchState_NoSuchChoice => first | kernel_rfl | exact Eq.refl _)
    (case j_NoSuchState_InvalidSystem => first | kernel_rfl | exact Eq.refl _)
    (case j_NoSuchState_TooManyChanges => first | kernel_rfl | exact Eq.refl _)
    (case j_NoSuchState_ValueError => first | kernel_rfl | exact Eq.refl _)
    (case j_NoSuchState_BenchError => first | kernel_rfl | exact Eq.refl _)
    (case j_NoSuchChoice_NoSuchState => first | kernel_rfl | exact Eq.refl _)
    (case j_NoSuchChoice_NoSuchChoice => first | kernel_rfl | exact Eq.refl _)
    (case j_NoSuchChoice_InvalidSystem => first | kernel_rfl | exact Eq.refl _)
    (case j_NoSuchChoice_TooManyChanges => first | kernel_rfl | exact Eq.refl _)
    (case j_NoSuchChoice_ValueError => first | kernel_rfl | exact Eq.refl _)
    (case j_NoSuchChoice_BenchError => first | kernel_rfl | exact Eq.refl _)
    (case j_InvalidSystem_NoSuchState => first | kernel_rfl | exact Eq.refl _)
    (case j_InvalidSystem_NoSuchChoice => first | kernel_rfl | exact Eq.refl _)
    (case j_InvalidSystem_InvalidSystem => first | kernel_rfl | exact Eq.refl _)
    (case j_InvalidSystem_TooManyChanges => first | kernel_rfl | exact Eq.refl _)
    (case j_InvalidSystem_ValueError => first | kernel_rfl | exact Eq.refl _)
    (case j_InvalidSystem_BenchError => first | kernel_rfl | exact Eq.refl _)
    (case j_TooManyChanges_NoSuchState => first | kernel_rfl | exact Eq.refl _)
    (case j_TooManyChanges_NoSuchChoice => first | kernel_rfl | exact Eq.refl _)
    (case j_TooManyChanges_InvalidSystem => first | kernel_rfl | exact Eq.refl _)
    (case j_TooManyChanges_TooManyChanges => first | kernel_rfl | exact Eq.refl _)
    (case j_TooManyChanges_ValueError => first | kernel_rfl | exact Eq.refl _)
    (case j_TooManyChanges_BenchError => first | kernel_rfl | exact Eq.refl _)
    (case xc_NoSuchState => first | kernel_rfl | exact Eq.refl true)
    (case xc_NoSuchChoice => first | kernel_rfl | exact Eq.refl true)
    (case xc_InvalidSystem => first | kernel_rfl | exact Eq.refl true)
    (case xc_TooManyChanges => first | kernel_rfl | exact Eq.refl true)
    (case pg_Bench => k_is)
    (case hd_Bench => k_is)
    (case po_Bench => k_is)
    (case sa_Bench => k_is)
    (case nf_Bench__now => k_is)
    (case nf_Bench__past => k_is)
    (case nf_Bench__ahead => k_is)
    (case nf_Bench__wishes => k_is)
    (case nf_Bench__many_solved => k_is)
    (case mk_Bench => k_is)
    (case kc_Bench => k_is)

