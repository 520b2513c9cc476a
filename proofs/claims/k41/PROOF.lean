import PyProof.Rows.All
import Wide.All
import OpenK.AllK
import Wide.FinOn
import HandS.ForMost
import HandS.IsInst
import HandS.Wide
import HandS.Gcd
import HandS.Codes
import HandS.Style
import HandS.TupMul
import HandS.TupAny
import KE.GoesNew
import KE.GoesMore
import HandS.Conv
import HandS.SortInts
import HandS.DictTup
import HandS.ForExc
import HandS.ExcInit
import HandS.Small
import KE.KExcIs
import HandS.Text
import HandS.StrMore
import HandS.FStr
import PyProof.StrOps2
import HandS.Rev
import HandS.MapJoin
import HandS.ExcValue
import HandS.ExcField
import HandS.ExcIs
import HandS.TryMany
import HandS.NoneIn
import HandS.Star
import HandS.Iter
import HandS.List
import Flt.Len
import HandS.DictComp
import HandS.Deep
import KE.SortData
import KE.KDictKeyed
import HandS.TupLen
import KE.KUnpackStar
import HandS.TupLe
import HandS.StrSplit
import PyProof.StrLawsTight
import PyProof.Rows.StrNews2
import KE.IntTextLaws
import KE.OsScanText
import PySem.Challenge.RW_bestodds_k41_quotients
set_option Elab.async false
set_option linter.all false
set_option maxRecDepth 100000
set_option maxHeartbeats 4000000
namespace Bo
open PySem L2

/-! ### readings, step by step -/
section
variable {σ : L2.St} {H : Hp} {Q : VK} {D : Ends} {ta tb te : TE} {t u : TS} {tt tu : TT} {K : PySem.W.Frag}
theorem r_seq (h : t { D with nx := u D } σ H) : tSeq t u D σ H := h
theorem r_asg {g : TG} (h : te σ H fun x H1 => g x σ H1 D.nx) : tAsg te g D σ H := h
theorem r_name {i : Nat} {v : V} {R : L2.St → Hp → Prop} (h : R (σ.set i (some v)) H) : gName i v σ H R := h
theorem r_var {i : Nat} (h : ∃ v, σ[i]? = some (some v) ∧ Q v H) : tVar i σ H Q := h
theorem r_c {v : V} (h : Q v H) : tC v σ H Q := h
theorem r_op {r : R2} (h : ta σ H fun x H1 => tb σ H1 fun y H2 => r x y H2 Q) : tOp r ta tb σ H Q := h
theorem r_un {r : V → Hp → VK → Prop} (h : ta σ H fun x H1 => r x H1 Q) : tUn r ta σ H Q := h
theorem r_i0 {g : Int → Int → V} {i j : Int} (h : Q (g i j) H) : rI0 g (.int i) (.int j) H Q := ⟨i, j, rfl, rfl, h⟩
theorem r_iC {C : Int → Int → Prop} {g : Int → Int → V} {i j : Int} (c : C i j) (h : Q (g i j) H) : rI C g (.int i) (.int j) H Q := ⟨i, j, rfl, rfl, c, h⟩
theorem r_u {g : Int → V} {i : Int} (h : Q (g i) H) : rU g (.int i) H Q := ⟨i, rfl, h⟩
theorem r_eqI {i j : Int} (h : Q (.bl (decide (i = j))) H) : rEq (.int i) (.int j) H Q := by
  refine ⟨rfl, ?_⟩
  have e : decide (V.int i = V.int j) = decide (i = j) := by
    by_cases q : i = j
    · subst q; simp
    · rw [decide_eq_false q, decide_eq_false fun z => q (V.int.inj z)]
  rw [e]
  exact h
theorem r_neI {i j : Int} (h : Q (.bl (!decide (i = j))) H) : rNe (.int i) (.int j) H Q := by
  refine ⟨rfl, ?_⟩
  have e : decide (V.int i = V.int j) = decide (i = j) := by
    by_cases q : i = j
    · subst q; simp
    · rw [decide_eq_false q, decide_eq_false fun z => q (V.int.inj z)]
  rw [e]
  exact h
theorem r_eqS {i j : Str} (h : Q (.bl (decide (i = j))) H) : rEq (.str i) (.str j) H Q := by
  refine ⟨rfl, ?_⟩
  have e : decide (V.str i = V.str j) = decide (i = j) := by
    by_cases q : i = j
    · subst q; simp
    · rw [decide_eq_false q, decide_eq_false fun z => q (V.str.inj z)]
  rw [e]
  exact h
theorem r_eqB {i j : Bool} (h : Q (.bl (decide (i = j))) H) : rEq (.bl i) (.bl j) H Q := by
  refine ⟨rfl, ?_⟩
  have e : decide (V.bl i = V.bl j) = decide (i = j) := by
    by_cases q : i = j
    · subst q; simp
    · rw [decide_eq_false q, decide_eq_false fun z => q (V.bl.inj z)]
  rw [e]
  exact h
theorem r_tst {R : Bool → Hp → Prop} (h : te σ H fun x H' => ∃ k, x = .bl k ∧ R k H') : tTest te σ H R := h
theorem r_tB {R : Bool → Hp → Prop} (h : te σ H fun x H' => ∃ k, x = .bl k ∧ R k H') : tB te σ H R := h
theorem r_bl {b : Bool} {R : Bool → Prop} (h : R b) : ∃ k, V.bl b = .bl k ∧ R k := ⟨b, rfl, h⟩
theorem r_not {R : Bool → Hp → Prop} (h : tt σ H fun c H1 => R (!c) H1) : tNot tt σ H R := h
theorem r_and {R : Bool → Hp → Prop} (h : tt σ H fun c H1 => if c = true then tu σ H1 R else R false H1) : tAnd tt tu σ H R := h
theorem r_or {R : Bool → Hp → Prop} (h : tt σ H fun c H1 => if c = true then R true H1 else tu σ H1 R) : tOr tt tu σ H R := h
theorem r_andV (h : ta σ H fun x H1 => ∃ c, x = .bl c ∧ if c = true then tb σ H1 Q else Q (.bl false) H1) : tAndV ta tb σ H Q := h
theorem r_orV (h : ta σ H fun x H1 => ∃ c, x = .bl c ∧ if c = true then Q (.bl true) H1 else tb σ H1 Q) : tOrV ta tb σ H Q := h
theorem r_notV (h : ta σ H fun x H1 => ∃ c, x = .bl c ∧ Q (.bl (!c)) H1) : tNotV ta σ H Q := h
theorem r_ifs (h : tt σ H fun b H1 => if b = true then t D σ H1 else u D σ H1) : tIfS tt t u D σ H := h
theorem r_ifE (h : tt σ H fun c H1 => if c = true then ta σ H1 Q else tb σ H1 Q) : tIf tt ta tb σ H Q := h
theorem r_ret (h : te σ H D.rt) : tRet te D σ H := h
theorem r_retN (h : D.rt .non H) : tRetN D σ H := h
theorem r_next (h : D.nx σ H) : tNext D σ H := h
theorem r_brk (h : D.bk σ H) : tBreak D σ H := h
theorem r_cont (h : D.ct σ H) : tCont D σ H := h
theorem r_drop (h : te σ H fun _ H1 => D.nx σ H1) : tDrop te D σ H := h
theorem r_nil {R : List V → Hp → Prop} (h : R [] H) : tNil σ H R := h
theorem r_cons {tr : TA} {R : List V → Hp → Prop} (h : ta σ H fun x H1 => tr σ H1 fun xs H2 => R (x :: xs) H2) : tCons ta tr σ H R := h
theorem r_tup {tA : TA} (h : tA σ H fun xs H1 => xs.length ≤ sizeLine ∧ ∀ p, H1 p = none → Q (.ref p) (upd H1 p (.tup xs))) : tTup tA σ H Q := h
theorem r_lst {tA : TA} (h : tA σ H fun xs H1 => xs.length ≤ sizeLine ∧ ∀ p, H1 p = none → Q (.ref p) (upd H1 p (.lst xs))) : tLst tA σ H Q := h
theorem r_cb {r : List V → Hp → VK → Prop} {tA : TA} (h : tA σ H fun vs H1 => r vs H1 Q) : tCB r tA σ H Q := h
theorem r_call {sp : Sp} {E : XK} {tA : TA} (h : tA σ H fun vs H1 => sp (vs ++ []) H1 Q E) : tCall sp [] E tA σ H Q := h
theorem r_gsub {to ti : TE} {ts : TSet} {v : V} {R : L2.St → Hp → Prop} (h : to σ H fun o H1 => ti σ H1 fun i H2 => ts o i v H2 fun H3 => R σ H3) : gSub to ti ts v σ H R := h
theorem r_ixQT {p : Addr} {xs : List V} {i : Int} {v : V} (s : SqT K H p xs) (a : atI xs i = some v) (h : Q v H) : rIx K (.ref p) (.int i) H Q := .inr (.inl ⟨p, xs, i, v, rfl, rfl, s, a, h⟩)
theorem r_ixQL {p : Addr} {xs : List V} {i : Int} {v : V} (s : SqL K H p xs) (a : atI xs i = some v) (h : Q v H) : rIx K (.ref p) (.int i) H Q := .inl ⟨p, xs, i, v, rfl, rfl, s, a, h⟩
theorem r_bm {T : String} {r : V → List V → Hp → VK → Prop} {tA : TA} (h : ta σ H fun x H1 => tyV K T x H1 ∧ tA σ H1 fun xs H2 => r x xs H2 Q) : tBM K T r ta tA σ H Q := h
theorem r_bm0 {T : String} {r : V → List V → Hp → VK → Prop} (h : ta σ H fun x H1 => tyV K T x H1 ∧ r x [] H1 Q) : tBM0 K T r ta σ H Q := h
theorem r_dput {td ty : TE} (h : te σ H fun v H1 => td σ H1 fun x H2 => ty σ H2 fun y H3 => ∃ a H4, x = .ref a ∧ DPut H3 a y v H4 ∧ D.nx σ H4) : sDPut td ty te D σ H := h
theorem r_dnew (h : ∀ p, H p = none → Q (.ref p) (upd H p (.dK []))) : tDNewK σ H Q := h
theorem r_chain {r r' : R2} {tc : TE} (h : ta σ H fun x H1 => tb σ H1 fun y H2 => r x y H2 fun z H3 => ∃ k, z = .bl k ∧ if k = true then tc σ H3 fun v H4 => r' y v H4 Q else Q (.bl false) H3) : tChain r r' ta tb tc σ H Q := h
theorem r_for {wi : TI} {g : TG} {b : TS} (h : wi σ H fun J H1 => ∃ W : Nat → Nat → L2.St → Hp → Prop, (∃ m, W 0 m σ H1) ∧ ∀ i m σ H, W i m σ H →
    (J.stop i H ∧ D.nx σ H) ∨ (J.go i H ∧ ∃ N : L2.St → Hp → Prop, (∀ σ' H', N σ' H' → ∃ m', m' < m ∧ W (i + 1) m' σ' H') ∧ ∀ x H', J.yld i H x H' → g x σ H' fun σ2 H2 => b { D with nx := N, ct := N, bk := D.nx } σ2 H2)) : tFor wi g b D σ H := h
theorem r_iList {R : It → Hp → Prop} (h : te σ H fun x H1 => ∃ a, x = .ref a ∧ (∃ xs, SqL K H1 a xs) ∧ R (Itl K a) H1) : iList K te σ H R := h
theorem r_iTup {R : It → Hp → Prop} (h : te σ H fun x H1 => ∃ a, x = .ref a ∧ (∃ xs, SqT K H1 a xs) ∧ R (Itt K a) H1) : iTup K te σ H R := h
theorem r_rng1 {tA : TA} {R : It → Hp → Prop} (h : tA σ H fun vs H1 => ∃ j : Int, vs = [.int j] ∧ -(2 ^ 62) ≤ j ∧ j < 2 ^ 62 ∧ R (Itr 0 j.toNat) H1) : iRng1 tA σ H R := h
theorem r_rng2 {tA : TA} {R : It → Hp → Prop} (h : tA σ H fun vs H1 => ∃ i j : Int, vs = [.int i, .int j] ∧ (-(2 ^ 62) ≤ i ∧ i < 2 ^ 62 ∧ -(2 ^ 62) ≤ j ∧ j < 2 ^ 62) ∧ R (Itr i (j - i).toNat) H1) : iRng2 tA σ H R := h
theorem r_if {c : Prop} [Decidable c] {A B : Prop} (h1 : c → A) (h2 : ¬ c → B) : if decide c = true then A else B := by
  by_cases h : c
  · rw [decide_eq_true h, if_pos rfl]
    exact h1 h
  · rw [decide_eq_false h, if_neg Bool.false_ne_true]
    exact h2 h
theorem r_ifN {c : Prop} [Decidable c] {A B : Prop} (h1 : ¬ c → A) (h2 : c → B) : if (!decide c) = true then A else B := by
  by_cases h : c
  · rw [decide_eq_true h]
    exact h2 h
  · rw [decide_eq_false h]
    exact h1 h
theorem r_ifT {A B : Prop} (h : A) : if true = true then A else B := h
theorem r_ifF {A B : Prop} (h : B) : if false = true then A else B := h
theorem r_ifNT {A B : Prop} (h : B) : if (!true) = true then A else B := h
theorem r_ifNF {A B : Prop} (h : A) : if (!false) = true then A else B := h
end

section
variable {σ : L2.St} {H : Hp} {D : Ends} {t u : TS}
end
/-! ### division by any int that is not nought -/
def CDivX (_ j : Int) : Prop := j ≠ 0 ∧ j.natAbs.log2 < 9000
theorem op_fdivX {X : Cx} : OpR X (binaryOp .FloorDiv) (rI CDivX fun i j => .int (i.fdiv j)) := opI fun _ _ _ _ _ _ _ hc q => PyProof.Rows.floordiv_int hc.1 q (.inl (PyProof.noPylong_of_log2 hc.2))

/-! ### heaps -/
section
variable {K : PySem.W.Frag} {H H' H1 : Hp} {a b p q : Addr} {xs ys : List V} {o : HO}
theorem sm_t (e : Same H H') (h : SqT K H a xs) : SqT K H' a xs := by
  rcases h with (h | ⟨o, h⟩) | h
  · exact .inl (.inl (e _ _ h))
  · exact .inl (.inr ⟨o, e _ _ h⟩)
  · exact .inr h
theorem sm_l (e : Same H H') (h : SqL K H a xs) : SqL K H' a xs := e.seq h
theorem sm_new (h : H p = none) : Same H (upd H p o) := fun b u e => by
  rw [upd_ne (ne_of_none e h)]
  exact e
end

/-! ### rules whose reading names K outright (within a comprehension) -/
section
variable {X : Cx}
theorem ixT (K : PySem.W.Frag) (h : X.K = K := by rfl) : IxR X (rIxT K) := by
  subst h
  exact ix_tup
theorem ixL (K : PySem.W.Frag) (h : X.K = K := by rfl) : IxR X (rIxL K) := by
  subst h
  exact ix_list
end
/-! ### what is kept but for the list at p; tuples -/
def Fm (p : Addr) (H H' : Hp) : Prop := ∀ b o, b ≠ p → H b = some o → H' b = some o
section
variable {K : PySem.W.Frag} {H H' H1 : Hp} {a b p q : Addr} {xs ys : List V} {o : HO}
theorem Fm.refl : Fm p H H := fun _ _ _ h => h
theorem Fm.trans (e : Fm p H H1) (f : Fm p H1 H') : Fm p H H' := fun b o n h => f b o n (e b o n h)
theorem Fm.free (e : Fm p H H') (n : a ≠ p) (h : H' a = none) : H a = none := by
  cases q : H a with
  | none => rfl
  | some u =>
    rw [e a u n q] at h
    cases h
/-- tuples are kept -/
def Tk (H H' : Hp) : Prop := ∀ b xs, (H b = some (.tup xs) → H' b = some (.tup xs)) ∧ ∀ o, H b = some (.frz o (.tup xs)) → H' b = some (.frz o (.tup xs))
theorem Tk.refl : Tk H H := fun _ _ => ⟨id, fun _ => id⟩
theorem Tk.trans (e : Tk H H1) (f : Tk H1 H') : Tk H H' := fun b xs => ⟨fun h => (f b xs).1 ((e b xs).1 h), fun o h => (f b xs).2 o ((e b xs).2 o h)⟩
theorem Fm.tk (e : Fm p H H') (h : H p = some (.lst ys)) : Tk H H' := fun b xs =>
  ⟨fun q => e b _ (ne_of q h (fun z => by cases z)) q, fun o q => e b _ (ne_of q h (fun z => by cases z)) q⟩
end

/-! ### data -/
section
variable {K : PySem.W.Frag} {H H' : Hp}
theorem dpa_len : ∀ {vs : List V} {ds : List PyData}, DpAll K H vs ds → vs.length = ds.length
  | _, _, .nil => rfl
  | _, _, .cons _ t => congrArg (· + 1) (dpa_len t)
theorem dpa_get : ∀ {vs : List V} {ds : List PyData} {i : Nat} {d : PyData}, DpAll K H vs ds → ds[i]? = some d → ∃ v, vs[i]? = some v ∧ Dp K H v d
  | _, _, _, _, .nil, e => by simp at e
  | _, _, 0, _, .cons h _, e => by
    simp at e
    subst e
    exact ⟨_, rfl, h⟩
  | _, _, i + 1, d, .cons _ t, e => by
    obtain ⟨v, h1, h2⟩ := dpa_get (i := i) (d := d) t (by simpa using e)
    exact ⟨v, by simpa using h1, h2⟩
/-- data without lists -/
inductive Tu : PyData → Prop
  | non : Tu .none
  | bl (b : Bool) : Tu (.bool b)
  | int (i : Int) : Tu (.int i)
  | str (x : Str) : Tu (.str x)
  | tup {ds : List PyData} (h : ∀ d, d ∈ ds → Tu d) : Tu (.tuple ds)
/-- the types of what is read -/
theorem tyx_t {a : Addr} {xs : List V} (s : SqT K H a xs) : TyX K H (.ref a) (.type "tuple") := by
  rcases s with (s | ⟨o, s⟩) | ⟨o, its, n, e, c, _⟩
  · exact .base (.tup s)
  · exact .fTuple s
  · exact .kTuple e c
theorem tyx_l {a : Addr} {xs : List V} (s : SqL K H a xs) : TyX K H (.ref a) (.type "list") := by
  rcases s with (s | ⟨o, s⟩) | ⟨o, its, n, e, c, _⟩
  · exact .base (.lst s)
  · exact .base (.frz s)
  · exact .kList e c
theorem r_isi {Q : VK} {x : V} {a c : String} (b : Bool) (ty : TyX K H x (.type a)) (e : kitB a c = some b) (h : Q (.bl b) H) : rIsi K [x, .ty c] H Q := ⟨x, .ty c, .type a, .type c, b, rfl, .ty c, ty, kit_ty e, h⟩
/-- data at most n deep -/
inductive Dn : Nat → PyData → Prop
  | non (n : Nat) : Dn n .none
  | bl (n : Nat) (b : Bool) : Dn n (.bool b)
  | int (n : Nat) (i : Int) : Dn n (.int i)
  | str (n : Nat) (x : Str) : Dn n (.str x)
  | tup {n : Nat} {ds : List PyData} (l : ds.length ≤ 100000) (h : ∀ d, d ∈ ds → Dn n d) : Dn (n + 1) (.tuple ds)
  | lst {n : Nat} {ds : List PyData} (l : ds.length ≤ 100000) (h : ∀ d, d ∈ ds → Dn n d) : Dn (n + 1) (.list ds)
theorem Dn.up : ∀ {n : Nat} {d : PyData}, Dn n d → Dn (n + 1) d
  | _, _, .non _ => .non _
  | _, _, .bl _ b => .bl _ b
  | _, _, .int _ i => .int _ i
  | _, _, .str _ x => .str _ x
  | _, _, .tup l h => .tup l fun d hd => (h d hd).up
  | _, _, .lst l h => .lst l fun d hd => (h d hd).up
end
end Bo

/-! ### what code is worth, as functions on plain values: lists that are changed belong to one slot each -/
namespace Bo
open PySem L2
/-! data that stand: lists and tuples that nobody changes -/
mutual
inductive Da (K : PySem.W.Frag) (B : Hp) : V → PyData → Prop
  | non : Da K B .non .none
  | bl (b : Bool) : Da K B (.bl b) (.bool b)
  | int (i : Int) : Da K B (.int i) (.int i)
  | str (x : Str) : Da K B (.str x) (.str x)
  | lst {a : Addr} {xs : List V} {ds : List PyData} (s : B a = some (.lst xs)) (h : DaAll K B xs ds) : Da K B (.ref a) (.list ds)
  | tup {a : Addr} {xs : List V} {ds : List PyData} (s : SqT K B a xs) (h : DaAll K B xs ds) : Da K B (.ref a) (.tuple ds)
inductive DaAll (K : PySem.W.Frag) (B : Hp) : List V → List PyData → Prop
  | nil : DaAll K B [] []
  | cons {v : V} {d : PyData} {vs : List V} {ds : List PyData} (h : Da K B v d) (t : DaAll K B vs ds) : DaAll K B (v :: vs) (d :: ds)
end
section
variable {K : PySem.W.Frag} {B B' : Hp}
mutual
theorem da_mono (e : Same B B') : ∀ {v : V} {d : PyData}, Da K B v d → Da K B' v d
  | _, _, .non => .non
  | _, _, .bl b => .bl b
  | _, _, .int i => .int i
  | _, _, .str x => .str x
  | _, _, .lst s a => .lst (e _ _ s) (daa_mono e a)
  | _, _, .tup s a => .tup (sm_t e s) (daa_mono e a)
theorem daa_mono (e : Same B B') : ∀ {vs : List V} {ds : List PyData}, DaAll K B vs ds → DaAll K B' vs ds
  | _, _, .nil => .nil
  | _, _, .cons h t => .cons (da_mono e h) (daa_mono e t)
end
mutual
theorem da_dp : ∀ {v : V} {d : PyData}, Da K B v d → Dp K B v d
  | _, _, .non => .non
  | _, _, .bl b => .bl b
  | _, _, .int i => .int i
  | _, _, .str x => .str x
  | _, _, .lst s a => .lst (SqL.of s) (daa_dp a)
  | _, _, .tup s a => .tup s (daa_dp a)
theorem daa_dp : ∀ {vs : List V} {ds : List PyData}, DaAll K B vs ds → DpAll K B vs ds
  | _, _, .nil => .nil
  | _, _, .cons h t => .cons (da_dp h) (daa_dp t)
end
theorem daa_len : ∀ {vs : List V} {ds : List PyData}, DaAll K B vs ds → vs.length = ds.length
  | _, _, .nil => rfl
  | _, _, .cons _ t => congrArg (· + 1) (daa_len t)
theorem daa_get : ∀ {vs : List V} {ds : List PyData} {i : Nat} {d : PyData}, DaAll K B vs ds → ds[i]? = some d → ∃ v, vs[i]? = some v ∧ Da K B v d
  | _, _, _, _, .nil, e => nomatch (show (none : Option PyData) = some _ from e)
  | _, _, 0, _, .cons h _, e => by
    cases (Option.some.inj e)
    exact ⟨_, rfl, h⟩
  | _, _, i + 1, d, .cons _ t, e => daa_get (i := i) (d := d) t e
theorem daa_at : ∀ {vs : List V} {ds : List PyData} {i : Nat} {v : V}, DaAll K B vs ds → vs[i]? = some v → ∃ d, ds[i]? = some d ∧ Da K B v d
  | _, _, _, _, .nil, e => nomatch (show (none : Option V) = some _ from e)
  | _, _, 0, _, .cons h _, e => by
    cases (Option.some.inj e)
    exact ⟨_, rfl, h⟩
  | _, _, i + 1, d, .cons _ t, e => daa_at (i := i) (v := d) t e
theorem daa_app : ∀ {vs ws : List V} {ds es : List PyData}, DaAll K B vs ds → DaAll K B ws es → DaAll K B (vs ++ ws) (ds ++ es)
  | _, _, _, _, .nil, s => s
  | _, _, _, _, .cons h t, s => .cons h (daa_app t s)
theorem daa_take : ∀ {vs : List V} {ds : List PyData} (n : Nat), DaAll K B vs ds → DaAll K B (vs.take n) (ds.take n)
  | _, _, 0, _ => .nil
  | _, _, _ + 1, .nil => .nil
  | _, _, n + 1, .cons h t => .cons h (daa_take n t)
theorem daa_drop : ∀ {vs : List V} {ds : List PyData} (n : Nat), DaAll K B vs ds → DaAll K B (vs.drop n) (ds.drop n)
  | _, _, 0, h => h
  | _, _, _ + 1, .nil => .nil
  | _, _, n + 1, .cons _ t => daa_drop n t
theorem daa_set : ∀ {vs : List V} {ds : List PyData} {v : V} {d : PyData} (i : Nat), DaAll K B vs ds → Da K B v d → DaAll K B (vs.set i v) (ds.set i d)
  | _, _, _, _, _, .nil, _ => .nil
  | _, _, _, _, 0, .cons _ t, h => .cons h t
  | _, _, _, _, i + 1, .cons g t, h => .cons g (daa_set i t h)
end
structure Exc where
  cls : String
  arg : Option PyData
inductive R (α : Type) where
  | ok (a : α)
  | err (e : Exc)
  | bad
namespace R
variable {α β : Type}
def bind (x : R α) (f : α → R β) : R β := match x with
  | .ok a => f a
  | .err e => .err e
  | .bad => .bad
@[simp] theorem bind_ok {a : α} {f : α → R β} : bind (.ok a) f = f a := rfl
@[simp] theorem bind_err {e : Exc} {f : α → R β} : bind (.err e) f = .err e := rfl
@[simp] theorem bind_bad {f : α → R β} : bind .bad f = .bad := rfl
/-- only where c holds -/
def when (c : Prop) [Decidable c] (x : R α) : R α := if c then x else .bad
@[simp] theorem when_pos {c : Prop} [Decidable c] {x : R α} (h : c) : when c x = x := if_pos h
theorem when_neg {c : Prop} [Decidable c] {x : R α} (h : ¬ c) : when c x = .bad := if_neg h
end R
/-- a slot's worth: data that stay, a list of its own, a dict of its own -/
inductive SV where
  | dat (d : PyData)
  | own (ds : List PyData)
  | dic (kvs : List (Key × PyData))
  | scr (ns : List Int)
def SV.mine : SV → Bool
  | .dat _ => false
  | .scr _ => false
  | _ => true
abbrev SS := List (Option SV)
/-- the entry: the heap, what of it stays, the boxes (the first parameters), what errors are to meet -/
structure Ct (K : PySem.W.Frag) (n : Nat) where
  H0 : Hp
  B0 : Hp
  bx : List (Option Addr)
  hbx : bx.length = n
  er : Exc → V → Hp → Prop
section
variable {K : PySem.W.Frag} {n : Nat}
structure Base (C : Ct K n) (H B : Hp) : Prop where
  keep : ∀ a o, some a ∉ C.bx → C.H0 a = some o → H a = some o
  b0 : Same C.B0 B
  bh : Same B H
  fr : ∀ a o, B a = some o → C.B0 a = some o ∨ C.H0 a = none
def DpKs (K : PySem.W.Frag) (B : Hp) (ws : List (Key × V)) (kvs : List (Key × PyData)) : Prop := Paired (fun w k => w.1 = k.1 ∧ Da K B w.2 k.2) ws kvs
def SR (C : Ct K n) (H B : Hp) (v : V) : SV → Prop
  | .scr ns => ∃ a, v = .ref a ∧ SqL K B a (ns.map V.int)
  | .dat d => Da K B v d
  | .own ds => ∃ a vs, v = .ref a ∧ H a = some (.lst vs) ∧ B a = none ∧ DaAll K B vs ds
  | .dic kvs => ∃ a ws, v = .ref a ∧ H a = some (.dK ws) ∧ B a = none ∧ DpKs K B ws kvs
structure Rep (C : Ct K n) (σ : L2.St) (H B : Hp) (S : SS) : Prop where
  base : Base C H B
  len : S.length = σ.length
  slot : ∀ (i : Nat) s, S[i]? = some (some s) → ∃ v, σ[i]? = some (some v) ∧ SR C H B v s
  dis : ∀ (i j : Nat) s u a, S[i]? = some (some s) → S[j]? = some (some u) → s.mine = true → u.mine = true → σ[i]? = some (some (.ref a)) → σ[j]? = some (some (.ref a)) → i = j
  ownf : ∀ (i : Nat) s a, S[i]? = some (some s) → s.mine = true → σ[i]? = some (some (.ref a)) → C.H0 a = none ∨ C.bx[i]? = some (some a)
  box : ∀ (i : Nat) a, C.bx[i]? = some (some a) → σ[i]? = some (some (.ref a)) ∧ ∃ s, S[i]? = some (some s) ∧ s.mine = true
/-- an error goes out -/
def Ct.Out (C : Ct K n) (e : Exc) : Prop := ∀ H B v, Base C H B → (∀ d, e.arg = some d → Da K B v d) → C.er e v H
def Post {α : Type} (C : Ct K n) (x : R α) (k : α → Prop) : Prop := match x with
  | .ok a => k a
  | .err e => C.Out e
  | .bad => False
section
variable {α β : Type} {C : Ct K n} {x : R α} {f : α → R β} {k k' : α → Prop} {g : β → Prop}
theorem post_bind : Post C (x.bind f) g ↔ Post C x fun a => Post C (f a) g := by cases x <;> exact Iff.rfl
theorem Post.mono (h : Post C x k) (m : ∀ a, k a → k' a) : Post C x k' := by
  cases x with
  | ok a => exact m a h
  | err e => exact h
  | bad => exact h
theorem post_when {c : Prop} [Decidable c] : Post C (R.when c x) k ↔ c ∧ Post C x k := by
  by_cases h : c
  · rw [R.when_pos h]
    exact ⟨fun q => ⟨h, q⟩, fun q => q.2⟩
  · rw [R.when_neg h]
    exact ⟨fun q => q.elim, fun q => (h q.1).elim⟩
end
/-! ### judgements: a reading's worth -/
abbrev VE := SS → R (PyData × SS)
abbrev VT := SS → R (Bool × SS)
abbrev VA := SS → R (List PyData × SS)
inductive FL where
  | nx (S : SS) | rt (d : PyData) (S : SS) | bk (S : SS) | ct (S : SS)
abbrev VS := SS → R FL
def SE (C : Ct K n) (t : TE) (f : VE) : Prop := ∀ (σ : L2.St) (H B : Hp) (S : SS) (Q : VK), Rep C σ H B S →
  Post C (f S) (fun p => ∀ v H' B', Rep C σ H' B' p.2 → Same B B' → Da K B' v p.1 → Q v H') → t σ H Q
def ST (C : Ct K n) (t : TT) (f : VT) : Prop := ∀ (σ : L2.St) (H B : Hp) (S : SS) (Q : Bool → Hp → Prop), Rep C σ H B S →
  Post C (f S) (fun p => ∀ H' B', Rep C σ H' B' p.2 → Same B B' → Q p.1 H') → t σ H Q
def SA (C : Ct K n) (t : TA) (f : VA) : Prop := ∀ (σ : L2.St) (H B : Hp) (S : SS) (Q : List V → Hp → Prop), Rep C σ H B S →
  Post C (f S) (fun p => ∀ vs H' B', Rep C σ H' B' p.2 → Same B B' → DaAll K B' vs p.1 → Q vs H') → t σ H Q
def FlPost (C : Ct K n) (B : Hp) (D : Ends) : FL → Prop
  | .nx S' => ∀ σ' H' B', Rep C σ' H' B' S' → Same B B' → D.nx σ' H'
  | .rt d S' => ∀ v σ' H' B', Rep C σ' H' B' S' → Same B B' → Da K B' v d → D.rt v H'
  | .bk S' => ∀ σ' H' B', Rep C σ' H' B' S' → Same B B' → D.bk σ' H'
  | .ct S' => ∀ σ' H' B', Rep C σ' H' B' S' → Same B B' → D.ct σ' H'
def SSt (C : Ct K n) (t : TS) (f : VS) : Prop := ∀ (σ : L2.St) (H B : Hp) (S : SS) (D : Ends), Rep C σ H B S → Post C (f S) (FlPost C B D) → t D σ H
/-! ### the state under changes -/
section
variable {C : Ct K n} {σ : L2.St} {H B : Hp} {S : SS}
theorem Rep.own_at (R : Rep C σ H B S) {i : Nat} {s : SV} (h : S[i]? = some (some s)) (m : s.mine = true) : ∃ a o, σ[i]? = some (some (.ref a)) ∧ H a = some o ∧ B a = none := by
  obtain ⟨v, hv, r⟩ := R.slot i s h
  cases s with
  | dat d => cases m
  | scr ns => cases m
  | own ds =>
    obtain ⟨a, vs, rfl, h1, h2, _⟩ := r
    exact ⟨a, _, hv, h1, h2⟩
  | dic ds =>
    obtain ⟨a, vs, rfl, h1, h2, _⟩ := r
    exact ⟨a, _, hv, h1, h2⟩
theorem Rep.new (R : Rep C σ H B S) {p : Addr} (hp : H p = none) : C.H0 p = none ∧ B p = none ∧ some p ∉ C.bx := by
  have nb : some p ∉ C.bx := fun hb => by
    obtain ⟨i, hi⟩ := List.getElem?_of_mem hb
    obtain ⟨e, s, hs, m⟩ := R.box i p hi
    obtain ⟨a, o, e2, h2, _⟩ := R.own_at hs m
    rw [e] at e2
    cases e2
    rw [hp] at h2
    cases h2
  refine ⟨?_, ?_, nb⟩
  · cases q : C.H0 p with
    | none => rfl
    | some o =>
      rw [R.base.keep p o nb q] at hp
      cases hp
  · cases q : B p with
    | none => rfl
    | some o =>
      rw [R.base.bh p o q] at hp
      cases hp
theorem dpks_mono {B B' : Hp} (e : Same B B') : ∀ {ws : List (Key × V)} {ks : List (Key × PyData)}, DpKs K B ws ks → DpKs K B' ws ks
  | _, _, .nil => .nil
  | _, _, .cons h t => .cons ⟨h.1, da_mono e h.2⟩ (dpks_mono e t)
theorem SR.mono {H' B' : Hp} {v : V} {s : SV} (eB : Same B B') (hh : s.mine = true → ∀ a, v = .ref a → ∀ o, H a = some o → B a = none → H' a = some o ∧ B' a = none) (h : SR C H B v s) : SR C H' B' v s := by
  cases s with
  | dat d => exact da_mono eB h
  | scr ns =>
    obtain ⟨a, e, q⟩ := h
    exact ⟨a, e, sm_l eB q⟩
  | own ds =>
    obtain ⟨a, vs, rfl, h1, h2, h3⟩ := h
    obtain ⟨q1, q2⟩ := hh rfl a rfl _ h1 h2
    exact ⟨a, vs, rfl, q1, q2, daa_mono eB h3⟩
  | dic ds =>
    obtain ⟨a, vs, rfl, h1, h2, h3⟩ := h
    obtain ⟨q1, q2⟩ := hh rfl a rfl _ h1 h2
    exact ⟨a, vs, rfl, q1, q2, dpks_mono eB h3⟩
/-- the heaps grow (or change where nothing of ours stands) -/
theorem Rep.grow {H' B' : Hp} (R : Rep C σ H B S) (b : Base C H' B') (eB : Same B B') (hh : ∀ a o, H a = some o → B a = none → (∃ i : Nat, ∃ s, S[i]? = some (some s) ∧ s.mine = true ∧ σ[i]? = some (some (.ref a))) → H' a = some o ∧ B' a = none) : Rep C σ H' B' S :=
  ⟨b, R.len, fun i s h => by
    obtain ⟨v, hv, r⟩ := R.slot i s h
    exact ⟨v, hv, SR.mono eB (fun m a e o h1 h2 => hh a o h1 h2 ⟨i, s, h, m, by rw [hv, e]⟩) r⟩, R.dis, R.ownf, R.box⟩
/-- a new thing that stays -/
theorem Rep.laid (R : Rep C σ H B S) {p : Addr} {o : HO} (hp : H p = none) : Rep C σ (upd H p o) (upd B p o) S ∧ Same B (upd B p o) := by
  obtain ⟨h0, hb, nb⟩ := R.new hp
  have eB : Same B (upd B p o) := sm_new hb
  refine ⟨R.grow ⟨fun a u n q => ?_, R.base.b0.trans eB, fun a u q => ?_, fun a u q => ?_⟩ eB fun a u h1 h2 _ => ?_, eB⟩
  · rw [upd_ne (ne_of_none q h0)]
    exact R.base.keep a u n q
  · by_cases e : a = p
    · subst e
      rw [upd_same] at q ⊢
      exact q
    · rw [upd_ne e] at q ⊢
      exact R.base.bh a u q
  · by_cases e : a = p
    · subst e
      exact .inr h0
    · rw [upd_ne e] at q
      exact R.base.fr a u q
  · have n := ne_of_none h1 hp
    rw [upd_ne n, upd_ne n]
    exact ⟨h1, h2⟩
/-- a new thing that does not stay (it may be taken by a slot) -/
theorem Rep.loose (R : Rep C σ H B S) {p : Addr} {o : HO} (hp : H p = none) : Rep C σ (upd H p o) B S := by
  obtain ⟨h0, hb, nb⟩ := R.new hp
  refine R.grow ⟨fun a u n q => ?_, R.base.b0, fun a u q => ?_, R.base.fr⟩ (Same.refl _) fun a u h1 h2 _ => ?_
  · rw [upd_ne (ne_of_none q h0)]
    exact R.base.keep a u n q
  · rw [upd_ne (ne_of_none q hb)]
    exact R.base.bh a u q
  · rw [upd_ne (ne_of_none h1 hp)]
    exact ⟨h1, h2⟩
/-- a slot is stored: data -/
theorem Rep.put (R : Rep C σ H B S) {i : Nat} {v : V} {d : PyData} (hb : n ≤ i) (h : Da K B v d) : Rep C (σ.set i (some v)) H B (S.set i (some (.dat d))) := by
  have ne : ∀ j s, (S.set i (some (.dat d)))[j]? = some (some s) → s.mine = true → j ≠ i ∧ S[j]? = some (some s) := fun j s h m => by
    by_cases e : j = i
    · subst e
      have hl : j < S.length := by
        have := (List.getElem?_eq_some_iff.mp h).1
        simpa using this
      rw [List.getElem?_set_self hl] at h
      cases h
      cases m
    · rw [List.getElem?_set_ne (Ne.symm e)] at h
      exact ⟨e, h⟩
  refine ⟨R.base, by simp [R.len], fun j s h2 => ?_, fun j k s u a h1 h2 m1 m2 e1 e2 => ?_, fun j s a h1 m e => ?_, fun j a h1 => ?_⟩
  · by_cases e : j = i
    · subst e
      have hl : j < S.length := by
        have := (List.getElem?_eq_some_iff.mp h2).1
        simpa using this
      rw [List.getElem?_set_self hl] at h2
      cases h2
      exact ⟨v, List.getElem?_set_self (by rw [← R.len]; exact hl), h⟩
    · rw [List.getElem?_set_ne (Ne.symm e)] at h2 ⊢
      exact R.slot j s h2
  · obtain ⟨n1, q1⟩ := ne j s h1 m1
    obtain ⟨n2, q2⟩ := ne k u h2 m2
    rw [List.getElem?_set_ne (Ne.symm n1)] at e1
    rw [List.getElem?_set_ne (Ne.symm n2)] at e2
    exact R.dis j k s u a q1 q2 m1 m2 e1 e2
  · obtain ⟨n1, q1⟩ := ne j s h1 m
    rw [List.getElem?_set_ne (Ne.symm n1)] at e
    exact R.ownf j s a q1 m e
  · have n1 : j ≠ i := by
      have := (List.getElem?_eq_some_iff.mp h1).1
      have := C.hbx
      omega
    rw [List.getElem?_set_ne (Ne.symm n1), List.getElem?_set_ne (Ne.symm n1)]
    exact R.box j a h1
/-- a slot takes a new list or dict -/
theorem Rep.take (R : Rep C σ H B S) {i : Nat} {p : Addr} {s : SV} (hb : n ≤ i) (m : s.mine = true) (h : SR C H B (.ref p) s) (h0 : C.H0 p = none)
    (hf : ∀ (j : Nat) u, S[j]? = some (some u) → u.mine = true → σ[j]? ≠ some (some (.ref p))) : Rep C (σ.set i (some (.ref p))) H B (S.set i (some s)) := by
  have at_ : ∀ j u, (S.set i (some s))[j]? = some (some u) → (j = i ∧ u = s ∧ (σ.set i (some (.ref p)))[j]? = some (some (.ref p))) ∨ (j ≠ i ∧ S[j]? = some (some u) ∧ (σ.set i (some (.ref p)))[j]? = σ[j]?) := fun j u h => by
    by_cases e : j = i
    · subst e
      have hl : j < S.length := by
        have := (List.getElem?_eq_some_iff.mp h).1
        simpa using this
      rw [List.getElem?_set_self hl] at h
      cases h
      exact .inl ⟨rfl, rfl, List.getElem?_set_self (by rw [← R.len]; exact hl)⟩
    · rw [List.getElem?_set_ne (Ne.symm e)] at h
      exact .inr ⟨e, h, List.getElem?_set_ne (Ne.symm e)⟩
  refine ⟨R.base, by simp [R.len], fun j u h2 => ?_, fun j k u w a h1 h2 m1 m2 e1 e2 => ?_, fun j u a h1 m e => ?_, fun j a h1 => ?_⟩
  · rcases at_ j u h2 with ⟨e, e2, e3⟩ | ⟨n, q, e3⟩
    · subst e2
      exact ⟨_, e3, h⟩
    · rw [e3]
      exact R.slot j u q
  · rcases at_ j u h1 with ⟨x1, x2, x3⟩ | ⟨x1, x2, x3⟩
    · rcases at_ k w h2 with ⟨y1, y2, y3⟩ | ⟨y1, y2, y3⟩
      · rw [x1, y1]
      · rw [x3] at e1
        cases e1
        rw [y3] at e2
        exact absurd e2 (hf k w y2 m2)
    · rcases at_ k w h2 with ⟨y1, y2, y3⟩ | ⟨y1, y2, y3⟩
      · rw [y3] at e2
        cases e2
        rw [x3] at e1
        exact absurd e1 (hf j u x2 m1)
      · rw [x3] at e1
        rw [y3] at e2
        exact R.dis j k u w a x2 y2 m1 m2 e1 e2
  · rcases at_ j u h1 with ⟨x1, x2, x3⟩ | ⟨x1, x2, x3⟩
    · rw [x3] at e
      cases e
      exact .inl h0
    · rw [x3] at e
      exact R.ownf j u a x2 m e
  · have n1 : j ≠ i := by
      have := (List.getElem?_eq_some_iff.mp h1).1
      have := C.hbx
      omega
    rw [List.getElem?_set_ne (Ne.symm n1), List.getElem?_set_ne (Ne.symm n1)]
    exact R.box j a h1
/-- a list or dict of a slot is changed -/
theorem Rep.write (R : Rep C σ H B S) {i : Nat} {a : Addr} {s s' : SV} {o : HO} (h : S[i]? = some (some s)) (m : s.mine = true) (m' : s'.mine = true) (hv : σ[i]? = some (some (.ref a))) (r : SR C (upd H a o) B (.ref a) s') :
    Rep C σ (upd H a o) B (S.set i (some s')) := by
  obtain ⟨a', o', e1, e2, e3⟩ := R.own_at h m
  rw [hv] at e1
  cases e1
  have hl : i < S.length := (List.getElem?_eq_some_iff.mp h).1
  have at_ : ∀ j u, (S.set i (some s'))[j]? = some (some u) → (j = i ∧ u = s') ∨ (j ≠ i ∧ S[j]? = some (some u)) := fun j u h => by
    by_cases e : j = i
    · subst e
      rw [List.getElem?_set_self hl] at h
      cases h
      exact .inl ⟨rfl, rfl⟩
    · rw [List.getElem?_set_ne (Ne.symm e)] at h
      exact .inr ⟨e, h⟩
  have old : ∀ (j : Nat) (u : SV), (S.set i (some s'))[j]? = some (some u) → u.mine = true → ∃ u' : SV, S[j]? = some (some u') ∧ u'.mine = true := fun j u h2 m2 => by
    rcases at_ j u h2 with ⟨x1, x2⟩ | ⟨x1, x2⟩
    · subst x1
      exact ⟨s, h, m⟩
    · exact ⟨u, x2, m2⟩
  refine ⟨⟨fun b u n q => ?_, R.base.b0, fun b u q => ?_, R.base.fr⟩, by simp [R.len], fun j u h2 => ?_, fun j k u w b h1 h2 m1 m2 q1 q2 => ?_, fun j u b h1 m e => ?_, fun j b h1 => ?_⟩
  · have : b ≠ a := by
      rintro rfl
      rcases R.ownf i s b h m hv with z | z
      · rw [z] at q
        cases q
      · exact n (List.mem_of_getElem? z)
    rw [upd_ne this]
    exact R.base.keep b u n q
  · rw [upd_ne (ne_of_none q e3)]
    exact R.base.bh b u q
  · rcases at_ j u h2 with ⟨x1, x2⟩ | ⟨x1, x2⟩
    · subst x1 x2
      exact ⟨_, hv, r⟩
    · obtain ⟨v, q1, q2⟩ := R.slot j u x2
      refine ⟨v, q1, SR.mono (Same.refl _) (fun mu b e ob h1 h2 => ⟨?_, h2⟩) q2⟩
      rw [upd_ne]
      · exact h1
      · rintro rfl
        exact x1 (R.dis j i u s b x2 h mu m (by rw [q1, e]) hv)
  · obtain ⟨u', z1, z2⟩ := old j u h1 m1
    obtain ⟨w', z3, z4⟩ := old k w h2 m2
    exact R.dis j k u' w' b z1 z3 z2 z4 q1 q2
  · obtain ⟨u', z1, z2⟩ := old j u h1 m
    exact R.ownf j u' b z1 z2 e
  · obtain ⟨q1, u, q2, q3⟩ := R.box j b h1
    refine ⟨q1, ?_⟩
    by_cases e : j = i
    · subst e
      exact ⟨s', List.getElem?_set_self hl, m'⟩
    · rw [List.getElem?_set_ne (Ne.symm e)]
      exact ⟨u, q2, q3⟩
/-- a list of a slot stays from here on -/
theorem Rep.rest (R : Rep C σ H B S) {i : Nat} {ds : List PyData} (hb : n ≤ i) (h : S[i]? = some (some (.own ds))) : ∃ B', Rep C σ H B' (S.set i (some (.dat (.list ds)))) ∧ Same B B' := by
  obtain ⟨v, hv, a, vs, rfl, h1, h2, h3⟩ := R.slot i _ h
  have hl : i < S.length := (List.getElem?_eq_some_iff.mp h).1
  have eB : Same B (upd B a (.lst vs)) := sm_new h2
  refine ⟨upd B a (.lst vs), ⟨⟨R.base.keep, R.base.b0.trans eB, fun b o q => ?_, fun b o q => ?_⟩, by simp [R.len], fun j s hj => ?_, fun j k s u b q1 q2 m1 m2 e1 e2 => ?_, fun j s b q m e => ?_, fun j b q => ?_⟩, eB⟩
  · by_cases e : b = a
    · subst e
      rw [upd_same] at q
      cases q
      exact h1
    · rw [upd_ne e] at q
      exact R.base.bh b o q
  · by_cases e : b = a
    · subst e
      rcases R.ownf i _ b h rfl hv with z | z
      · exact .inr z
      · have := (List.getElem?_eq_some_iff.mp z).1
        have := C.hbx
        omega
    · rw [upd_ne e] at q
      exact R.base.fr b o q
  · by_cases e : j = i
    · subst e
      rw [List.getElem?_set_self hl] at hj
      cases hj
      exact ⟨_, hv, .lst (upd_same) (daa_mono eB h3)⟩
    · rw [List.getElem?_set_ne (Ne.symm e)] at hj
      obtain ⟨v, q1, q2⟩ := R.slot j s hj
      refine ⟨v, q1, SR.mono eB (fun mu b e2 ob z1 z2 => ⟨z1, ?_⟩) q2⟩
      rw [upd_ne]
      · exact z2
      · rintro rfl
        exact e (R.dis j i s _ b hj h mu rfl (by rw [q1, e2]) hv)
  · have n1 : j ≠ i := fun e => by
      subst e
      rw [List.getElem?_set_self hl] at q1
      cases q1
      cases m1
    have n2 : k ≠ i := fun e => by
      subst e
      rw [List.getElem?_set_self hl] at q2
      cases q2
      cases m2
    rw [List.getElem?_set_ne (Ne.symm n1)] at q1
    rw [List.getElem?_set_ne (Ne.symm n2)] at q2
    exact R.dis j k s u b q1 q2 m1 m2 e1 e2
  · have n1 : j ≠ i := fun e => by
      subst e
      rw [List.getElem?_set_self hl] at q
      cases q
      cases m
    rw [List.getElem?_set_ne (Ne.symm n1)] at q
    exact R.ownf j s b q m e
  · have n1 : j ≠ i := by
      have := (List.getElem?_eq_some_iff.mp q).1
      have := C.hbx
      omega
    obtain ⟨q1, u, q2, q3⟩ := R.box j b q
    exact ⟨q1, u, by rw [List.getElem?_set_ne (Ne.symm n1)]; exact q2, q3⟩
end
end
end Bo

/-! ### expressions -/
namespace Bo
open PySem L2
section
variable {K : PySem.W.Frag} {n : Nat} {C : Ct K n} {σ : L2.St} {H B : Hp} {S : SS}
/-! names, constants -/
def vVar (i : Nat) : VE := fun S => match S[i]? with
  | some (some (.dat d)) => .ok (d, S)
  | _ => .bad
theorem s_var {i : Nat} : SE C (tVar i) (vVar i) := by
  intro σ H B S Q R h
  unfold vVar at h
  split at h
  · rename_i d e
    obtain ⟨v, hv, r⟩ := R.slot i _ e
    exact ⟨v, hv, h v H B R (Same.refl _) r⟩
  · exact h.elim
def vC (d : PyData) : VE := fun S => .ok (d, S)
theorem s_int {m : Int} : SE C (tC (.int m)) (vC (.int m)) := fun _ H B _ _ R h => h _ H B R (Same.refl _) (.int m)
theorem s_bl {b : Bool} : SE C (tC (.bl b)) (vC (.bool b)) := fun _ H B _ _ R h => h _ H B R (Same.refl _) (.bl b)
theorem s_str {x : Str} : SE C (tC (.str x)) (vC (.str x)) := fun _ H B _ _ R h => h _ H B R (Same.refl _) (.str x)
theorem s_non : SE C (tC .non) (vC .none) := fun _ H B _ _ R h => h _ H B R (Same.refl _) .non
/-! operators -/
def SR2 (C : Ct K n) (r : R2) (g : PyData → PyData → R PyData) : Prop := ∀ (σ : L2.St) (H B : Hp) (S : SS) (x y : V) (d e : PyData) (Q : VK), Rep C σ H B S → Da K B x d → Da K B y e →
  Post C (g d e) (fun z => ∀ v H' B', Rep C σ H' B' S → Same B B' → Da K B' v z → Q v H') → r x y H Q
def vOp (g : PyData → PyData → R PyData) (fa fb : VE) : VE := fun S => (fa S).bind fun p => (fb p.2).bind fun q => (g p.1 q.1).bind fun z => .ok (z, q.2)
theorem s_op {r : R2} {g : PyData → PyData → R PyData} {ta tb : TE} {fa fb : VE} (hr : SR2 C r g) (ha : SE C ta fa) (hb : SE C tb fb) : SE C (tOp r ta tb) (vOp g fa fb) := by
  intro σ H B S Q R h
  unfold vOp at h
  rw [post_bind] at h
  refine ha σ H B S _ R (h.mono fun p h1 v H1 B1 R1 e1 d1 => ?_)
  rw [post_bind] at h1
  refine hb σ H1 B1 p.2 _ R1 (h1.mono fun q h2 w H2 B2 R2 e2 d2 => ?_)
  rw [post_bind] at h2
  exact hr σ H2 B2 q.2 v w p.1 q.1 Q R2 (da_mono e2 d1) d2 (h2.mono fun z h3 u H3 B3 R3 e3 d3 => h3 u H3 B3 R3 (e1.trans (e2.trans e3)) d3)
def gI (f : Int → Int → Int) : PyData → PyData → R PyData
  | .int i, .int j => .ok (.int (f i j))
  | _, _ => .bad
def gIC (c : Int → Int → Bool) (f : Int → Int → Int) : PyData → PyData → R PyData
  | .int i, .int j => R.when (c i j = true) (.ok (.int (f i j)))
  | _, _ => .bad
def gIB (f : Int → Int → Bool) : PyData → PyData → R PyData
  | .int i, .int j => .ok (.bool (f i j))
  | _, _ => .bad
theorem o_i0 {f : Int → Int → Int} : SR2 C (rI0 fun i j => .int (f i j)) (gI f) := by
  intro σ H B S x y d e Q R h1 h2 h
  cases h1 <;> cases h2 <;> first | exact h.elim | exact ⟨_, _, rfl, rfl, h _ H B R (Same.refl _) (.int _)⟩
theorem o_ib {f : Int → Int → Bool} : SR2 C (rI0 fun i j => .bl (f i j)) (gIB f) := by
  intro σ H B S x y d e Q R h1 h2 h
  cases h1 <;> cases h2 <;> first | exact h.elim | exact ⟨_, _, rfl, rfl, h _ H B R (Same.refl _) (.bl _)⟩
theorem o_ic {c : Int → Int → Bool} {p : Int → Int → Prop} {f : Int → Int → Int} (hc : ∀ i j, c i j = true → p i j) : SR2 C (rI p fun i j => .int (f i j)) (gIC c f) := by
  intro σ H B S x y d e Q R h1 h2 h
  cases h1 <;> cases h2 <;> first
    | exact h.elim
    | (obtain ⟨k, h⟩ := post_when.mp h
       exact ⟨_, _, rfl, rfl, hc _ _ k, h _ H B R (Same.refl _) (.int _)⟩)
/-- a product, neither factor too long -/
def cMul (i j : Int) : Bool := decide (i.natAbs < 2 ^ 400000 ∧ j.natAbs < 2 ^ 400000)
def cFdiv (_ j : Int) : Bool := decide (j ≠ 0 ∧ j.natAbs < 2 ^ 8999)
def cMod (_ j : Int) : Bool := decide (j ≠ 0)
theorem lg_lt {m k : Nat} (h : m < 2 ^ k) (hk : 0 < k) : m.log2 < k := by
  by_cases e : m = 0
  · subst e
    exact hk
  · exact (Nat.log2_lt e).mpr h
theorem o_mul : SR2 C (rI CMulW fun i j => .int (i * j)) (gIC cMul fun i j => i * j) := o_ic fun i j h => by
  obtain ⟨h1, h2⟩ := of_decide_eq_true h
  have := lg_lt h1 (by decide)
  have := lg_lt h2 (by decide)
  unfold CMulW
  omega
theorem o_fdiv : SR2 C (rI CDivX fun i j => .int (i.fdiv j)) (gIC cFdiv Int.fdiv) := o_ic fun i j h => by
  obtain ⟨h1, h2⟩ := of_decide_eq_true h
  exact ⟨h1, Nat.lt_trans (lg_lt h2 (by decide)) (by decide)⟩
theorem o_mod : SR2 C (rI (fun _ j => j ≠ 0) fun i j => .int (i.fmod j)) (gIC cMod Int.fmod) := o_ic fun i j h => of_decide_eq_true h
/-- == of plain values -/
def eqF : PyData → PyData → Option Bool
  | .int i, .int j => some (decide (i = j))
  | .bool i, .bool j => some (decide (i = j))
  | .str i, .str j => some (decide (i = j))
  | .none, .none => some true
  | .none, .int _ => some false
  | .int _, .none => some false
  | .none, .bool _ => some false
  | .bool _, .none => some false
  | .none, .str _ => some false
  | .str _, .none => some false
  | .int _, .str _ => some false
  | .str _, .int _ => some false
  | .bool _, .str _ => some false
  | .str _, .bool _ => some false
  | _, _ => none
def gEq (d e : PyData) : R PyData := match eqF d e with
  | some b => .ok (.bool b)
  | none => .bad
def gNe (d e : PyData) : R PyData := match eqF d e with
  | some b => .ok (.bool (!b))
  | none => .bad
theorem eqF_ok {x y : V} {d e : PyData} {b : Bool} (h1 : Da K B x d) (h2 : Da K B y e) (h : eqF d e = some b) : scal x y = true ∧ decide (x = y) = b := by
  cases h1 <;> cases h2 <;> first
    | (cases h; done)
    | (cases (Option.some.inj h); exact ⟨rfl, by simp⟩)
theorem o_eq : SR2 C rEq gEq := by
  intro σ H B S x y d e Q R h1 h2 h
  unfold gEq at h
  split at h
  · rename_i b q
    obtain ⟨k, k2⟩ := eqF_ok h1 h2 q
    exact ⟨k, by rw [k2]; exact h _ H B R (Same.refl _) (.bl _)⟩
  · exact h.elim
def isNone : PyData → Bool
  | .none => true
  | _ => false
theorem o_isN : SR2 C (fun x y H Q => y = .non ∧ Q (.bl (decide (x = .non))) H) (fun d e => R.when (isNone e = true) (.ok (.bool (isNone d)))) := by
  intro σ H B S x y d e Q R h1 h2 h
  obtain ⟨k, h⟩ := post_when.mp h
  cases h2 <;> first | (cases k; done) | skip
  refine ⟨rfl, ?_⟩
  have q : decide (x = V.non) = isNone d := by cases h1 <;> simp [isNone]
  rw [q]
  exact h _ H B R (Same.refl _) (.bl _)
theorem o_notN : SR2 C (fun x y H Q => y = .non ∧ Q (.bl (!decide (x = .non))) H) (fun d e => R.when (isNone e = true) (.ok (.bool (!isNone d)))) := by
  intro σ H B S x y d e Q R h1 h2 h
  obtain ⟨k, h⟩ := post_when.mp h
  cases h2 <;> first | (cases k; done) | skip
  refine ⟨rfl, ?_⟩
  have q : decide (x = V.non) = isNone d := by cases h1 <;> simp [isNone]
  rw [q]
  exact h _ H B R (Same.refl _) (.bl _)
/-- == of deep data -/
def gEqD (d e : PyData) : R PyData := R.when (SeqAt.shaped d = true ∧ SeqAt.shaped e = true) (.ok (.bool (PyData.eqv d e)))
def gNeD (d e : PyData) : R PyData := R.when (SeqAt.shaped d = true ∧ SeqAt.shaped e = true) (.ok (.bool (!PyData.eqv d e)))
theorem o_eqD : SR2 C (rEqD K) gEqD := by
  intro σ H B S x y d e Q R h1 h2 h
  obtain ⟨⟨k1, k2⟩, h⟩ := post_when.mp h
  exact ⟨d, e, da_dp (da_mono R.base.bh h1), da_dp (da_mono R.base.bh h2), k1, k2, h _ H B R (Same.refl _) (.bl _)⟩
theorem o_neD : SR2 C (rNeD K) gNeD := by
  intro σ H B S x y d e Q R h1 h2 h
  obtain ⟨⟨k1, k2⟩, h⟩ := post_when.mp h
  exact ⟨d, e, da_dp (da_mono R.base.bh h1), da_dp (da_mono R.base.bh h2), k1, k2, h _ H B R (Same.refl _) (.bl _)⟩
/-- x in a sequence of plain values -/
def flatD : PyData → Bool
  | .none => true
  | .bool _ => true
  | .int _ => true
  | .str _ => true
  | _ => false
def eqP : PyData → PyData → Bool
  | .int i, .int j => decide (i = j)
  | .bool i, .bool j => decide (i = j)
  | .str i, .str j => decide (i = j)
  | .none, .none => true
  | .int i, .bool b => decide (i = if b then 1 else 0)
  | .bool b, .int i => decide ((if b then 1 else 0) = i)
  | _, _ => false
def inD (d : PyData) (ds : List PyData) : Bool := ds.any fun e => eqP e d
def itemsD : PyData → Option (List PyData)
  | .list ds => some ds
  | .tuple ds => some ds
  | _ => none
def gIn (neg : Bool) (d e : PyData) : R PyData := match itemsD e with
  | some ds => R.when (flatD d = true ∧ ds.all flatD = true) (.ok (.bool (if neg then !inD d ds else inD d ds)))
  | none => .bad
theorem flat_v {x : V} {d : PyData} (h : Da K B x d) (f : flatD d = true) : flatV x = true := by
  cases h <;> first | rfl | (cases f; done)
theorem eq_v {x y : V} {d e : PyData} (h : Da K B x d) (h2 : Da K B y e) (f : flatD d = true) (f2 : flatD e = true) : eqV x y = eqP d e := by
  cases h <;> first | (cases f; done) | (cases h2 <;> first | (cases f2; done) | rfl | simp [eqV, eqP])
theorem flats_v : ∀ {xs : List V} {ds : List PyData}, DaAll K B xs ds → ds.all flatD = true → xs.all flatV = true
  | _, _, .nil, _ => rfl
  | _, _, .cons h t, f => by
    rw [List.all_cons, Bool.and_eq_true] at f ⊢
    exact ⟨flat_v h f.1, flats_v t f.2⟩
theorem in_v {x : V} {d : PyData} (h : Da K B x d) (f : flatD d = true) : ∀ {xs : List V} {ds : List PyData}, DaAll K B xs ds → ds.all flatD = true → inV x xs = inD d ds
  | _, _, .nil, _ => rfl
  | _, _, .cons g t, q => by
    rw [List.all_cons, Bool.and_eq_true] at q
    show (eqV _ x || inV x _) = (eqP _ d || inD d _)
    rw [eq_v g h q.1 f, in_v h f t q.2]
theorem seq_of {y : V} {e : PyData} {ds : List PyData} (h : Da K B y e) (q : itemsD e = some ds) : ∃ p xs, y = .ref p ∧ (SqL K B p xs ∨ SqT K B p xs) ∧ DaAll K B xs ds := by
  cases h with
  | lst s a => cases (Option.some.inj q); exact ⟨_, _, rfl, .inl (SqL.of s), a⟩
  | tup s a => cases (Option.some.inj q); exact ⟨_, _, rfl, .inr s, a⟩
  | non => exact nomatch q
  | bl b => exact nomatch q
  | int i => exact nomatch q
  | str x => exact nomatch q
theorem seq_up {H : Hp} {p : Addr} {xs : List V} (e : Same B H) (h : SqL K B p xs ∨ SqT K B p xs) : SqL K H p xs ∨ SqT K H p xs := h.imp (sm_l e) (sm_t e)
theorem o_in {neg : Bool} : SR2 C (rIn K neg) (gIn neg) := by
  intro σ H B S x y d e Q R h1 h2 h
  unfold gIn at h
  split at h
  · rename_i ds q
    obtain ⟨⟨k1, k2⟩, h⟩ := post_when.mp h
    obtain ⟨p, xs, rfl, sq, da⟩ := seq_of h2 q
    refine ⟨p, xs, rfl, seq_up R.base.bh sq, flat_v h1 k1, flats_v da k2, ?_⟩
    rw [in_v h1 k1 da k2]
    exact h _ H B R (Same.refl _) (.bl _)
  · exact h.elim
/-- an item -/
def ixD (ds : List PyData) (i : Int) : R PyData := match atI ds i with
  | some d => .ok d
  | none => .bad
def gIxL : PyData → PyData → R PyData
  | .list ds, .int i => ixD ds i
  | _, _ => .bad
def gIxT : PyData → PyData → R PyData
  | .tuple ds, .int i => ixD ds i
  | _, _ => .bad
theorem at_da {xs : List V} {ds : List PyData} {i : Int} {d : PyData} (a : DaAll K B xs ds) (h : atI ds i = some d) : ∃ v, atI xs i = some v ∧ Da K B v d := by
  unfold atI at h ⊢
  rw [daa_len a]
  cases e : ixN ds.length i with
  | none => rw [e] at h; exact nomatch h
  | some j =>
    rw [e] at h
    exact daa_get a h
theorem o_ixL : SR2 C (rIxL K) gIxL := by
  intro σ H B S x y d e Q R h1 h2 h
  cases h1 with
  | lst s a =>
    cases h2 with
    | int i =>
      unfold gIxL ixD at h
      simp only at h
      split at h
      · rename_i z q
        obtain ⟨v, hv, dv⟩ := at_da a q
        exact ⟨_, _, _, v, rfl, rfl, SqL.of (R.base.bh _ _ s), hv, h v H B R (Same.refl _) dv⟩
      · exact h.elim
    | _ => exact h.elim
  | _ => exact h.elim
theorem o_ixT : SR2 C (rIxT K) gIxT := by
  intro σ H B S x y d e Q R h1 h2 h
  cases h1 with
  | tup s a =>
    cases h2 with
    | int i =>
      unfold gIxT ixD at h
      simp only at h
      split at h
      · rename_i z q
        obtain ⟨v, hv, dv⟩ := at_da a q
        exact ⟨_, _, _, v, rfl, rfl, sm_t R.base.bh s, hv, h v H B R (Same.refl _) dv⟩
      · exact h.elim
    | _ => exact h.elim
  | _ => exact h.elim
/-- + of lists, of tuples -/
def gCat : PyData → PyData → R PyData
  | .list ds, .list es => R.when (ds.length + es.length ≤ 100000) (.ok (.list (ds ++ es)))
  | _, _ => .bad
def gCatT : PyData → PyData → R PyData
  | .tuple ds, .tuple es => R.when (ds.length + es.length ≤ 100000) (.ok (.tuple (ds ++ es)))
  | _, _ => .bad
theorem line_le {m : Nat} (h : m ≤ 100000) : m ≤ sizeLine := Nat.le_trans h (by decide)
/-- a new list, a new tuple that stays -/
theorem Rep.lst (R : Rep C σ H B S) {p : Addr} {xs : List V} {ds : List PyData} (hp : H p = none) (a : DaAll K B xs ds) : ∃ B', Rep C σ (upd H p (.lst xs)) B' S ∧ Same B B' ∧ Da K B' (.ref p) (.list ds) := by
  obtain ⟨R1, e⟩ := R.laid (o := .lst xs) hp
  exact ⟨_, R1, e, .lst upd_same (daa_mono e a)⟩
theorem Rep.tup (R : Rep C σ H B S) {p : Addr} {xs : List V} {ds : List PyData} (hp : H p = none) (a : DaAll K B xs ds) : ∃ B', Rep C σ (upd H p (.tup xs)) B' S ∧ Same B B' ∧ Da K B' (.ref p) (.tuple ds) := by
  obtain ⟨R1, e⟩ := R.laid (o := .tup xs) hp
  exact ⟨_, R1, e, .tup (SqT.of upd_same) (daa_mono e a)⟩
theorem o_cat : SR2 C rCat gCat := by
  intro σ H B S x y d e Q R h1 h2 h
  cases h1 with
  | lst s a =>
    cases h2 with
    | lst s2 a2 =>
      obtain ⟨k, h⟩ := post_when.mp h
      refine ⟨_, _, _, _, rfl, rfl, R.base.bh _ _ s, R.base.bh _ _ s2, line_le (by rw [daa_len a, daa_len a2]; exact k), fun p hp => ?_⟩
      obtain ⟨B', R1, e1, d1⟩ := R.lst hp (daa_app a a2)
      exact h _ _ B' R1 e1 d1
    | _ => exact h.elim
  | _ => exact h.elim
def gCatS : PyData → PyData → R PyData
  | .str x, .str y => R.when (x.length + y.length ≤ 100000) (.ok (.str (x ++ y)))
  | _, _ => .bad
/-! one-place operators -/
def vUn (g : PyData → R PyData) (fa : VE) : VE := fun S => (fa S).bind fun p => (g p.1).bind fun z => .ok (z, p.2)
def gNeg : PyData → R PyData
  | .int i => .ok (.int (-i))
  | _ => .bad
theorem s_neg {ta : TE} {fa : VE} (ha : SE C ta fa) : SE C (tUn (rU fun i => .int (-i)) ta) (vUn gNeg fa) := by
  intro σ H B S Q R h
  unfold vUn at h
  rw [post_bind] at h
  refine ha σ H B S _ R (h.mono fun p h1 v H1 B1 R1 e1 d1 => ?_)
  rw [post_bind] at h1
  generalize p.1 = d at d1 h1
  cases d1 <;> first | exact h1.elim | exact ⟨_, rfl, h1 _ H1 B1 R1 e1 (.int _)⟩
/-! bools -/
def toB : PyData → R Bool
  | .bool b => .ok b
  | _ => .bad
theorem bl_of {v : V} {d : PyData} {k : Bool → Prop} (h : Da K B v d) (q : Post C (toB d) k) : ∃ b, v = .bl b ∧ d = .bool b ∧ k b := by
  cases h <;> first | exact q.elim | exact ⟨_, rfl, rfl, q⟩
def vAnd (fa fb : VE) : VE := fun S => (fa S).bind fun p => (toB p.1).bind fun b => if b = true then fb p.2 else .ok (.bool false, p.2)
def vOr (fa fb : VE) : VE := fun S => (fa S).bind fun p => (toB p.1).bind fun b => if b = true then .ok (.bool true, p.2) else fb p.2
def vNot (fa : VE) : VE := fun S => (fa S).bind fun p => (toB p.1).bind fun b => .ok (.bool (!b), p.2)
theorem s_andV {ta tb : TE} {fa fb : VE} (ha : SE C ta fa) (hb : SE C tb fb) : SE C (tAndV ta tb) (vAnd fa fb) := by
  intro σ H B S Q R h
  unfold vAnd at h
  rw [post_bind] at h
  refine ha σ H B S _ R (h.mono fun p h1 v H1 B1 R1 e1 d1 => ?_)
  rw [post_bind] at h1
  obtain ⟨b, rfl, _, h1⟩ := bl_of d1 h1
  refine ⟨b, rfl, ?_⟩
  cases b with
  | true => exact hb σ H1 B1 p.2 Q R1 (h1.mono fun q h2 w H2 B2 R2 e2 d2 => h2 w H2 B2 R2 (e1.trans e2) d2)
  | false => exact h1 _ H1 B1 R1 e1 (.bl _)
/-! tests -/
def vTst (fa : VE) : VT := fun S => (fa S).bind fun p => (toB p.1).bind fun b => .ok (b, p.2)
theorem s_tst {ta : TE} {fa : VE} (ha : SE C ta fa) : ST C (tTest ta) (vTst fa) := by
  intro σ H B S Q R h
  unfold vTst at h
  rw [post_bind] at h
  refine ha σ H B S _ R (h.mono fun p h1 v H1 B1 R1 e1 d1 => ?_)
  rw [post_bind] at h1
  obtain ⟨b, rfl, _, h1⟩ := bl_of d1 h1
  exact ⟨b, rfl, h1 H1 B1 R1 e1⟩
theorem s_tB {ta : TE} {fa : VE} (ha : SE C ta fa) : ST C (tB ta) (vTst fa) := s_tst ha
def tNotF (fa : VT) : VT := fun S => (fa S).bind fun p => .ok (!p.1, p.2)
theorem s_not {ta : TT} {fa : VT} (ha : ST C ta fa) : ST C (tNot ta) (tNotF fa) := by
  intro σ H B S Q R h
  unfold tNotF at h
  rw [post_bind] at h
  exact ha σ H B S _ R (h.mono fun p h1 H1 B1 R1 e1 => h1 H1 B1 R1 e1)
def tAndF (fa fb : VT) : VT := fun S => (fa S).bind fun p => if p.1 = true then fb p.2 else .ok (false, p.2)
def tOrF (fa fb : VT) : VT := fun S => (fa S).bind fun p => if p.1 = true then .ok (true, p.2) else fb p.2
theorem s_and {ta tb : TT} {fa fb : VT} (ha : ST C ta fa) (hb : ST C tb fb) : ST C (tAnd ta tb) (tAndF fa fb) := by
  intro σ H B S Q R h
  unfold tAndF at h
  rw [post_bind] at h
  refine ha σ H B S _ R (h.mono fun p h1 H1 B1 R1 e1 => ?_)
  obtain ⟨c, S1⟩ := p
  cases c with
  | true => exact hb σ H1 B1 S1 Q R1 (Post.mono h1 fun q h2 H2 B2 R2 e2 => h2 H2 B2 R2 (e1.trans e2))
  | false => exact h1 H1 B1 R1 e1
theorem s_or {ta tb : TT} {fa fb : VT} (ha : ST C ta fa) (hb : ST C tb fb) : ST C (tOr ta tb) (tOrF fa fb) := by
  intro σ H B S Q R h
  unfold tOrF at h
  rw [post_bind] at h
  refine ha σ H B S _ R (h.mono fun p h1 H1 B1 R1 e1 => ?_)
  obtain ⟨c, S1⟩ := p
  cases c with
  | false => exact hb σ H1 B1 S1 Q R1 (Post.mono h1 fun q h2 H2 B2 R2 e2 => h2 H2 B2 R2 (e1.trans e2))
  | true => exact h1 H1 B1 R1 e1
/-- by truth -/
def truD : PyData → R Bool
  | .none => .ok false
  | .bool b => .ok b
  | .int i => .ok (i != 0)
  | .str x => R.when (x.length ≤ 100000) (.ok ((x.length : Int) != 0))
  | .list ds => .ok (!ds.isEmpty)
  | .tuple ds => .ok (!ds.isEmpty)
  | _ => .bad
def vTru (fa : VE) : VT := fun S => (fa S).bind fun p => (truD p.1).bind fun b => .ok (b, p.2)
/-! x if c else y -/
def vIf (fc : VT) (fa fb : VE) : VE := fun S => (fc S).bind fun p => if p.1 = true then fa p.2 else fb p.2
/-! a < b < c -/
def vChain (g g' : PyData → PyData → R PyData) (fa fb fc : VE) : VE := fun S => (fa S).bind fun p => (fb p.2).bind fun q => (g p.1 q.1).bind fun z => (toB z).bind fun b =>
  if b = true then (fc q.2).bind fun r => (g' q.1 r.1).bind fun z => .ok (z, r.2) else .ok (.bool false, q.2)
theorem s_chain {r r' : R2} {g g' : PyData → PyData → R PyData} {ta tb tc : TE} {fa fb fc : VE} (hr : SR2 C r g) (hr' : SR2 C r' g') (ha : SE C ta fa) (hb : SE C tb fb) (hc : SE C tc fc) : SE C (tChain r r' ta tb tc) (vChain g g' fa fb fc) := by
  intro σ H B S Q R h
  unfold vChain at h
  rw [post_bind] at h
  refine ha σ H B S _ R (h.mono fun p h1 v H1 B1 R1 e1 d1 => ?_)
  rw [post_bind] at h1
  refine hb σ H1 B1 p.2 _ R1 (h1.mono fun q h2 w H2 B2 R2 e2 d2 => ?_)
  rw [post_bind] at h2
  refine hr σ H2 B2 q.2 v w p.1 q.1 _ R2 (da_mono e2 d1) d2 (h2.mono fun z h3 u H3 B3 R3 e3 d3 => ?_)
  rw [post_bind] at h3
  obtain ⟨b, rfl, _, h3⟩ := bl_of d3 h3
  refine ⟨b, rfl, ?_⟩
  cases b with
  | false => exact h3 _ H3 B3 R3 (e1.trans (e2.trans e3)) (.bl _)
  | true =>
    replace h3 : Post C ((fc q.2).bind fun r => (g' q.1 r.1).bind fun z => .ok (z, r.2)) _ := h3
    rw [post_bind] at h3
    refine hc σ H3 B3 q.2 _ R3 (h3.mono fun r h4 w4 H4 B4 R4 e4 d4 => ?_)
    rw [post_bind] at h4
    exact hr' σ H4 B4 r.2 w w4 q.1 r.1 Q R4 (da_mono (e3.trans e4) d2) d4 (h4.mono fun z h5 u H5 B5 R5 e5 d5 => h5 u H5 B5 R5 (e1.trans (e2.trans (e3.trans (e4.trans e5)))) d5)
/-! argument lists, displays, calls -/
def vNil : VA := fun S => .ok ([], S)
def vCons (fa : VE) (fr : VA) : VA := fun S => (fa S).bind fun p => (fr p.2).bind fun q => .ok (p.1 :: q.1, q.2)
theorem s_nil : SA C tNil vNil := fun _ H B _ _ R h => h _ H B R (Same.refl _) .nil
theorem s_cons {ta : TE} {tr : TA} {fa : VE} {fr : VA} (ha : SE C ta fa) (hr : SA C tr fr) : SA C (tCons ta tr) (vCons fa fr) := by
  intro σ H B S Q R h
  unfold vCons at h
  rw [post_bind] at h
  refine ha σ H B S _ R (h.mono fun p h1 v H1 B1 R1 e1 d1 => ?_)
  rw [post_bind] at h1
  exact hr σ H1 B1 p.2 _ R1 (h1.mono fun q h2 w H2 B2 R2 e2 d2 => h2 _ H2 B2 R2 (e1.trans e2) (.cons (da_mono e2 d1) d2))
def vTup (fa : VA) : VE := fun S => (fa S).bind fun p => R.when (p.1.length ≤ 100000) (.ok (.tuple p.1, p.2))
def vLst (fa : VA) : VE := fun S => (fa S).bind fun p => R.when (p.1.length ≤ 100000) (.ok (.list p.1, p.2))
theorem s_tup {ta : TA} {fa : VA} (ha : SA C ta fa) : SE C (tTup ta) (vTup fa) := by
  intro σ H B S Q R h
  unfold vTup at h
  rw [post_bind] at h
  refine ha σ H B S _ R (h.mono fun p h1 vs H1 B1 R1 e1 d1 => ?_)
  obtain ⟨k, h1⟩ := post_when.mp h1
  refine ⟨line_le (by rw [daa_len d1]; exact k), fun a ha => ?_⟩
  obtain ⟨B', R2, e2, d2⟩ := R1.tup ha d1
  exact h1 _ _ B' R2 (e1.trans e2) d2
theorem s_lst {ta : TA} {fa : VA} (ha : SA C ta fa) : SE C (tLst ta) (vLst fa) := by
  intro σ H B S Q R h
  unfold vLst at h
  rw [post_bind] at h
  refine ha σ H B S _ R (h.mono fun p h1 vs H1 B1 R1 e1 d1 => ?_)
  obtain ⟨k, h1⟩ := post_when.mp h1
  refine ⟨line_le (by rw [daa_len d1]; exact k), fun a ha => ?_⟩
  obtain ⟨B', R2, e2, d2⟩ := R1.lst ha d1
  exact h1 _ _ B' R2 (e1.trans e2) d2
/-- a built-in, by values -/
def SCR (C : Ct K n) (r : List V → Hp → VK → Prop) (g : List PyData → R PyData) : Prop := ∀ (σ : L2.St) (H B : Hp) (S : SS) (xs : List V) (ds : List PyData) (Q : VK), Rep C σ H B S → DaAll K B xs ds →
  Post C (g ds) (fun z => ∀ v H' B', Rep C σ H' B' S → Same B B' → Da K B' v z → Q v H') → r xs H Q
def vCall (g : List PyData → R PyData) (fa : VA) : VE := fun S => (fa S).bind fun p => (g p.1).bind fun z => .ok (z, p.2)
theorem s_cb {r : List V → Hp → VK → Prop} {g : List PyData → R PyData} {ta : TA} {fa : VA} (hr : SCR C r g) (ha : SA C ta fa) : SE C (tCB r ta) (vCall g fa) := by
  intro σ H B S Q R h
  unfold vCall at h
  rw [post_bind] at h
  refine ha σ H B S _ R (h.mono fun p h1 vs H1 B1 R1 e1 d1 => ?_)
  rw [post_bind] at h1
  exact hr σ H1 B1 p.2 vs p.1 Q R1 d1 (h1.mono fun z h2 v H2 B2 R2 e2 d2 => h2 v H2 B2 R2 (e1.trans e2) d2)
def gLen : List PyData → R PyData
  | [.list ds] => .ok (.int ds.length)
  | [.tuple ds] => .ok (.int ds.length)
  | _ => .bad
theorem c_len : SCR C (fun xs H Q => ∃ p ys, xs = [.ref p] ∧ (SqL K H p ys ∨ SqT K H p ys) ∧ Q (.int ys.length) H) gLen := by
  intro σ H B S xs ds Q R d h
  cases d with
  | nil => exact h.elim
  | cons h1 t =>
    cases t with
    | cons h2 t => cases h1 <;> exact h.elim
    | nil =>
      cases h1 with
      | lst s a => exact ⟨_, _, rfl, .inl (SqL.of (R.base.bh _ _ s)), by rw [daa_len a]; exact h _ H B R (Same.refl _) (.int _)⟩
      | tup s a => exact ⟨_, _, rfl, .inr (sm_t R.base.bh s), by rw [daa_len a]; exact h _ H B R (Same.refl _) (.int _)⟩
      | _ => exact h.elim
def gAbs : List PyData → R PyData
  | [.int i] => .ok (.int (if i < 0 then -i else i))
  | _ => .bad
theorem c_abs : SCR C (fun xs H Q => ∃ i, xs = [.int i] ∧ Q (.int (if i < 0 then -i else i)) H) gAbs := by
  intro σ H B S xs ds Q R d h
  cases d with
  | nil => exact h.elim
  | cons h1 t =>
    cases t with
    | cons h2 t => cases h1 <;> exact h.elim
    | nil => cases h1 <;> first | exact h.elim | exact ⟨_, rfl, h _ H B R (Same.refl _) (.int _)⟩
def gInt : List PyData → R PyData
  | [.int i] => .ok (.int i)
  | [.bool b] => .ok (.int (if b then 1 else 0))
  | _ => .bad
theorem c_int : SCR C (fun xs H Q => (∃ i, xs = [.int i] ∧ Q (.int i) H) ∨ ∃ k, xs = [.bl k] ∧ Q (.int (if k then 1 else 0)) H) gInt := by
  intro σ H B S xs ds Q R d h
  cases d with
  | nil => exact h.elim
  | cons h1 t =>
    cases t with
    | cons h2 t => cases h1 <;> exact h.elim
    | nil => cases h1 <;> first | exact h.elim | exact .inl ⟨_, rfl, h _ H B R (Same.refl _) (.int _)⟩ | exact .inr ⟨_, rfl, h _ H B R (Same.refl _) (.int _)⟩
def gGcd : List PyData → R PyData
  | [.int i, .int j] => .ok (.int ((Nat.gcd i.natAbs j.natAbs : Nat) : Int))
  | _ => .bad
theorem c_gcd : SCR C rGcd gGcd := by
  intro σ H B S xs ds Q R d h
  cases d with
  | nil => exact h.elim
  | cons h1 t =>
    cases t with
    | nil => cases h1 <;> exact h.elim
    | cons h2 t =>
      cases t with
      | cons h3 t => cases h1 <;> first | exact h.elim | (cases h2 <;> exact h.elim)
      | nil => cases h1 <;> first | exact h.elim | (cases h2 <;> first | exact h.elim | exact ⟨_, _, rfl, h _ H B R (Same.refl _) (.int _)⟩)
def gTuple : List PyData → R PyData
  | [.list ds] => .ok (.tuple ds)
  | [.tuple ds] => .ok (.tuple ds)
  | _ => .bad
def gList : List PyData → R PyData
  | [.list ds] => .ok (.list ds)
  | [.tuple ds] => .ok (.list ds)
  | _ => .bad
theorem c_tuple : SCR C (fun xs H Q => ∃ p ys, xs = [.ref p] ∧ ((SqL K H p ys ∧ ∀ l, H l = none → Q (.ref l) (upd H l (.tup ys))) ∨ (SqT K H p ys ∧ Q (.ref p) H))) gTuple := by
  intro σ H B S xs ds Q R d h
  cases d with
  | nil => exact h.elim
  | cons h1 t =>
    cases t with
    | cons h2 t => cases h1 <;> exact h.elim
    | nil =>
      cases h1 with
      | lst s a =>
        refine ⟨_, _, rfl, .inl ⟨SqL.of (R.base.bh _ _ s), fun l hl => ?_⟩⟩
        obtain ⟨B', R1, e1, d1⟩ := R.tup hl a
        exact h _ _ B' R1 e1 d1
      | tup s a => exact ⟨_, _, rfl, .inr ⟨sm_t R.base.bh s, h _ H B R (Same.refl _) (.tup s a)⟩⟩
      | _ => exact h.elim
theorem c_list : SCR C (fun xs H Q => ∃ p ys, xs = [.ref p] ∧ (SqL K H p ys ∨ SqT K H p ys) ∧ ∀ l, H l = none → Q (.ref l) (upd H l (.lst ys))) gList := by
  intro σ H B S xs ds Q R d h
  cases d with
  | nil => exact h.elim
  | cons h1 t =>
    cases t with
    | cons h2 t => cases h1 <;> exact h.elim
    | nil =>
      cases h1 with
      | lst s a =>
        refine ⟨_, _, rfl, .inl (SqL.of (R.base.bh _ _ s)), fun l hl => ?_⟩
        obtain ⟨B', R1, e1, d1⟩ := R.lst hl a
        exact h _ _ B' R1 e1 d1
      | tup s a =>
        refine ⟨_, _, rfl, .inr (sm_t R.base.bh s), fun l hl => ?_⟩
        obtain ⟨B', R1, e1, d1⟩ := R.lst hl a
        exact h _ _ B' R1 e1 d1
      | _ => exact h.elim
/-- ints, bools of data -/
def intsD : List PyData → Option (List Int)
  | [] => some []
  | .int i :: ds => (intsD ds).map (i :: ·)
  | _ :: _ => none
def boolsD : List PyData → Option (List Bool)
  | [] => some []
  | .bool i :: ds => (boolsD ds).map (i :: ·)
  | _ :: _ => none
theorem ints_v : ∀ {xs : List V} {ds : List PyData} {ns : List Int}, DaAll K B xs ds → intsD ds = some ns → xs = ns.map V.int ∧ ds = ns.map PyData.int
  | _, _, _, .nil, h => by cases h; exact ⟨rfl, rfl⟩
  | _, _, _, .cons h1 t, h => by
    cases h1 with
    | int i =>
      unfold intsD at h
      obtain ⟨ms, h2, rfl⟩ := Option.map_eq_some_iff.mp h
      obtain ⟨e1, e2⟩ := ints_v t h2
      exact ⟨by rw [e1]; rfl, by rw [e2]; rfl⟩
    | _ => exact nomatch h
theorem bools_v : ∀ {xs : List V} {ds : List PyData} {ns : List Bool}, DaAll K B xs ds → boolsD ds = some ns → xs = ns.map V.bl ∧ ds = ns.map PyData.bool
  | _, _, _, .nil, h => by cases h; exact ⟨rfl, rfl⟩
  | _, _, _, .cons h1 t, h => by
    cases h1 with
    | bl i =>
      unfold boolsD at h
      obtain ⟨ms, h2, rfl⟩ := Option.map_eq_some_iff.mp h
      obtain ⟨e1, e2⟩ := bools_v t h2
      exact ⟨by rw [e1]; rfl, by rw [e2]; rfl⟩
    | _ => exact nomatch h
theorem ints_map : ∀ ns : List Int, intsD (ns.map PyData.int) = some ns
  | [] => rfl
  | n :: ns => by
    show (intsD (ns.map PyData.int)).map (n :: ·) = _
    rw [ints_map ns]
    rfl
theorem bools_map : ∀ ns : List Bool, boolsD (ns.map PyData.bool) = some ns
  | [] => rfl
  | n :: ns => by
    show (boolsD (ns.map PyData.bool)).map (n :: ·) = _
    rw [bools_map ns]
    rfl
def gInts (g : List Int → PyData) : List PyData → R PyData
  | [.list ds] => match intsD ds with
    | some ns => .ok (g ns)
    | none => .bad
  | _ => .bad
def gBools (g : List Bool → PyData) : List PyData → R PyData
  | [.list ds] => match boolsD ds with
    | some ns => .ok (g ns)
    | none => .bad
  | _ => .bad
theorem c_sum : SCR C (rSum K) (gInts fun ns => .int ns.sum) := by
  intro σ H B S xs ds Q R d h
  cases d with
  | nil => exact h.elim
  | cons h1 t =>
    cases t with
    | cons h2 t => cases h1 <;> exact h.elim
    | nil =>
      cases h1 with
      | lst s a =>
        unfold gInts at h
        simp only at h
        split at h
        · rename_i ns q
          obtain ⟨rfl, rfl⟩ := ints_v a q
          exact ⟨_, ns, rfl, SqL.of (R.base.bh _ _ s), h _ H B R (Same.refl _) (.int _)⟩
        · exact h.elim
      | _ => exact h.elim
theorem c_any : SCR C (rAny K) (gBools fun bs => .bool (bs.any id)) := by
  intro σ H B S xs ds Q R d h
  cases d with
  | nil => exact h.elim
  | cons h1 t =>
    cases t with
    | cons h2 t => cases h1 <;> exact h.elim
    | nil =>
      cases h1 with
      | lst s a =>
        unfold gBools at h
        simp only at h
        split at h
        · rename_i ns q
          obtain ⟨rfl, rfl⟩ := bools_v a q
          exact ⟨_, ns, rfl, SqL.of (R.base.bh _ _ s), h _ H B R (Same.refl _) (.bl _)⟩
        · exact h.elim
      | _ => exact h.elim
end
end Bo

namespace Bo
open PySem L2
section
variable {K : PySem.W.Frag} {n : Nat} {C : Ct K n} {σ : L2.St} {H B : Hp} {S : SS}
/-! ### new lists -/
/-- nobody else has it -/
structure Loose (C : Ct K n) (σ : L2.St) (S : SS) (B : Hp) (a : Addr) : Prop where
  b : B a = none
  h0 : C.H0 a = none
  no : ∀ (j : Nat) (u : SV), S[j]? = some (some u) → u.mine = true → σ[j]? ≠ some (some (.ref a))
abbrev VF := SS → R (List PyData × SS)
/-- a new list: what it holds -/
def SEF (C : Ct K n) (t : TE) (f : VF) : Prop := ∀ (σ : L2.St) (H B : Hp) (S : SS) (Q : VK), Rep C σ H B S →
  Post C (f S) (fun p => ∀ a vs H' B', Rep C σ H' B' p.2 → Same B B' → H' a = some (.lst vs) → Loose C σ p.2 B' a → DaAll K B' vs p.1 → Q (.ref a) H') → t σ H Q
theorem Rep.settle (R : Rep C σ H B S) {a : Addr} {vs : List V} (h : H a = some (.lst vs)) (L : Loose C σ S B a) : Rep C σ H (upd B a (.lst vs)) S ∧ Same B (upd B a (.lst vs)) := by
  have e : Same B (upd B a (.lst vs)) := sm_new L.b
  refine ⟨R.grow ⟨R.base.keep, R.base.b0.trans e, fun b o q => ?_, fun b o q => ?_⟩ e fun b o h1 h2 ⟨j, u, q1, q2, q3⟩ => ⟨h1, ?_⟩, e⟩
  · by_cases z : b = a
    · subst z
      rw [upd_same] at q
      cases q
      exact h
    · rw [upd_ne z] at q
      exact R.base.bh b o q
  · by_cases z : b = a
    · subst z
      exact .inr L.h0
    · rw [upd_ne z] at q
      exact R.base.fr b o q
  · rw [upd_ne]
    · exact h2
    · rintro rfl
      exact L.no j u q1 q2 q3
def vFr (f : VF) : VE := fun S => (f S).bind fun p => .ok (.list p.1, p.2)
/-- a new list that stays -/
theorem s_fr {t : TE} {f : VF} (h : SEF C t f) : SE C t (vFr f) := by
  intro σ H B S Q R q
  unfold vFr at q
  rw [post_bind] at q
  refine h σ H B S Q R (q.mono fun p q a vs H' B' R1 e1 ha L d => ?_)
  obtain ⟨R2, e2⟩ := R1.settle ha L
  exact q _ H' _ R2 (e1.trans e2) (.lst upd_same (daa_mono e2 d))
/-- laid where nothing stood -/
theorem Rep.newLoose (R : Rep C σ H B S) {p : Addr} {o : HO} (hp : H p = none) : Rep C σ (upd H p o) B S ∧ Loose C σ S B p := by
  obtain ⟨h0, hb, _⟩ := R.new hp
  refine ⟨R.loose hp, hb, h0, fun j u q m e => ?_⟩
  obtain ⟨a, o, e1, e2, _⟩ := R.own_at q m
  rw [e] at e1
  cases e1
  rw [hp] at e2
  cases e2
def vLstF (fa : VA) : VF := fun S => (fa S).bind fun p => R.when (p.1.length ≤ 100000) (.ok p)
theorem f_lst {ta : TA} {fa : VA} (ha : SA C ta fa) : SEF C (tLst ta) (vLstF fa) := by
  intro σ H B S Q R h
  unfold vLstF at h
  rw [post_bind] at h
  refine ha σ H B S _ R (h.mono fun p h1 vs H1 B1 R1 e1 d1 => ?_)
  obtain ⟨k, h1⟩ := post_when.mp h1
  refine ⟨line_le (by rw [daa_len d1]; exact k), fun a ha => ?_⟩
  obtain ⟨R2, L⟩ := R1.newLoose (o := .lst vs) ha
  exact h1 a vs _ B1 R2 e1 upd_same L d1
/-- list(x) -/
def vListF (fa : VE) : VF := fun S => (fa S).bind fun p => match itemsD p.1 with
  | some ds => .ok (ds, p.2)
  | none => .bad
/-! ### slices -/
abbrev VO := SS → R (Option Int × SS)
def SO (C : Ct K n) (t : TO) (f : VO) : Prop := ∀ (σ : L2.St) (H B : Hp) (S : SS) (Q : Option Int → Hp → Prop), Rep C σ H B S →
  Post C (f S) (fun p => ∀ H' B', Rep C σ H' B' p.2 → Same B B' → Q p.1 H') → t σ H Q
def vNoPart : VO := fun S => .ok (none, S)
def toI : PyData → R Int
  | .int i => .ok i
  | _ => .bad
def vPart (fa : VE) : VO := fun S => (fa S).bind fun p => (toI p.1).bind fun i => .ok (some i, p.2)
theorem s_noPart : SO C tNoPart vNoPart := fun _ H B _ _ R h => h H B R (Same.refl _)
theorem int_of {v : V} {d : PyData} {k : Int → Prop} (h : Da K B v d) (q : Post C (toI d) k) : ∃ b, v = .int b ∧ d = .int b ∧ k b := by
  cases h <;> first | exact q.elim | exact ⟨_, rfl, rfl, q⟩
theorem s_part {ta : TE} {fa : VE} (ha : SE C ta fa) : SO C (tPart ta) (vPart fa) := by
  intro σ H B S Q R h
  unfold vPart at h
  rw [post_bind] at h
  refine ha σ H B S _ R (h.mono fun p h1 v H1 B1 R1 e1 d1 => ?_)
  rw [post_bind] at h1
  obtain ⟨i, rfl, _, h1⟩ := int_of d1 h1
  exact ⟨i, rfl, h1 H1 B1 R1 e1⟩
def cutD {α : Type} (l : List α) (lo hi : Option Int) : List α := (l.drop (HT.sIx l.length 0 lo)).take (HT.sIx l.length l.length hi - HT.sIx l.length 0 lo)
theorem daa_cut {vs : List V} {ds : List PyData} {lo hi : Option Int} (h : DaAll K B vs ds) : DaAll K B (cutV vs lo hi) (cutD ds lo hi) := by
  unfold cutV cutD
  rw [daa_len h]
  exact daa_take _ (daa_drop _ h)
def SSl (C : Ct K n) (r : V → Option Int → Option Int → Hp → VK → Prop) (g : PyData → Option Int → Option Int → R PyData) : Prop := ∀ (σ : L2.St) (H B : Hp) (S : SS) (x : V) (d : PyData) (lo hi : Option Int) (Q : VK), Rep C σ H B S → Da K B x d →
  Post C (g d lo hi) (fun z => ∀ v H' B', Rep C σ H' B' S → Same B B' → Da K B' v z → Q v H') → r x lo hi H Q
def vSl (g : PyData → Option Int → Option Int → R PyData) (fa : VE) (fl fh : VO) : VE := fun S => (fa S).bind fun p => (fl p.2).bind fun l => (fh l.2).bind fun h => (g p.1 l.1 h.1).bind fun z => .ok (z, h.2)
theorem s_sl {r : V → Option Int → Option Int → Hp → VK → Prop} {g : PyData → Option Int → Option Int → R PyData} {ta : TE} {tl th : TO} {fa : VE} {fl fh : VO} (hr : SSl C r g) (ha : SE C ta fa) (hl : SO C tl fl) (hh : SO C th fh) : SE C (tSl r ta tl th) (vSl g fa fl fh) := by
  intro σ H B S Q R h
  unfold vSl at h
  rw [post_bind] at h
  refine ha σ H B S _ R (h.mono fun p h1 v H1 B1 R1 e1 d1 => ?_)
  rw [post_bind] at h1
  refine hl σ H1 B1 p.2 _ R1 (h1.mono fun l h2 H2 B2 R2 e2 => ?_)
  rw [post_bind] at h2
  refine hh σ H2 B2 l.2 _ R2 (h2.mono fun u h3 H3 B3 R3 e3 => ?_)
  rw [post_bind] at h3
  exact hr σ H3 B3 u.2 v p.1 l.1 u.1 Q R3 (da_mono (e2.trans e3) d1) (h3.mono fun z h4 w H4 B4 R4 e4 d4 => h4 w H4 B4 R4 (e1.trans (e2.trans (e3.trans e4))) d4)
def gSlL (d : PyData) (lo hi : Option Int) : R PyData := match d with
  | .list ds => .ok (.list (cutD ds lo hi))
  | _ => .bad
def gSlT (d : PyData) (lo hi : Option Int) : R PyData := match d with
  | .tuple ds => .ok (.tuple (cutD ds lo hi))
  | _ => .bad
theorem l_slL : SSl C (rSlL K) gSlL := by
  intro σ H B S x d lo hi Q R h1 h
  cases h1 with
  | lst s a =>
    refine ⟨_, _, rfl, SqL.of (R.base.bh _ _ s), fun p hp => ?_⟩
    obtain ⟨B', R1, e1, d1⟩ := R.lst hp (daa_cut a)
    exact h _ _ B' R1 e1 d1
  | _ => exact h.elim
/-- xs[::-1] -/
def gRevL : PyData → R PyData
  | .list ds => .ok (.list ds.reverse)
  | _ => .bad
/-! ### targets -/
def SG (C : Ct K n) (g : TG) (fg : PyData → SS → R SS) (ts : List Nat) : Prop := ∀ (σ : L2.St) (H B : Hp) (S : SS) (v : V) (d : PyData) (Q : L2.St → Hp → Prop), Rep C σ H B S → Da K B v d →
  Post C (fg d S) (fun S' => ∀ σ', Rep C σ' H B S' → σ'.length = σ.length → (∀ i, i ∉ ts → σ'[i]? = σ[i]?) → Q σ' H) → g v σ H Q
def SGs (C : Ct K n) (g : TGs) (fg : List PyData → SS → R SS) (ts : List Nat) : Prop := ∀ (σ : L2.St) (H B : Hp) (S : SS) (vs : List V) (ds : List PyData) (Q : L2.St → Hp → Prop), Rep C σ H B S → DaAll K B vs ds →
  Post C (fg ds S) (fun S' => ∀ σ', Rep C σ' H B S' → σ'.length = σ.length → (∀ i, i ∉ ts → σ'[i]? = σ[i]?) → Q σ' H) → g vs σ H Q
def aName (i : Nat) : PyData → SS → R SS := fun d S => .ok (S.set i (some (.dat d)))
theorem g_name {i : Nat} (hi : n ≤ i) : SG C (gName i) (aName i) [i] := by
  intro σ H B S v d Q R dv h
  exact h _ (R.put hi dv) (by simp) fun j hj => List.getElem?_set_ne (fun e => hj (by simp [e]))
def aNil : List PyData → SS → R SS := fun ds S => match ds with
  | [] => .ok S
  | _ => .bad
def aCons (f : PyData → SS → R SS) (g : List PyData → SS → R SS) : List PyData → SS → R SS := fun ds S => match ds with
  | d :: ds => (f d S).bind fun S1 => g ds S1
  | [] => .bad
theorem g_nil : SGs C gNil aNil [] := by
  intro σ H B S vs ds Q R dv h
  cases dv with
  | nil => exact ⟨rfl, h σ R rfl fun _ _ => rfl⟩
  | cons => exact h.elim
theorem g_cons {g : TG} {gs : TGs} {f : PyData → SS → R SS} {fs : List PyData → SS → R SS} {ts us : List Nat} (h1 : SG C g f ts) (h2 : SGs C gs fs us) : SGs C (gCons g gs) (aCons f fs) (ts ++ us) := by
  intro σ H B S vs ds Q R dv h
  cases dv with
  | nil => exact h.elim
  | cons d t =>
    replace h := post_bind.mp h
    refine ⟨_, _, rfl, h1 σ H B S _ _ _ R d (h.mono fun S1 h σ1 R1 l1 k1 => ?_)⟩
    exact h2 σ1 H B S1 _ _ _ R1 t (h.mono fun S2 h σ2 R2 l2 k2 => h σ2 R2 (l2.trans l1) fun i hi => by
      rw [List.mem_append] at hi
      exact (k2 i fun z => hi (.inr z)).trans (k1 i fun z => hi (.inl z)))
def aTup (m : Nat) (f : List PyData → SS → R SS) : PyData → SS → R SS := fun d S => match d with
  | .tuple ds => R.when (ds.length = m) (f ds S)
  | _ => .bad
theorem g_tup {m : Nat} {gs : TGs} {fs : List PyData → SS → R SS} {ts : List Nat} (h1 : SGs C gs fs ts) : SG C (gTup K m gs) (aTup m fs) ts := by
  intro σ H B S v d Q R dv h
  cases dv with
  | tup s a =>
    obtain ⟨k, h⟩ := post_when.mp h
    exact ⟨_, _, rfl, sm_t R.base.bh s, (daa_len a).trans k, h1 σ H B S _ _ Q R a h⟩
  | _ => exact h.elim
/-! ### what is walked -/
/-- the walk J over ds, whatever else changes -/
structure Walks (C : Ct K n) (B : Hp) (J : It) (ds : List PyData) : Prop where
  go : ∀ (i : Nat) (H : Hp), i < ds.length → Same B H → J.go i H
  stop : ∀ (H : Hp), Same B H → J.stop ds.length H
  yld : ∀ (i : Nat) (H H' : Hp) (x : V) (d : PyData), ds[i]? = some d → J.yld i H x H' → ∀ (C : Ct K n) σ B1 S, Rep C σ H B1 S → Same B B1 → ∃ B', Rep C σ H' B' S ∧ Same B1 B' ∧ Da K B' x d ∧ ∀ D o, H D = some o → H' D = some o
def SI (C : Ct K n) (w : TI) (f : VF) : Prop := ∀ (σ : L2.St) (H B : Hp) (S : SS) (Rr : It → Hp → Prop), Rep C σ H B S →
  Post C (f S) (fun p => ∀ J H' B', Rep C σ H' B' p.2 → Same B B' → Walks C B' J p.1 → Rr J H') → w σ H Rr
theorem walks_list {a : Addr} {xs : List V} {ds : List PyData} (s : B a = some (.lst xs)) (h : DaAll K B xs ds) : Walks C B (Itl K a) ds where
  go := fun i H hi e => by
    rw [← daa_len h] at hi
    exact ⟨xs, xs[i], SqL.of (e _ _ s), List.getElem?_eq_getElem hi⟩
  stop := fun H e => ⟨xs, SqL.of (e _ _ s), by rw [daa_len h]; exact Nat.le_refl _⟩
  yld := fun i H H' x d hd y C σ B1 S R e => by
    obtain ⟨rfl, y⟩ := y
    have hx := y xs (SqL.of (R.base.bh _ _ (e _ _ s)))
    obtain ⟨d', q1, q2⟩ := daa_at h hx
    rw [hd] at q1
    cases q1
    exact ⟨B1, R, Same.refl _, da_mono e q2, fun _ _ z => z⟩
theorem walks_tup {a : Addr} {xs : List V} {ds : List PyData} (s : SqT K B a xs) (h : DaAll K B xs ds) : Walks C B (Itt K a) ds where
  go := fun i H hi e => by
    rw [← daa_len h] at hi
    exact ⟨xs, xs[i], sm_t e s, List.getElem?_eq_getElem hi⟩
  stop := fun H e => ⟨xs, sm_t e s, by rw [daa_len h]; exact Nat.le_refl _⟩
  yld := fun i H H' x d hd y C σ B1 S R e => by
    obtain ⟨rfl, y⟩ := y
    have hx := y xs (sm_t (e.trans R.base.bh) s)
    obtain ⟨d', q1, q2⟩ := daa_at h hx
    rw [hd] at q1
    cases q1
    exact ⟨B1, R, Same.refl _, da_mono e q2, fun _ _ z => z⟩
def rangeD (lo : Int) (m : Nat) : List PyData := (List.range m).map fun i => .int (lo + (i : Nat))
theorem walks_range {lo : Int} {m : Nat} : Walks C B (Itr lo m) (rangeD lo m) where
  go := fun i H hi _ => by
    unfold rangeD at hi
    rw [List.length_map, List.length_range] at hi
    exact hi
  stop := fun H _ => by
    unfold rangeD
    rw [List.length_map, List.length_range]
    exact Nat.le_refl m
  yld := fun i H H' x d hd y C σ B1 S R e => by
    obtain ⟨rfl, rfl⟩ := y
    unfold rangeD at hd
    rw [List.getElem?_map] at hd
    have hi : i < m := by
      rcases Nat.lt_or_ge i m with q | q
      · exact q
      · rw [List.getElem?_eq_none (by rw [List.length_range]; exact q)] at hd
        cases hd
    rw [List.getElem?_range hi] at hd
    cases hd
    exact ⟨B1, R, Same.refl _, .int _, fun _ _ z => z⟩
def vIter (fa : VE) : VF := fun S => (fa S).bind fun p => match p.1 with
  | .list ds => .ok (ds, p.2)
  | _ => .bad
def vIterT (fa : VE) : VF := fun S => (fa S).bind fun p => match p.1 with
  | .tuple ds => .ok (ds, p.2)
  | _ => .bad
theorem i_list {ta : TE} {fa : VE} (ha : SE C ta fa) : SI C (iList K ta) (vIter fa) := by
  intro σ H B S Rr R h
  replace h := post_bind.mp h
  refine ha σ H B S _ R (h.mono fun p h1 v H1 B1 R1 e1 d1 => ?_)
  obtain ⟨d, S1⟩ := p
  dsimp only at d1 h1 R1
  cases d1 with
  | lst s a => exact ⟨_, rfl, ⟨_, SqL.of (R1.base.bh _ _ s)⟩, h1 _ H1 B1 R1 e1 (walks_list s a)⟩
  | _ => exact h1.elim
theorem i_tup {ta : TE} {fa : VE} (ha : SE C ta fa) : SI C (iTup K ta) (vIterT fa) := by
  intro σ H B S Rr R h
  replace h := post_bind.mp h
  refine ha σ H B S _ R (h.mono fun p h1 v H1 B1 R1 e1 d1 => ?_)
  obtain ⟨d, S1⟩ := p
  dsimp only at d1 h1 R1
  cases d1 with
  | tup s a => exact ⟨_, rfl, ⟨_, sm_t R1.base.bh s⟩, h1 _ H1 B1 R1 e1 (walks_tup s a)⟩
  | _ => exact h1.elim
def vRange1 (fa : VA) : VF := fun S => (fa S).bind fun p => match p.1 with
  | [.int j] => R.when (-1000000 ≤ j ∧ j ≤ 1000000) (.ok (rangeD 0 j.toNat, p.2))
  | _ => .bad
def vRange2 (fa : VA) : VF := fun S => (fa S).bind fun p => match p.1 with
  | [.int i, .int j] => R.when ((-1000000 ≤ i ∧ i ≤ 1000000) ∧ -1000000 ≤ j ∧ j ≤ 1000000) (.ok (rangeD i (j - i).toNat, p.2))
  | _ => .bad
theorem i_range1 {ta : TA} {fa : VA} (ha : SA C ta fa) : SI C (iRng1 ta) (vRange1 fa) := by
  intro σ H B S Rr R h
  replace h := post_bind.mp h
  refine ha σ H B S _ R (h.mono fun p h1 v H1 B1 R1 e1 d1 => ?_)
  obtain ⟨d, S1⟩ := p
  dsimp only at d1 h1 R1
  split at h1
  · rename_i j
    obtain ⟨⟨k1, k2⟩, h1⟩ := post_when.mp h1
    cases d1 with
    | cons q1 t =>
      cases t
      cases q1
      exact ⟨j, rfl, by omega, by omega, h1 _ H1 B1 R1 e1 walks_range⟩
  · exact h1.elim
/-! zip of two lists -/
def zipD (ds es : List PyData) : List PyData := (ds.zip es).map fun p => .tuple [p.1, p.2]
/-! enumerate of a list -/
def enumD (ds : List PyData) : List PyData := (ds.zipIdx).map fun p => .tuple [.int (p.2 : Nat), p.1]
theorem enumD_get {ds : List PyData} {i : Nat} {d : PyData} (h : ds[i]? = some d) : (enumD ds)[i]? = some (.tuple [.int (i : Nat), d]) := by
  unfold enumD
  rw [List.getElem?_map, List.getElem?_zipIdx, h]
  simp
theorem enumD_len {ds : List PyData} : (enumD ds).length = ds.length := by simp [enumD]
/-! ### statements -/
def vNext : VS := fun S => .ok (.nx S)
def vBrk : VS := fun S => .ok (.bk S)
def vCnt : VS := fun S => .ok (.ct S)
def vRet (fa : VE) : VS := fun S => (fa S).bind fun p => .ok (.rt p.1 p.2)
def vRetN : VS := fun S => .ok (.rt .none S)
def vDrop (fa : VE) : VS := fun S => (fa S).bind fun p => .ok (.nx p.2)
def seqF (fb : VS) : FL → R FL
  | .nx S => fb S
  | f => .ok f
def vSeq (fa fb : VS) : VS := fun S => (fa S).bind (seqF fb)
def vIfS (fc : VT) (fa fb : VS) : VS := fun S => (fc S).bind fun p => if p.1 = true then fa p.2 else fb p.2
def vAsg (fa : VE) (fg : PyData → SS → R SS) : VS := fun S => (fa S).bind fun p => (fg p.1 p.2).bind fun S => .ok (.nx S)
theorem st_next : SSt C tNext vNext := fun σ H B _ _ R h => h σ H B R (Same.refl _)
theorem st_brk : SSt C tBreak vBrk := fun σ H B _ _ R h => h σ H B R (Same.refl _)
theorem st_ret {ta : TE} {fa : VE} (ha : SE C ta fa) : SSt C (tRet ta) (vRet fa) := by
  intro σ H B S D R h
  replace h := post_bind.mp h
  exact ha σ H B S _ R (h.mono fun p h1 v H1 B1 R1 e1 d1 => h1 v σ H1 B1 R1 e1 d1)
theorem st_drop {ta : TE} {fa : VE} (ha : SE C ta fa) : SSt C (tDrop ta) (vDrop fa) := by
  intro σ H B S D R h
  replace h := post_bind.mp h
  exact ha σ H B S _ R (h.mono fun p h1 v H1 B1 R1 e1 d1 => h1 σ H1 B1 R1 e1)
theorem FlPost.from {B0 : Hp} {D : Ends} {fl : FL} (h : FlPost C B0 D fl) (e : Same B0 B) : FlPost C B D fl := by
  cases fl with
  | nx S => exact fun σ' H' B' R e' => h σ' H' B' R (e.trans e')
  | rt d S => exact fun v σ' H' B' R e' => h v σ' H' B' R (e.trans e')
  | bk S => exact fun σ' H' B' R e' => h σ' H' B' R (e.trans e')
  | ct S => exact fun σ' H' B' R e' => h σ' H' B' R (e.trans e')
theorem st_seq {ta tb : TS} {fa fb : VS} (ha : SSt C ta fa) (hb : SSt C tb fb) : SSt C (tSeq ta tb) (vSeq fa fb) := by
  intro σ H B S D R h
  replace h := post_bind.mp h
  refine ha σ H B S _ R (h.mono fun fl h1 => ?_)
  cases fl with
  | nx S1 => exact fun σ' H' B' R1 e1 => hb σ' H' B' S1 D R1 (Post.mono h1 fun fl q => q.from e1)
  | rt d S1 => exact h1
  | bk S1 => exact h1
  | ct S1 => exact h1
theorem st_if {tc : TT} {ta tb : TS} {fc : VT} {fa fb : VS} (hc : ST C tc fc) (ha : SSt C ta fa) (hb : SSt C tb fb) : SSt C (tIfS tc ta tb) (vIfS fc fa fb) := by
  intro σ H B S D R h
  replace h := post_bind.mp h
  refine hc σ H B S _ R (h.mono fun p h1 H1 B1 R1 e1 => ?_)
  obtain ⟨c, S1⟩ := p
  cases c with
  | true => exact ha σ H1 B1 S1 D R1 (Post.mono h1 fun fl q => q.from e1)
  | false => exact hb σ H1 B1 S1 D R1 (Post.mono h1 fun fl q => q.from e1)
theorem st_asg {ta : TE} {fa : VE} {g : TG} {fg : PyData → SS → R SS} {ts : List Nat} (ha : SE C ta fa) (hg : SG C g fg ts) : SSt C (tAsg ta g) (vAsg fa fg) := by
  intro σ H B S D R h
  replace h := post_bind.mp h
  refine ha σ H B S _ R (h.mono fun p h1 v H1 B1 R1 e1 d1 => ?_)
  exact hg σ H1 B1 p.2 v p.1 _ R1 d1 ((post_bind.mp h1).mono fun S2 h2 σ' R2 _ _ => h2 σ' H1 B1 R2 e1)
/-- a new list for a slot of its own -/
def vOwn (i : Nat) (f : VF) : VS := fun S => (f S).bind fun p => .ok (.nx (p.2.set i (some (.own p.1))))
theorem st_own {ta : TE} {f : VF} {i : Nat} (hi : n ≤ i) (ha : SEF C ta f) : SSt C (tAsg ta (gName i)) (vOwn i f) := by
  intro σ H B S D R h
  replace h := post_bind.mp h
  refine ha σ H B S _ R (h.mono fun p h1 a vs H1 B1 R1 e1 ha L d1 => ?_)
  exact h1 _ H1 B1 (R1.take hi rfl ⟨a, vs, rfl, ha, L.b, d1⟩ L.h0 L.no) e1
/-- from here on the lists of these slots stay -/
def frzS (i : Nat) (S : SS) : SS := match S[i]? with
  | some (some (.own ds)) => S.set i (some (.dat (.list ds)))
  | _ => S
def vFrz (i : Nat) (f : VS) : VS := fun S => f (frzS i S)
theorem st_frz {t : TS} {f : VS} {i : Nat} (hi : n ≤ i) (h : SSt C t f) : SSt C t (vFrz i f) := by
  intro σ H B S D R q
  unfold vFrz frzS at q
  split at q
  · rename_i ds e
    obtain ⟨B1, R1, e1⟩ := R.rest hi e
    exact h σ H B1 _ D R1 (q.mono fun fl q => q.from e1)
  · exact h σ H B S D R q
/-! ### loops -/
def loopF (fg : PyData → SS → R SS) (fb : VS) : List PyData → SS → R FL
  | [], S => .ok (.nx S)
  | d :: ds, S => (fg d S).bind fun S1 => (fb S1).bind fun fl => match fl with
    | .nx S2 => loopF fg fb ds S2
    | .ct S2 => loopF fg fb ds S2
    | .bk S2 => .ok (.nx S2)
    | .rt d S2 => .ok (.rt d S2)
def vFor (fi : VF) (fg : PyData → SS → R SS) (fb : VS) : VS := fun S => (fi S).bind fun p => loopF fg fb p.1 p.2
theorem st_for {wi : TI} {g : TG} {tb : TS} {fi : VF} {fg : PyData → SS → R SS} {fb : VS} {ts : List Nat} (hi : SI C wi fi) (hg : SG C g fg ts) (hb : SSt C tb fb) : SSt C (tFor wi g tb) (vFor fi fg fb) := by
  intro σ H B S D R h
  replace h := post_bind.mp h
  refine hi σ H B S _ R (h.mono fun p h1 J H1 B1 R1 e1 W => ?_)
  obtain ⟨ds, S1⟩ := p
  dsimp only at h1 R1 W
  refine ⟨fun i m σ' H' => m = ds.length - i ∧ i ≤ ds.length ∧ ∃ B' S', Rep C σ' H' B' S' ∧ Same B1 B' ∧ Post C (loopF fg fb (ds.drop i) S') (FlPost C B D), ⟨ds.length, by simp, Nat.zero_le _, B1, S1, R1, Same.refl _, h1⟩, ?_⟩
  rintro i m σ' H' ⟨rfl, hi, B', S', R', e', q⟩
  have eH : Same B1 H' := e'.trans R'.base.bh
  rcases Nat.lt_or_ge i ds.length with hlt | hge
  · refine .inr ⟨W.go i H' hlt eH, fun σ2 H2 => ∃ B2 S2, Rep C σ2 H2 B2 S2 ∧ Same B1 B2 ∧ Post C (loopF fg fb (ds.drop (i + 1)) S2) (FlPost C B D), ?_, ?_⟩
    · rintro σ2 H2 ⟨B2, S2, R2, e2, q2⟩
      exact ⟨ds.length - (i + 1), by omega, rfl, hlt, B2, S2, R2, e2, q2⟩
    · intro x H2 y
      obtain ⟨B2, R2, e2, dx, _⟩ := W.yld i H' H2 x ds[i] (List.getElem?_eq_getElem hlt) y C σ' B' S' R' e'
      rw [List.drop_eq_getElem_cons hlt] at q
      replace q := post_bind.mp q
      refine hg σ' H2 B2 S' x ds[i] _ R2 dx (q.mono fun S3 q σ3 R3 _ _ => ?_)
      replace q := post_bind.mp q
      refine hb σ3 H2 B2 S3 _ R3 (q.mono fun fl q => ?_)
      have e3 : Same B1 B2 := e'.trans e2
      cases fl with
      | nx S4 => exact fun σ4 H4 B4 R4 e4 => ⟨B4, S4, R4, e3.trans e4, q⟩
      | ct S4 => exact fun σ4 H4 B4 R4 e4 => ⟨B4, S4, R4, e3.trans e4, q⟩
      | bk S4 => exact fun σ4 H4 B4 R4 e4 => q σ4 H4 B4 R4 (e1.trans (e3.trans e4))
      | rt d S4 => exact fun v σ4 H4 B4 R4 e4 => q v σ4 H4 B4 R4 (e1.trans (e3.trans e4))
  · have ei : i = ds.length := by omega
    subst ei
    rw [List.drop_length] at q
    exact .inl ⟨W.stop H' eH, q σ' H' B' R' (e1.trans e')⟩
def fuel : Nat := 100000000000000000000
def loopW (fc : VT) (fb : VS) : Nat → SS → R FL
  | 0, _ => .bad
  | m + 1, S => (fc S).bind fun p => if p.1 = true then (fb p.2).bind fun fl => match fl with
    | .nx S2 => loopW fc fb m S2
    | .ct S2 => loopW fc fb m S2
    | .bk S2 => .ok (.nx S2)
    | .rt d S2 => .ok (.rt d S2)
    else .ok (.nx p.2)
def vWhile (fc : VT) (fb : VS) : VS := fun S => loopW fc fb fuel S
theorem st_while {tc : TT} {tb : TS} {fc : VT} {fb : VS} (hc : ST C tc fc) (hb : SSt C tb fb) : SSt C (tWhile tc tb) (vWhile fc fb) := by
  intro σ H B S D R h
  unfold vWhile at h
  refine ⟨fun m σ' H' => ∃ B' S', Rep C σ' H' B' S' ∧ Same B B' ∧ Post C (loopW fc fb m S') (FlPost C B D), ⟨fuel, B, S, R, Same.refl _, h⟩, ?_⟩
  rintro m σ' H' ⟨B', S', R', e', q⟩
  cases m with
  | zero => exact q.elim
  | succ m =>
    replace q := post_bind.mp q
    refine hc σ' H' B' S' _ R' (q.mono fun p q H2 B2 R2 e2 => ?_)
    obtain ⟨c, S2⟩ := p
    have e3 := e'.trans e2
    cases c with
    | false => exact q σ' H2 B2 R2 e3
    | true =>
      refine ⟨fun σ3 H3 => ∃ B3 S3, Rep C σ3 H3 B3 S3 ∧ Same B B3 ∧ Post C (loopW fc fb m S3) (FlPost C B D), ?_, ?_⟩
      · rintro σ3 H3 ⟨B3, S3, R3, e4, q3⟩
        exact ⟨m, Nat.lt_succ_self _, B3, S3, R3, e4, q3⟩
      · replace q : Post C ((fb S2).bind _) _ := q
        replace q := post_bind.mp q
        refine hb σ' H2 B2 S2 _ R2 (q.mono fun fl q => ?_)
        cases fl with
        | nx S4 => exact fun σ4 H4 B4 R4 e4 => ⟨B4, S4, R4, e3.trans e4, q⟩
        | ct S4 => exact fun σ4 H4 B4 R4 e4 => ⟨B4, S4, R4, e3.trans e4, q⟩
        | bk S4 => exact fun σ4 H4 B4 R4 e4 => q σ4 H4 B4 R4 (e3.trans e4)
        | rt d S4 => exact fun v σ4 H4 B4 R4 e4 => q v σ4 H4 B4 R4 (e3.trans e4)
end
end Bo

namespace Bo
open PySem L2
section
variable {K : PySem.W.Frag} {n : Nat} {C : Ct K n} {σ : L2.St} {H B : Hp} {S : SS}
/-! ### a list that is held aside -/
def Ct.hold (C : Ct K n) (D : Addr) (xs : List V) : Ct K n := { C with H0 := upd C.H0 D (.lst xs) }
section
variable {D : Addr} {xs : List V}
theorem hold_base (h0 : C.H0 D = none) (b : Base (C.hold D xs) H B) : Base C H B := by
  refine ⟨fun a o n q => b.keep a o n (by show upd C.H0 D _ a = _; rw [upd_ne (ne_of_none q h0)]; exact q), b.b0, b.bh, fun a o q => ?_⟩
  rcases b.fr a o q with z | z
  · exact .inl z
  · refine .inr ?_
    have z' : upd C.H0 D (.lst xs) a = none := z
    by_cases e : a = D
    · subst e
      exact h0
    · rw [upd_ne e] at z'
      exact z'
theorem hold_out {e : Exc} (h0 : C.H0 D = none) (h : C.Out e) : (C.hold D xs).Out e := fun H B v b d => h H B v (hold_base h0 b) d
theorem hold_post {α : Type} {x : R α} {k : α → Prop} (h0 : C.H0 D = none) (h : Post C x k) : Post (C.hold D xs) x k := by
  cases x with
  | ok a => exact h
  | err e => exact hold_out h0 h
  | bad => exact h
theorem Rep.hold (R : Rep C σ H B S) (hD : H D = some (.lst xs)) (L : Loose C σ S B D) : Rep (C.hold D xs) σ H B S := by
  refine ⟨⟨fun a o n q => ?_, R.base.b0, R.base.bh, fun a o q => ?_⟩, R.len, fun i s h => ?_, R.dis, fun i s a h m e => ?_, R.box⟩
  · have q' : upd C.H0 D (.lst xs) a = some o := q
    by_cases z : a = D
    · subst z
      rw [upd_same] at q'
      cases q'
      exact hD
    · rw [upd_ne z] at q'
      exact R.base.keep a o n q'
  · rcases R.base.fr a o q with z | z
    · exact .inl z
    · refine .inr ?_
      show upd C.H0 D (.lst xs) a = none
      rw [upd_ne (ne_of_none q L.b)]
      exact z
  · obtain ⟨v, hv, r⟩ := R.slot i s h
    exact ⟨v, hv, by cases s <;> exact r⟩
  · rcases R.ownf i s a h m e with z | z
    · refine .inl ?_
      show upd C.H0 D (.lst xs) a = none
      rw [upd_ne (fun q => L.no i s h m (by rw [← q]; exact e))]
      exact z
    · exact .inr z
theorem Rep.unhold (h0 : C.H0 D = none) (hB : C.B0 D = none) (nb : some D ∉ C.bx) (R : Rep (C.hold D xs) σ H B S) : Rep C σ H B S ∧ H D = some (.lst xs) ∧ Loose C σ S B D := by
  have hH : (C.hold D xs).H0 D = some (.lst xs) := upd_same
  have bD : B D = none := by
    cases q : B D with
    | none => rfl
    | some o =>
      rcases R.base.fr D o q with z | z
      · exact nomatch (z.symm.trans hB)
      · exact nomatch (z.symm.trans hH)
  refine ⟨⟨hold_base h0 R.base, R.len, fun i s h => ?_, R.dis, fun i s a h m e => ?_, R.box⟩, R.base.keep D _ nb hH, bD, h0, fun j u q m e => ?_⟩
  · obtain ⟨v, hv, r⟩ := R.slot i s h
    exact ⟨v, hv, by cases s <;> exact r⟩
  · rcases R.ownf i s a h m e with z | z
    · refine .inl ?_
      have z' : upd C.H0 D (.lst xs) a = none := z
      by_cases q : a = D
      · subst q
        exact h0
      · rw [upd_ne q] at z'
        exact z'
    · exact .inr z
  · rcases R.ownf j u D q m e with z | z
    · exact nomatch (z.symm.trans hH)
    · exact nb (List.mem_of_getElem? z)
end
/-! ### slots set aside -/
def wipeS (S : SS) : List Nat → SS
  | [] => S
  | v :: vs => (wipeS S vs).set v none
def backS (S0 S : SS) : List Nat → SS
  | [] => S
  | v :: vs => (backS S0 S vs).set v (S0[v]?.join)
theorem wipeS_len : ∀ vs : List Nat, (wipeS S vs).length = S.length
  | [] => rfl
  | v :: vs => by
    unfold wipeS
    rw [List.length_set, wipeS_len vs]
theorem backS_len {S0 : SS} : ∀ vs : List Nat, (backS S0 S vs).length = S.length
  | [] => rfl
  | v :: vs => by
    unfold backS
    rw [List.length_set, backS_len vs]
theorem wipeS_some {i : Nat} {s : SV} : ∀ {vs : List Nat}, (wipeS S vs)[i]? = some (some s) → i ∉ vs ∧ S[i]? = some (some s)
  | [], h => ⟨by simp, h⟩
  | v :: vs, h => by
    unfold wipeS at h
    by_cases e : i = v
    · subst e
      have hl := (List.getElem?_eq_some_iff.mp h).1
      rw [List.length_set] at hl
      rw [List.getElem?_set_self hl] at h
      cases h
    · rw [List.getElem?_set_ne (Ne.symm e)] at h
      obtain ⟨h1, h2⟩ := wipeS_some h
      exact ⟨fun z => (List.mem_cons.mp z).elim e h1, h2⟩
theorem backS_some {S0 : SS} {i : Nat} {s : SV} : ∀ {vs : List Nat}, (backS S0 S vs)[i]? = some (some s) → (i ∈ vs ∧ S0[i]? = some (some s)) ∨ (i ∉ vs ∧ S[i]? = some (some s))
  | [], h => .inr ⟨by simp, h⟩
  | v :: vs, h => by
    unfold backS at h
    by_cases e : i = v
    · subst e
      have hl := (List.getElem?_eq_some_iff.mp h).1
      rw [List.length_set] at hl
      rw [List.getElem?_set_self hl] at h
      refine .inl ⟨List.mem_cons_self, ?_⟩
      cases q : S0[i]? with
      | none => rw [q] at h; cases h
      | some o => rw [q] at h; exact h
    · rw [List.getElem?_set_ne (Ne.symm e)] at h
      rcases backS_some h with ⟨h1, h2⟩ | ⟨h1, h2⟩
      · exact .inl ⟨List.mem_cons_of_mem _ h1, h2⟩
      · exact .inr ⟨fun z => (List.mem_cons.mp z).elim e h1, h2⟩
theorem wipe_ext {σ σ' : L2.St} {vs : List Nat} (hl : σ'.length = σ.length) (h : ∀ i, i ∉ vs → σ'[i]? = σ[i]?) : wipe σ' vs = wipe σ vs := by
  have key : ∀ us : List Nat, ∀ i, i ∈ us → ∀ τ : L2.St, i < τ.length → (wipe τ us)[i]? = some none := by
    intro us
    induction us with
    | nil => intro i hi; exact absurd hi (by simp)
    | cons u us ih =>
      intro i hi τ hτ
      unfold wipe
      by_cases e : i = u
      · subst e
        rw [List.getElem?_set_self (by rw [wipe_length]; exact hτ)]
      · rw [List.getElem?_set_ne (Ne.symm e)]
        rcases List.mem_cons.mp hi with z | z
        · exact absurd z e
        · exact ih i z τ hτ
  refine List.ext_getElem? fun i => ?_
  by_cases hi : i ∈ vs
  · by_cases hb : i < σ.length
    · rw [key vs i hi σ hb, key vs i hi σ' (by omega)]
    · rw [List.getElem?_eq_none (by rw [wipe_length]; omega), List.getElem?_eq_none (by rw [wipe_length]; omega)]
  · rw [wipe_out hi, wipe_out hi, h i hi]
theorem Rep.wiped (R : Rep C σ H B S) {vs : List Nat} (hv : ∀ v ∈ vs, n ≤ v) : Rep C (wipe σ vs) H B (wipeS S vs) := by
  refine ⟨R.base, by rw [wipeS_len, wipe_length]; exact R.len, fun i s h => ?_, fun i j s u a h1 h2 m1 m2 e1 e2 => ?_, fun i s a h m e => ?_, fun i a h => ?_⟩
  · obtain ⟨h1, h2⟩ := wipeS_some h
    rw [wipe_out h1]
    exact R.slot i s h2
  · obtain ⟨p1, p2⟩ := wipeS_some h1
    obtain ⟨q1, q2⟩ := wipeS_some h2
    rw [wipe_out p1] at e1
    rw [wipe_out q1] at e2
    exact R.dis i j s u a p2 q2 m1 m2 e1 e2
  · obtain ⟨p1, p2⟩ := wipeS_some h
    rw [wipe_out p1] at e
    exact R.ownf i s a p2 m e
  · have hn : i ∉ vs := fun z => by
      have := hv i z
      have := (List.getElem?_eq_some_iff.mp h).1
      have := C.hbx
      omega
    obtain ⟨q1, s, q2, q3⟩ := R.box i a h
    refine ⟨by rw [wipe_out hn]; exact q1, s, ?_, q3⟩
    have out : ∀ us : List Nat, i ∉ us → (wipeS S us)[i]? = S[i]? := by
      intro us
      induction us with
      | nil => intro _; rfl
      | cons u us ih =>
        intro hu
        unfold wipeS
        rw [List.getElem?_set_ne (fun e => hu (by simp [e]))]
        exact ih fun z => hu (List.mem_cons_of_mem _ z)
    rw [out vs hn]
    exact q2
/-- no slot to be set aside has a list of its own -/
def okS (vs : List Nat) (S : SS) : Bool := vs.all fun v => match S[v]? with
  | some (some s) => !s.mine
  | _ => true
theorem okS_at {vs : List Nat} {i : Nat} {s : SV} (h : okS vs S = true) (hi : i ∈ vs) (e : S[i]? = some (some s)) : s.mine = false := by
  have := List.all_eq_true.mp h i hi
  rw [e] at this
  simpa using this
theorem Rep.back {H1 B1 : Hp} {S1 : SS} {vs : List Nat} (R : Rep C σ H B S) (R1 : Rep C (wipe σ vs) H1 B1 S1) (e : Same B B1) (ok : okS vs S = true) (hv : ∀ v ∈ vs, n ≤ v) : Rep C σ H1 B1 (backS S S1 vs) := by
  have mine : ∀ (i : Nat) s, (backS S S1 vs)[i]? = some (some s) → s.mine = true → i ∉ vs ∧ S1[i]? = some (some s) := fun i s h m => by
    rcases backS_some h with ⟨h1, h2⟩ | h
    · rw [okS_at ok h1 h2] at m
      cases m
    · exact h
  refine ⟨R1.base, by rw [backS_len, R1.len, wipe_length], fun i s h => ?_, fun i j s u a h1 h2 m1 m2 e1 e2 => ?_, fun i s a h m q => ?_, fun i a h => ?_⟩
  · rcases backS_some h with ⟨h1, h2⟩ | ⟨h1, h2⟩
    · obtain ⟨v, hv, r⟩ := R.slot i s h2
      have hm := okS_at ok h1 h2
      exact ⟨v, hv, SR.mono e (fun m => by rw [hm] at m; cases m) r⟩
    · obtain ⟨v, q, r⟩ := R1.slot i s h2
      rw [wipe_out h1] at q
      exact ⟨v, q, r⟩
  · obtain ⟨p1, p2⟩ := mine i s h1 m1
    obtain ⟨q1, q2⟩ := mine j u h2 m2
    exact R1.dis i j s u a p2 q2 m1 m2 (by rw [wipe_out p1]; exact e1) (by rw [wipe_out q1]; exact e2)
  · obtain ⟨p1, p2⟩ := mine i s h m
    exact R1.ownf i s a p2 m (by rw [wipe_out p1]; exact q)
  · have hn : i ∉ vs := fun z => by
      have := hv i z
      have := (List.getElem?_eq_some_iff.mp h).1
      have := C.hbx
      omega
    obtain ⟨q1, s, q2, q3⟩ := R1.box i a h
    refine ⟨by rw [← wipe_out hn]; exact q1, s, ?_, q3⟩
    have out : ∀ us : List Nat, i ∉ us → (backS S S1 us)[i]? = S1[i]? := by
      intro us
      induction us with
      | nil => intro _; rfl
      | cons u us ih =>
        intro hu
        unfold backS
        rw [List.getElem?_set_ne (fun e => hu (by simp [e]))]
        exact ih fun z => hu (List.mem_cons_of_mem _ z)
    rw [out vs hn]
    exact q2
/-! ### comprehensions -/
def lcF (fg : PyData → SS → R SS) (ft : VT) (fe : VE) (vs : List Nat) : List PyData → SS → R (List PyData × SS)
  | [], S => .ok ([], S)
  | d :: ds, S => (fg d S).bind fun S1 => (ft S1).bind fun p => if p.1 = true then (fe p.2).bind fun q => (lcF fg ft fe vs ds (wipeS q.2 vs)).bind fun r => .ok (q.1 :: r.1, r.2) else lcF fg ft fe vs ds (wipeS p.2 vs)
def vLc (vs : List Nat) (fi : VF) (fg : PyData → SS → R SS) (ft : VT) (fe : VE) : VF := fun S => (fi S).bind fun p => R.when (okS vs p.2 = true ∧ p.1.length ≤ 100000) ((lcF fg ft fe vs p.1 (wipeS p.2 vs)).bind fun r => .ok (r.1, backS p.2 r.2 vs))
def vYes : VT := fun S => .ok (true, S)
theorem s_yes : ST C tYes vYes := fun σ H B S Q R h => h H B R (Same.refl _)
theorem f_lc {wi : TI} {g : TG} {tt : TT} {te : TE} {vs ts : List Nat} {fi : VF} {fg : PyData → SS → R SS} {ft : VT} {fe : VE} (hv : vs.all (fun v => decide (n ≤ v)) = true) (hts : ts.all (fun t => decide (t ∈ vs)) = true) (hi : SI C wi fi)
    (hg : ∀ C' : Ct K n, SG C' g fg ts) (ht : ∀ C' : Ct K n, ST C' tt ft) (he : ∀ C' : Ct K n, SE C' te fe) : SEF C (tLc wi g tt te vs) (vLc vs fi fg ft fe) := by
  intro σ H B S Q R h
  have hv' : ∀ v ∈ vs, n ≤ v := fun v m => of_decide_eq_true (List.all_eq_true.mp hv v m)
  have hts' : ∀ t ∈ ts, t ∈ vs := fun t m => of_decide_eq_true (List.all_eq_true.mp hts t m)
  replace h := post_bind.mp h
  refine hi σ H B S _ R (h.mono fun p h J H1 B1 R1 e1 W => ?_)
  obtain ⟨ds, S1⟩ := p
  dsimp only at h R1 W
  obtain ⟨⟨ok, hlen⟩, h⟩ := post_when.mp h
  replace h := post_bind.mp h
  intro D hD
  obtain ⟨h0, hB1, nb⟩ := R1.new hD
  have hB0 : C.B0 D = none := by
    cases q : C.B0 D with
    | none => rfl
    | some o =>
      rw [R1.base.b0 D o q] at hB1
      cases hB1
  refine ⟨fun i m H' => m = ds.length - i ∧ i ≤ ds.length ∧ ∃ B' S' acc accd, Rep C (wipe σ vs) H' B' S' ∧ Same B1 B' ∧ H' D = some (.lst acc) ∧ Loose C (wipe σ vs) S' B' D ∧ DaAll K B' acc accd ∧ accd.length ≤ i ∧
    Post C (lcF fg ft fe vs (ds.drop i) S') (fun r => ∀ a us H'' B'', Rep C σ H'' B'' (backS S1 r.2 vs) → Same B B'' → H'' a = some (.lst us) → Loose C σ (backS S1 r.2 vs) B'' a → DaAll K B'' us (accd ++ r.1) → Q (.ref a) H''), ⟨ds.length, ?_⟩, ?_⟩
  · obtain ⟨R2, L2⟩ := (R1.wiped hv').newLoose (o := .lst []) hD
    exact ⟨by simp, Nat.zero_le _, B1, wipeS S1 vs, [], [], R2, Same.refl _, upd_same, L2, .nil, Nat.le_refl _, h.mono fun r q => q⟩
  rintro i m H' ⟨rfl, hi, B', S', acc, accd, R', e', hA, L, dA, lA, q⟩
  have eH : Same B1 H' := e'.trans R'.base.bh
  rcases Nat.lt_or_ge i ds.length with hlt | hge
  · refine .inr ⟨W.go i H' hlt eH, _, fun H2 z => ⟨ds.length - (i + 1), by omega, rfl, hlt, z⟩, ?_⟩
    intro x H2 y
    have Rh := R'.hold hA L
    obtain ⟨B2, R2, e2, dx, _⟩ := W.yld i H' H2 x ds[i] (List.getElem?_eq_getElem hlt) y (C.hold D acc) (wipe σ vs) B' S' Rh e'
    rw [List.drop_eq_getElem_cons hlt] at q
    replace q := post_bind.mp q
    refine hg (C.hold D acc) (wipe σ vs) H2 B2 S' x ds[i] _ R2 dx (hold_post h0 (q.mono fun S3 q σ3 R3 l3 k3 => ?_))
    have hw : wipe σ3 vs = wipe σ vs := by
      have hw1 : wipe σ3 vs = wipe (wipe σ vs) vs := wipe_ext l3 fun j hj => k3 j fun z => hj (hts' j z)
      have hw2 : wipe (wipe σ vs) vs = wipe σ vs := wipe_ext (wipe_length _ _) fun j hj => wipe_out hj
      rw [hw1, hw2]
    refine ⟨hw, ?_⟩
    replace q := post_bind.mp q
    -- what a turn leaves is the next turn's start
    have next : ∀ {H4 B4 : Hp} {S4 : SS}, Rep (C.hold D acc) σ3 H4 B4 S4 → Rep C (wipe σ vs) H4 B4 (wipeS S4 vs) ∧ H4 D = some (.lst acc) ∧ Loose C (wipe σ vs) (wipeS S4 vs) B4 D ∧ Rep C σ3 H4 B4 S4 ∧ Loose C σ3 S4 B4 D := fun R4 => by
      obtain ⟨R5, hD5, L5⟩ := R4.unhold h0 hB0 nb
      have R6 := R5.wiped hv'
      rw [hw] at R6
      refine ⟨R6, hD5, ⟨L5.b, h0, fun j u z m e => ?_⟩, R5, L5⟩
      obtain ⟨z1, z2⟩ := wipeS_some z
      refine L5.no j u z2 m ?_
      rw [← hw, wipe_out z1] at e
      exact e
    refine ht (C.hold D acc) σ3 H2 B2 S3 _ R3 (hold_post h0 (q.mono fun p q H3 B3 R4 e3 => ?_))
    obtain ⟨c, S4⟩ := p
    cases c with
    | false =>
      obtain ⟨R6, hD6, L6, _, _⟩ := next R4
      have e13 := e2.trans e3
      exact ⟨B3, wipeS S4 vs, acc, accd, R6, e'.trans e13, hD6, L6, daa_mono e13 dA, by omega, q⟩
    | true =>
      replace q : Post C ((fe S4).bind _) _ := q
      replace q := post_bind.mp q
      refine he (C.hold D acc) σ3 H3 B3 S4 _ R4 (hold_post h0 (q.mono fun r q v H5 B5 R5 e5 d5 => ?_))
      replace q := post_bind.mp q
      obtain ⟨R6, hD6, L6, R7, L7⟩ := next R5
      have e15 := e2.trans (e3.trans e5)
      refine ⟨acc, hD6, Nat.lt_of_lt_of_le (Nat.lt_of_le_of_lt (Nat.le_of_eq (daa_len dA)) (Nat.lt_of_le_of_lt lA hlt)) (line_le hlen), ?_⟩
      have R8 : Rep C (wipe σ vs) (upd H5 D (.lst (acc ++ [v]))) B5 (wipeS r.2 vs) := by
        refine R6.grow ⟨fun a o na z => ?_, R6.base.b0, fun a o z => ?_, R6.base.fr⟩ (Same.refl _) fun a o z1 z2 ⟨j, u, z3, z4, z5⟩ => ⟨?_, z2⟩
        · rw [upd_ne (ne_of_none z h0)]
          exact R6.base.keep a o na z
        · rw [upd_ne (ne_of_none z L6.b)]
          exact R6.base.bh a o z
        · rw [upd_ne]
          · exact z1
          · rintro rfl
            exact L6.no j u z3 z4 z5
      refine ⟨B5, wipeS r.2 vs, acc ++ [v], accd ++ [r.1], R8, e'.trans e15, upd_same, L6, daa_app (daa_mono e15 dA) (.cons d5 .nil), ?_, ?_⟩
      · rw [List.length_append, List.length_singleton]
        omega
      · refine q.mono fun w q a us H'' B'' Ra eb hA' L' d' => q a us H'' B'' Ra eb hA' L' ?_
        rw [List.append_assoc] at d'
        exact d'
  · have ei : i = ds.length := by omega
    subst ei
    rw [List.drop_length] at q
    refine .inl ⟨W.stop H' eH, ?_⟩
    have Rb := R1.back R' e' ok hv'
    refine q D acc H' B' Rb (e1.trans e') hA ⟨L.b, h0, fun j u z m e => ?_⟩ (by rw [List.append_nil]; exact dA)
    rcases backS_some z with ⟨z1, z2⟩ | ⟨z1, z2⟩
    · rw [okS_at ok z1 z2] at m
      cases m
    · exact L.no j u z2 m (by rw [wipe_out z1]; exact e)
end
end Bo

namespace Bo
open PySem L2
section
variable {K : PySem.W.Frag} {n : Nat} {C : Ct K n} {σ : L2.St} {H B : Hp} {S : SS}
/-! ### a slot's own list, read -/
def ownD (S : SS) (i : Nat) : R (List PyData) := match S[i]? with
  | some (some (.own ds)) => .ok ds
  | _ => .bad
theorem own_of {i : Nat} {k : List PyData → Prop} (R : Rep C σ H B S) (h : Post C (ownD S i) k) : ∃ ds a vs, S[i]? = some (some (.own ds)) ∧ σ[i]? = some (some (.ref a)) ∧ H a = some (.lst vs) ∧ DaAll K B vs ds ∧ k ds := by
  unfold ownD at h
  split at h
  · rename_i ds e
    obtain ⟨v, hv, a, vs, rfl, h1, _, h3⟩ := R.slot i _ e
    exact ⟨ds, a, vs, e, hv, h1, h3, h⟩
  · exact h.elim
def vLenO (i : Nat) : VE := fun S => (ownD S i).bind fun ds => .ok (.int ds.length, S)
def vIxO (i : Nat) (fk : VE) : VE := fun S => (ownD S i).bind fun _ => (fk S).bind fun p => (ownD p.2 i).bind fun ds => (toI p.1).bind fun k => (ixD ds k).bind fun d => .ok (d, p.2)
theorem s_ixO {i : Nat} {tk : TE} {fk : VE} (hk : SE C tk fk) : SE C (tOp (rIxL K) (tVar i) tk) (vIxO i fk) := by
  intro σ H B S Q R h
  obtain ⟨ds0, a0, vs0, q1, q2, q3, q4, h⟩ := own_of R (post_bind.mp h)
  refine ⟨_, q2, ?_⟩
  replace h := post_bind.mp h
  refine hk σ H B S _ R (h.mono fun p h1 v H1 B1 R1 e1 d1 => ?_)
  obtain ⟨ds, a, vs, e1', e2, e3, e4, h1⟩ := own_of R1 (post_bind.mp h1)
  rw [q2] at e2
  cases e2
  obtain ⟨k, rfl, _, h1⟩ := int_of d1 (post_bind.mp h1)
  unfold ixD at h1
  split at h1
  · rename_i z qz
    obtain ⟨w, hw, dw⟩ := at_da e4 qz
    exact ⟨_, _, _, w, rfl, rfl, SqL.of e3, hw, h1 w H1 B1 R1 e1 dw⟩
  · exact h1.elim
def vInO (neg : Bool) (fa : VE) (i : Nat) : VE := fun S => (fa S).bind fun p => (ownD p.2 i).bind fun ds => R.when (flatD p.1 = true ∧ ds.all flatD = true) (.ok (.bool (if neg then !inD p.1 ds else inD p.1 ds), p.2))
def vTupleO (i : Nat) : VE := fun S => (ownD S i).bind fun ds => .ok (.tuple ds, S)
theorem s_tupleO {i : Nat} : SE C (tCB (fun xs H Q => ∃ p ys, xs = [.ref p] ∧ ((SqL K H p ys ∧ ∀ l, H l = none → Q (.ref l) (upd H l (.tup ys))) ∨ (SqT K H p ys ∧ Q (.ref p) H))) (tCons (tVar i) tNil)) (vTupleO i) := by
  intro σ H B S Q R h
  obtain ⟨ds, a, vs, e1, e2, e3, e4, h⟩ := own_of R (post_bind.mp h)
  refine ⟨_, e2, a, vs, rfl, .inl ⟨SqL.of e3, fun l hl => ?_⟩⟩
  obtain ⟨B', R1, e1, d1⟩ := R.tup hl e4
  exact h _ _ B' R1 e1 d1
def vListO (i : Nat) : VF := fun S => (ownD S i).bind fun ds => .ok (ds, S)
def vTruO (i : Nat) : VT := fun S => (ownD S i).bind fun ds => .ok (!ds.isEmpty, S)
/-! ### a slot's own list, changed -/
/-- xs.append(e) -/
def vApp (i : Nat) (fe : VE) : VE := fun S => (ownD S i).bind fun _ => (fe S).bind fun p => (ownD p.2 i).bind fun ds => R.when (ds.length < 100000) (.ok (.none, p.2.set i (some (.own (ds ++ [p.1])))))
theorem s_app {i : Nat} {te : TE} {fe : VE} (he : SE C te fe) : SE C (tBM K "list" rAppend (tVar i) (tCons te tNil)) (vApp i fe) := by
  intro σ H B S Q R h
  obtain ⟨ds0, a0, vs0, q1, q2, q3, q4, h⟩ := own_of R (post_bind.mp h)
  refine ⟨_, q2, .inl ⟨rfl, _, SqL.of q3⟩, ?_⟩
  replace h := post_bind.mp h
  refine he σ H B S _ R (h.mono fun p h1 v H1 B1 R1 e1 d1 => ?_)
  obtain ⟨ds, a, vs, p1, p2, p3, p4, h1⟩ := own_of R1 (post_bind.mp h1)
  rw [q2] at p2
  cases p2
  obtain ⟨k, h1⟩ := post_when.mp h1
  refine ⟨_, vs, v, rfl, rfl, p3, Nat.lt_of_lt_of_le (by rw [daa_len p4]; exact k) (by decide), ?_⟩
  obtain ⟨_, _, w1, w2, w3⟩ := R1.own_at p1 rfl
  rw [q2] at w1
  cases w1
  exact h1 _ _ B1 (R1.write p1 rfl rfl q2 ⟨_, vs ++ [v], rfl, upd_same, w3, daa_app p4 (.cons d1 .nil)⟩) e1 .non
/-- xs[k] = e -/
def vSetI (i : Nat) (fk fe : VE) : VS := fun S => (fe S).bind fun p => (ownD p.2 i).bind fun _ => (fk p.2).bind fun q => (ownD q.2 i).bind fun ds => (toI q.1).bind fun k => match ixN ds.length k with
  | some j => .ok (.nx (q.2.set i (some (.own (ds.set j p.1)))))
  | none => .bad
theorem st_setI {i : Nat} {tk te : TE} {fk fe : VE} (hk : SE C tk fk) (he : SE C te fe) : SSt C (tAsg te (gSub (tVar i) tk rSetL)) (vSetI i fk fe) := by
  intro σ H B S D R h
  replace h := post_bind.mp h
  refine he σ H B S _ R (h.mono fun p h1 v H1 B1 R1 e1 d1 => ?_)
  obtain ⟨ds0, a0, vs0, q1, q2, q3, q4, h1⟩ := own_of R1 (post_bind.mp h1)
  refine ⟨_, q2, ?_⟩
  replace h1 := post_bind.mp h1
  refine hk σ H1 B1 p.2 _ R1 (h1.mono fun q h2 w H2 B2 R2 e2 d2 => ?_)
  obtain ⟨ds, a, vs, p1, p2, p3, p4, h2⟩ := own_of R2 (post_bind.mp h2)
  rw [q2] at p2
  cases p2
  obtain ⟨k, rfl, _, h2⟩ := int_of d2 (post_bind.mp h2)
  split at h2
  · rename_i j ej
    obtain ⟨_, _, w1, w2, w3⟩ := R2.own_at p1 rfl
    rw [q2] at w1
    cases w1
    refine ⟨_, vs, k, j, rfl, rfl, p3, by rw [daa_len p4]; exact ej, ?_⟩
    exact h2 _ _ B2 (R2.write p1 rfl rfl q2 ⟨_, vs.set j v, rfl, upd_same, w3, daa_set j p4 (da_mono e2 d1)⟩) (e1.trans e2)
  · exact h2.elim
/-! ### dicts of a slot -/
def vNewD (i : Nat) : VS := fun S => .ok (.nx (S.set i (some (.dic []))))
theorem st_newD {i : Nat} (hi : n ≤ i) : SSt C (tAsg tDNewK (gName i)) (vNewD i) := by
  intro σ H B S D R h p hp
  obtain ⟨R2, L⟩ := R.newLoose (o := .dK []) hp
  exact h _ _ B (R2.take hi rfl ⟨p, [], rfl, upd_same, L.b, .nil⟩ L.h0 L.no) (Same.refl _)
def keyD : PyData → R Key
  | .int i => .ok (.inl i)
  | .str x => .ok (.inr x)
  | _ => .bad
theorem key_of {v : V} {d : PyData} {k : Key → Prop} (h : Da K B v d) (q : Post C (keyD d) k) : ∃ y, v = kV y ∧ keyD d = .ok y ∧ k y := by
  cases h <;> first | exact q.elim | exact ⟨_, rfl, rfl, q⟩
def putD (kvs : List (Key × PyData)) (k : Key) (d : PyData) : List (Key × PyData) :=
  if (kvs.any fun kv => decide (kv.1 = k)) = true then kvs.map (fun kv => if kv.1 = k then (kv.1, d) else kv) else kvs ++ [(k, d)]
theorem dpks_any {ws : List (Key × V)} {kvs : List (Key × PyData)} {k : Key} : DpKs K B ws kvs → (ws.any fun kv => decide (kv.1 = k)) = kvs.any fun kv => decide (kv.1 = k)
  | .nil => rfl
  | .cons h t => by
    have ih := dpks_any (k := k) t
    rw [List.any_cons, List.any_cons, h.1, ih]
theorem dpks_map {ws : List (Key × V)} {kvs : List (Key × PyData)} {k : Key} {v : V} {d : PyData} (dv : Da K B v d) : DpKs K B ws kvs → DpKs K B (ws.map fun kv => if kv.1 = k then (kv.1, v) else kv) (kvs.map fun kv => if kv.1 = k then (kv.1, d) else kv)
  | .nil => .nil
  | .cons (b := b) h t => by
    refine .cons ?_ (dpks_map dv t)
    dsimp only
    rw [h.1]
    by_cases e : b.1 = k
    · rw [if_pos e, if_pos e]
      exact ⟨rfl, dv⟩
    · rw [if_neg e, if_neg e]
      exact h
theorem dpks_app {ws xs : List (Key × V)} {kvs es : List (Key × PyData)} (s : DpKs K B xs es) : DpKs K B ws kvs → DpKs K B (ws ++ xs) (kvs ++ es)
  | .nil => s
  | .cons h t => .cons h (dpks_app s t)
theorem dpks_len {ws : List (Key × V)} {kvs : List (Key × PyData)} : DpKs K B ws kvs → ws.length = kvs.length
  | .nil => rfl
  | .cons _ t => congrArg (· + 1) (dpks_len t)
theorem dpks_put {ws : List (Key × V)} {kvs : List (Key × PyData)} {k : Key} {v : V} {d : PyData} (h : DpKs K B ws kvs) (dv : Da K B v d) : DpKs K B (putK ws k v) (putD kvs k d) := by
  unfold putK putD
  rw [dpks_any h]
  split
  · exact dpks_map dv h
  · exact dpks_app (.cons ⟨rfl, dv⟩ .nil) h
def dicD (S : SS) (i : Nat) : R (List (Key × PyData)) := match S[i]? with
  | some (some (.dic ds)) => .ok ds
  | _ => .bad
theorem dic_of {i : Nat} {k : List (Key × PyData) → Prop} (R : Rep C σ H B S) (h : Post C (dicD S i) k) : ∃ ds a vs, S[i]? = some (some (.dic ds)) ∧ σ[i]? = some (some (.ref a)) ∧ H a = some (.dK vs) ∧ DpKs K B vs ds ∧ k ds := by
  unfold dicD at h
  split at h
  · rename_i ds e
    obtain ⟨v, hv, a, vs, rfl, h1, _, h3⟩ := R.slot i _ e
    exact ⟨ds, a, vs, e, hv, h1, h3, h⟩
  · exact h.elim
/-- d[k] = e: the value first -/
def vPutD (i : Nat) (fk fe : VE) : VS := fun S => (fe S).bind fun p => (dicD p.2 i).bind fun _ => (fk p.2).bind fun q => (keyD q.1).bind fun y => (dicD q.2 i).bind fun kvs => R.when (kvs.length < 100000) (.ok (.nx (q.2.set i (some (.dic (putD kvs y p.1))))))
theorem st_putD {i : Nat} {tk te : TE} {fk fe : VE} (hk : SE C tk fk) (he : SE C te fe) : SSt C (sDPut (tVar i) tk te) (vPutD i fk fe) := by
  intro σ H B S D R h
  replace h := post_bind.mp h
  refine he σ H B S _ R (h.mono fun p h1 v H1 B1 R1 e1 d1 => ?_)
  obtain ⟨ds0, a0, vs0, q1, q2, q3, q4, h1⟩ := dic_of R1 (post_bind.mp h1)
  refine ⟨_, q2, ?_⟩
  replace h1 := post_bind.mp h1
  refine hk σ H1 B1 p.2 _ R1 (h1.mono fun q h2 w H2 B2 R2 e2 d2 => ?_)
  obtain ⟨y, rfl, _, h2⟩ := key_of d2 (post_bind.mp h2)
  obtain ⟨kvs, a, ws, p1, p2, p3, p4, h2⟩ := dic_of R2 (post_bind.mp h2)
  rw [q2] at p2
  cases p2
  obtain ⟨k, h2⟩ := post_when.mp h2
  obtain ⟨_, _, w1, w2, w3⟩ := R2.own_at p1 rfl
  rw [q2] at w1
  cases w1
  refine ⟨_, _, rfl, .inl ⟨ws, y, p3, rfl, Nat.lt_of_lt_of_le (by rw [dpks_len p4]; exact k) (by decide), rfl⟩, ?_⟩
  exact h2 _ _ B2 (R2.write p1 rfl rfl q2 ⟨_, putK ws y v, rfl, upd_same, w3, dpks_put p4 (da_mono e2 d1)⟩) (e1.trans e2)
/-! ### calls -/
def Frz (H B B' : Hp) : Prop := ∀ a o, B' a = some o → B a = some o ∨ H a = none
def R.okTo {α : Type} (x : R α) (k : α → Prop) : Prop := match x with
  | .ok a => k a
  | _ => False
def R.noErr {α : Type} (x : R α) : R α := match x with
  | .ok a => .ok a
  | _ => .bad
/-- a def that changes nothing and raises nothing -/
def spP (K : PySem.W.Frag) (m : Nat) (den : List PyData → R PyData) : Sp := fun vs H Q _ => ∃ (ds : List PyData) (B : Hp), DaAll K B vs ds ∧ Same B H ∧ ds.length = m ∧
  (den ds).okTo fun z => ∀ v H' B', Same H H' → Same B B' → Same B' H' → Frz H B B' → Da K B' v z → Q v H'
/-- a def whose first argument is a list that it may change -/
def spB (K : PySem.W.Frag) (m : Nat) (den : List PyData → List PyData → R (PyData × List PyData)) : Sp := fun vs H Q _ => ∃ (a : Addr) (us ws : List V) (bs ds : List PyData) (B : Hp), vs = .ref a :: us ∧ H a = some (.lst ws) ∧ B a = none ∧ DaAll K B ws bs ∧ DaAll K B us ds ∧ Same B H ∧ ds.length = m ∧
  (den bs ds).okTo fun z => ∀ v H' B' ws', (∀ b o, b ≠ a → H b = some o → H' b = some o) → Same B B' → Same B' H' → Frz H B B' → B' a = none → H' a = some (.lst ws') → DaAll K B' ws' z.2 → Da K B' v z.1 → Q v H'
/-- a def of the script -/
def spS (K : PySem.W.Frag) (den : List Int → R PyData) : Sp := fun vs H Q _ => ∃ (a : Addr) (ns : List Int) (B : Hp), vs = [.ref a] ∧ SqL K B a (ns.map V.int) ∧ Same B H ∧
  (den ns).okTo fun z => ∀ v H' B', Same H H' → Same B B' → Same B' H' → Frz H B B' → Da K B' v z → Q v H'
theorem okTo_of {α : Type} {x : R α} {k : α → Prop} (h : Post C x.noErr k) : x.okTo k := by
  cases x with
  | ok a => exact h
  | err e => exact h.elim
  | bad => exact h.elim
theorem R.okTo.mono {α : Type} {x : R α} {k k' : α → Prop} (h : x.okTo k) (m : ∀ a, k a → k' a) : x.okTo k' := by
  cases x with
  | ok a => exact m a h
  | err e => exact h
  | bad => exact h
/-- behind a call that changed nothing of ours -/
theorem Rep.after {H' B' : Hp} (R : Rep C σ H B S) (sH : Same H H') (sB : Same B B') (bh : Same B' H') (fz : Frz H B B') : Rep C σ H' B' S := by
  refine R.grow ⟨fun a o na q => sH a o (R.base.keep a o na q), R.base.b0.trans sB, bh, fun a o q => ?_⟩ sB fun a o h1 h2 _ => ⟨sH a o h1, ?_⟩
  · rcases fz a o q with z | z
    · exact R.base.fr a o z
    · exact .inr (R.new z).1
  · cases q : B' a with
    | none => rfl
    | some u =>
      rcases fz a u q with z | z
      · exact nomatch (h2.symm.trans z)
      · exact nomatch (h1.symm.trans z)
def vCallP (m : Nat) (den : List PyData → R PyData) (fa : VA) : VE := fun S => (fa S).bind fun p => R.when (p.1.length = m) (((den p.1).noErr).bind fun z => .ok (z, p.2))
theorem s_callP {m : Nat} {den : List PyData → R PyData} {E : XK} {ta : TA} {fa : VA} (ha : SA C ta fa) : SE C (tCall (spP K m den) [] E ta) (vCallP m den fa) := by
  intro σ H B S Q R h
  replace h := post_bind.mp h
  refine ha σ H B S _ R (h.mono fun p h1 vs H1 B1 R1 e1 d1 => ?_)
  obtain ⟨k, h1⟩ := post_when.mp h1
  replace h1 := post_bind.mp h1
  rw [List.append_nil]
  exact ⟨p.1, B1, d1, R1.base.bh, k, (okTo_of h1).mono fun z h2 v H' B' sH sB bh fz dv => h2 v H' B' (R1.after sH sB bh fz) (e1.trans sB) dv⟩
/-- behind a call that changed our slot's list -/
theorem Rep.afterB {H' B' : Hp} {i : Nat} {a : Addr} {s s' : SV} {o' : HO} (R : Rep C σ H B S) (h : S[i]? = some (some s)) (m : s.mine = true) (m' : s'.mine = true) (hv : σ[i]? = some (some (.ref a))) (sH : ∀ b o, b ≠ a → H b = some o → H' b = some o) (sB : Same B B') (bh : Same B' H') (fz : Frz H B B')
    (hb : B' a = none) (hH : H' a = some o') (r : SR C H' B' (.ref a) s') : Rep C σ H' B' (S.set i (some s')) := by
  obtain ⟨a', o, e1, e2, e3⟩ := R.own_at h m
  rw [hv] at e1
  cases e1
  -- first the change at a alone, then the growth of the rest
  have hl : i < S.length := (List.getElem?_eq_some_iff.mp h).1
  have at_ : ∀ j u, (S.set i (some s'))[j]? = some (some u) → (j = i ∧ u = s') ∨ (j ≠ i ∧ S[j]? = some (some u)) := fun j u h => by
    by_cases e : j = i
    · subst e
      rw [List.getElem?_set_self hl] at h
      cases h
      exact .inl ⟨rfl, rfl⟩
    · rw [List.getElem?_set_ne (Ne.symm e)] at h
      exact .inr ⟨e, h⟩
  have old : ∀ (j : Nat) (u : SV), (S.set i (some s'))[j]? = some (some u) → u.mine = true → ∃ u' : SV, S[j]? = some (some u') ∧ u'.mine = true := fun j u h2 m2 => by
    rcases at_ j u h2 with ⟨x1, x2⟩ | ⟨x1, x2⟩
    · subst x1
      exact ⟨s, h, m⟩
    · exact ⟨u, x2, m2⟩
  refine ⟨⟨fun b u nb q => ?_, R.base.b0.trans sB, bh, fun b u q => ?_⟩, by simp [R.len], fun j u h2 => ?_, fun j k u w b h1 h2 m1 m2 q1 q2 => ?_, fun j u b h1 m e => ?_, fun j b h1 => ?_⟩
  · refine sH b u ?_ (R.base.keep b u nb q)
    rintro rfl
    rcases R.ownf i s b h m hv with z | z
    · rw [z] at q
      cases q
    · exact nb (List.mem_of_getElem? z)
  · rcases fz b u q with z | z
    · exact R.base.fr b u z
    · exact .inr (R.new z).1
  · rcases at_ j u h2 with ⟨x1, x2⟩ | ⟨x1, x2⟩
    · subst x1 x2
      exact ⟨_, hv, r⟩
    · obtain ⟨v, q1, q2⟩ := R.slot j u x2
      refine ⟨v, q1, SR.mono sB (fun mu b e ob h1 h2 => ⟨sH b ob ?_ h1, ?_⟩) q2⟩
      · rintro rfl
        exact x1 (R.dis j i u s b x2 h mu m (by rw [q1, e]) hv)
      · cases q : B' b with
        | none => rfl
        | some w =>
          rcases fz b w q with z | z
          · exact nomatch (h2.symm.trans z)
          · exact nomatch (h1.symm.trans z)
  · obtain ⟨u', z1, z2⟩ := old j u h1 m1
    obtain ⟨w', z3, z4⟩ := old k w h2 m2
    exact R.dis j k u' w' b z1 z3 z2 z4 q1 q2
  · obtain ⟨u', z1, z2⟩ := old j u h1 m
    exact R.ownf j u' b z1 z2 e
  · obtain ⟨q1, u, q2, q3⟩ := R.box j b h1
    refine ⟨q1, ?_⟩
    by_cases e : j = i
    · subst e
      exact ⟨s', List.getElem?_set_self hl, m'⟩
    · rw [List.getElem?_set_ne (Ne.symm e)]
      exact ⟨u, q2, q3⟩
def vCallB (m : Nat) (den : List PyData → List PyData → R (PyData × List PyData)) (i : Nat) (fa : VA) : VE := fun S => (ownD S i).bind fun _ => (fa S).bind fun p => (ownD p.2 i).bind fun bs => R.when (p.1.length = m) (((den bs p.1).noErr).bind fun z => .ok (z.1, p.2.set i (some (.own z.2))))
theorem s_callB {m i : Nat} {den : List PyData → List PyData → R (PyData × List PyData)} {E : XK} {ta : TA} {fa : VA} (ha : SA C ta fa) : SE C (tCall (spB K m den) [] E (tCons (tVar i) ta)) (vCallB m den i fa) := by
  intro σ H B S Q R h
  obtain ⟨ds0, a0, vs0, q1, q2, q3, q4, h⟩ := own_of R (post_bind.mp h)
  refine ⟨_, q2, ?_⟩
  replace h := post_bind.mp h
  refine ha σ H B S _ R (h.mono fun p h1 vs H1 B1 R1 e1 d1 => ?_)
  obtain ⟨bs, a, ws, p1, p2, p3, p4, h1⟩ := own_of R1 (post_bind.mp h1)
  rw [q2] at p2
  cases p2
  obtain ⟨k, h1⟩ := post_when.mp h1
  replace h1 := post_bind.mp h1
  obtain ⟨_, _, w1, w2, w3⟩ := R1.own_at p1 rfl
  rw [q2] at w1
  cases w1
  rw [List.append_nil]
  exact ⟨_, vs, ws, bs, p.1, B1, rfl, p3, w3, p4, d1, R1.base.bh, k, (okTo_of h1).mono fun z h2 v H' B' ws' sH sB bh fz hb hH dw dv =>
    h2 v H' B' (R1.afterB p1 rfl rfl q2 sH sB bh fz hb hH ⟨_, ws', rfl, hH, hb, dw⟩) (e1.trans sB) dv⟩
def vCallD (m : Nat) (den : List (Key × PyData) → List PyData → R (PyData × List (Key × PyData))) (i : Nat) (fa : VA) : VE := fun S => (dicD S i).bind fun _ => (fa S).bind fun p => (dicD p.2 i).bind fun bs => R.when (p.1.length = m) (((den bs p.1).noErr).bind fun z => .ok (z.1, p.2.set i (some (.dic z.2))))
/-- the script -/
def vCallS (den : List Int → R PyData) (i : Nat) : VE := fun S => match S[i]? with
  | some (some (.scr ns)) => ((den ns).noErr).bind fun z => .ok (z, S)
  | _ => .bad
theorem s_callS {i : Nat} {den : List Int → R PyData} {E : XK} : SE C (tCall (spS K den) [] E (tCons (tVar i) tNil)) (vCallS den i) := by
  intro σ H B S Q R h
  unfold vCallS at h
  split at h
  · rename_i ns e
    obtain ⟨v, hv, a, rfl, sq⟩ := R.slot i _ e
    refine ⟨_, hv, ?_⟩
    replace h := post_bind.mp h
    exact ⟨a, ns, B, rfl, sq, R.base.bh, (okTo_of h).mono fun z h2 v H' B' sH sB bh fz dv => h2 v H' B' (R.after sH sB bh fz) sB dv⟩
  · exact h.elim
/-- for x in script -/
theorem walks_scr {a : Addr} {ns : List Int} (s : SqL K B a (ns.map V.int)) : Walks C B (Itl K a) (ns.map PyData.int) where
  go := fun i H hi e => by
    rw [List.length_map] at hi
    exact ⟨_, .int ns[i], sm_l e s, by rw [List.getElem?_map, List.getElem?_eq_getElem hi]; rfl⟩
  stop := fun H e => ⟨_, sm_l e s, by rw [List.length_map, List.length_map]; exact Nat.le_refl _⟩
  yld := fun i H H' x d hd y C σ B1 S R e => by
    obtain ⟨rfl, y⟩ := y
    have hx := y _ (sm_l (e.trans R.base.bh) s)
    rw [List.getElem?_map] at hx hd
    cases q : ns[i]? with
    | none => rw [q] at hd; cases hd
    | some z =>
      rw [q] at hx hd
      cases hx
      cases hd
      exact ⟨B1, R, Same.refl _, .int _, fun _ _ z => z⟩
def vScr (i : Nat) : VF := fun S => match S[i]? with
  | some (some (.scr ns)) => .ok (ns.map PyData.int, S)
  | _ => .bad
theorem i_scr {i : Nat} : SI C (iList K (tVar i)) (vScr i) := by
  intro σ H B S Rr R h
  unfold vScr at h
  split at h
  · rename_i ns e
    obtain ⟨v, hv, a, rfl, sq⟩ := R.slot i _ e
    exact ⟨_, hv, a, rfl, ⟨_, sm_l R.base.bh sq⟩, h _ H B R (Same.refl _) (walks_scr sq)⟩
  · exact h.elim
/-! ### a def by its body -/
def endP (x : R FL) : R PyData := x.bind fun fl => match fl with
  | .nx _ => .ok .none
  | .rt d _ => .ok d
  | _ => .bad
def startS (N : Nat) (ds : List PyData) : SS := ds.map (fun d => some (.dat d)) ++ List.replicate (N - ds.length) none
/-- what a def is worth: N names, its body -/
def denP (N : Nat) (f : VS) : List PyData → R PyData := fun ds => endP (f (startS N ds))
theorem startS_some {N : Nat} {ds : List PyData} {i : Nat} {s : SV} (h : (startS N ds)[i]? = some (some s)) : ∃ d, ds[i]? = some d ∧ s = .dat d := by
  unfold startS at h
  by_cases hi : i < ds.length
  · rw [List.getElem?_append_left (by rw [List.length_map]; exact hi), List.getElem?_map, List.getElem?_eq_getElem hi] at h
    cases h
    exact ⟨_, List.getElem?_eq_getElem hi, rfl⟩
  · rw [List.getElem?_append_right (by rw [List.length_map]; omega), List.getElem?_replicate] at h
    split at h <;> cases h
theorem start_get {N : List Str} {vs : List V} {i : Nat} {v : V} (h : vs[i]? = some v) : (L2.start N vs)[i]? = some (some v) := by
  have hi := (List.getElem?_eq_some_iff.mp h).1
  unfold L2.start
  rw [List.getElem?_append_left (by rw [List.length_map]; exact hi), List.getElem?_map, h]
  rfl
def ct0 (H B : Hp) (er : Exc → V → Hp → Prop) : Ct K 0 := ⟨H, B, [], rfl, er⟩
theorem rep_start {N : List Str} {vs : List V} {ds : List PyData} {er : Exc → V → Hp → Prop} (d : DaAll K B vs ds) (bh : Same B H) : Rep (ct0 (K := K) H B er) (L2.start N vs) H B (startS N.length ds) := by
  have nomine : ∀ (i : Nat) s, (startS N.length ds)[i]? = some (some s) → s.mine = true → False := fun i s h m => by
    obtain ⟨d, _, rfl⟩ := startS_some h
    cases m
  refine ⟨⟨fun a o _ q => q, Same.refl _, bh, fun a o q => .inl q⟩, ?_, fun i s h => ?_, fun i j s u a h1 h2 m1 m2 e1 e2 => (nomine i s h1 m1).elim, fun i s a h m e => (nomine i s h m).elim, fun i a h => nomatch (show (none : Option (Option Addr)) = some (some a) from h)⟩
  · unfold startS L2.start
    rw [List.length_append, List.length_append, List.length_map, List.length_map, List.length_replicate, List.length_replicate, daa_len d]
  · obtain ⟨d', h1, rfl⟩ := startS_some h
    obtain ⟨v, h2, h3⟩ := daa_get d h1
    exact ⟨v, start_get h2, h3⟩
theorem len_P {m : Nat} {den : List PyData → R PyData} {vs : List V} {Q : VK} {E : XK} (h : spP K m den vs H Q E) : vs.length = m := by
  obtain ⟨ds, B, d, _, e, _⟩ := h
  rw [daa_len d, e]
theorem post_okTo {α : Type} {x : R α} {k : α → Prop} {n : Nat} {C : Ct K n} (h : x.okTo k) : Post C x k := by
  cases x with
  | ok a => exact h
  | err e => exact h.elim
  | bad => exact h.elim
theorem run_P {m : Nat} {N : List Str} {f : VS} {t : TS} {vs : List V} {Q : VK} {E : XK} (s : ∀ C : Ct K 0, SSt C t f) (h : spP K m (denP N.length f) vs H Q E) : t { nx := fun _ H' => Q .non H', rt := Q } (L2.start N vs) H := by
  obtain ⟨ds, B, d, bh, _, h⟩ := h
  have R := rep_start (N := N) (er := fun _ _ _ => True) d bh
  refine s _ _ H B _ _ R ?_
  unfold denP endP at h
  have h2 := post_okTo (C := ct0 (K := K) H B fun _ _ _ => True) h
  refine (post_bind.mp h2).mono fun fl q => ?_
  cases fl with
  | nx S => exact fun σ' H' B' R' e => q .non H' B' (fun a o z => R'.base.keep a o (by simp [ct0]) z) e R'.base.bh (fun a o z => R'.base.fr a o z) .non
  | rt d S => exact fun v σ' H' B' R' e dv => q v H' B' (fun a o z => R'.base.keep a o (by simp [ct0]) z) e R'.base.bh (fun a o z => R'.base.fr a o z) dv
  | bk S => exact q.elim
  | ct S => exact q.elim
/-- .. with a list that it may change -/
def endB (x : R FL) : R (PyData × List PyData) := x.bind fun fl => match fl with
  | .nx S => (ownD S 0).bind fun bs => .ok (.none, bs)
  | .rt d S => (ownD S 0).bind fun bs => .ok (d, bs)
  | _ => .bad
def denB (N : Nat) (f : VS) : List PyData → List PyData → R (PyData × List PyData) := fun bs ds => endB (f (some (.own bs) :: startS (N - 1) ds))
def ct1 (H B : Hp) (a : Addr) (er : Exc → V → Hp → Prop) : Ct K 1 := ⟨H, B, [some a], rfl, er⟩
theorem rep_startB {x : Str} {N : List Str} {a : Addr} {us : List V} {ds : List PyData} {s : SV} {er : Exc → V → Hp → Prop} (m : s.mine = true) (r : SR (ct1 (K := K) H B a er) H B (.ref a) s) (d : DaAll K B us ds) (bh : Same B H) :
    Rep (ct1 (K := K) H B a er) (L2.start (x :: N) (.ref a :: us)) H B (some s :: startS N.length ds) := by
  have e0 : L2.start (x :: N) (.ref a :: us) = some (.ref a) :: L2.start N us := by
    unfold L2.start
    rw [List.map_cons, List.length_cons, List.length_cons, Nat.add_sub_add_right]
    rfl
  rw [e0]
  have mine : ∀ (i : Nat) u, (some s :: startS N.length ds)[i]? = some (some u) → u.mine = true → i = 0 := fun i u h mu => by
    cases i with
    | zero => rfl
    | succ i =>
      obtain ⟨d, _, rfl⟩ := startS_some (show (startS N.length ds)[i]? = some (some u) from h)
      cases mu
  refine ⟨⟨fun a o _ q => q, Same.refl _, bh, fun a o q => .inl q⟩, ?_, fun i u h => ?_, fun i j s u a h1 h2 m1 m2 e1 e2 => by rw [mine i s h1 m1, mine j u h2 m2], fun i u b h mu e => ?_, fun i b h => ?_⟩
  · unfold startS L2.start
    rw [List.length_cons, List.length_cons, List.length_append, List.length_append, List.length_map, List.length_map, List.length_replicate, List.length_replicate, daa_len d]
  · cases i with
    | zero =>
      cases (Option.some.inj (Option.some.inj (show some (some s) = some (some u) from h)))
      exact ⟨_, rfl, r⟩
    | succ i =>
      obtain ⟨d', h1, rfl⟩ := startS_some (show (startS N.length ds)[i]? = some (some u) from h)
      obtain ⟨v, h2, h3⟩ := daa_get d h1
      exact ⟨v, start_get h2, h3⟩
  · have z := mine i u h mu
    subst z
    have e' : some (some (V.ref a)) = some (some (V.ref b)) := e
    cases e'
    exact .inr rfl
  · cases i with
    | zero =>
      have h' : some (some a) = some (some b) := h
      cases h'
      exact ⟨rfl, s, rfl, m⟩
    | succ i => exact nomatch (show (none : Option (Option Addr)) = some (some b) from h)
theorem len_B {m : Nat} {den : List PyData → List PyData → R (PyData × List PyData)} {vs : List V} {Q : VK} {E : XK} (h : spB K m den vs H Q E) : vs.length = m + 1 := by
  obtain ⟨a, us, ws, bs, ds, B, rfl, _, _, _, d, _, e, _⟩ := h
  rw [List.length_cons, daa_len d, e]
theorem run_B {m : Nat} {x : Str} {N : List Str} {f : VS} {t : TS} {vs : List V} {Q : VK} {E : XK} (s : ∀ C : Ct K 1, SSt C t f) (h : spB K m (denB (x :: N).length f) vs H Q E) : t { nx := fun _ H' => Q .non H', rt := Q } (L2.start (x :: N) vs) H := by
  obtain ⟨a, us, ws, bs, ds, B, rfl, hH, hB, dw, d, bh, _, h⟩ := h
  have R := rep_startB (x := x) (N := N) (er := fun _ _ _ => True) (s := .own bs) rfl ⟨a, ws, rfl, hH, hB, dw⟩ d bh
  refine s _ _ H B _ _ R ?_
  unfold denB endB at h
  have h2 := post_okTo (C := ct1 (K := K) H B a fun _ _ _ => True) h
  refine (post_bind.mp h2).mono fun fl q => ?_
  have fin : ∀ {S : SS} {z : PyData} {σ' : L2.St} {H' B' : Hp} {v : V}, Post (ct1 (K := K) H B a fun _ _ _ => True) (ownD S 0) (fun bs => ∀ v H' B' ws', (∀ b o, b ≠ a → H b = some o → H' b = some o) → Same B B' → Same B' H' → Frz H B B' → B' a = none → H' a = some (.lst ws') → DaAll K B' ws' bs → Da K B' v z → Q v H') →
      Rep (ct1 (K := K) H B a fun _ _ _ => True) σ' H' B' S → Same B B' → Da K B' v z → Q v H' := fun {S z σ' H' B' v} q R' e dv => by
    obtain ⟨bs', a', ws', q1, q2, q3, q4, q⟩ := own_of R' q
    obtain ⟨e0, _⟩ := R'.box 0 a rfl
    rw [q2] at e0
    cases e0
    obtain ⟨_, _, w1, w2, w3⟩ := R'.own_at q1 rfl
    rw [q2] at w1
    cases w1
    exact q v H' B' ws' (fun b o nb z => R'.base.keep b o (by simpa [ct1] using nb) z) e R'.base.bh (fun b o z => R'.base.fr b o z) w3 q3 q4 dv
  cases fl with
  | nx S => exact fun σ' H' B' R' e => fin (post_bind.mp q) R' e .non
  | rt d S => exact fun v σ' H' B' R' e dv => fin (post_bind.mp q) R' e dv
  | bk S => exact q.elim
  | ct S => exact q.elim
/-- .. of the script -/
def denS (N : Nat) (f : VS) : List Int → R PyData := fun ns => endP (f (some (.scr ns) :: List.replicate (N - 1) none))
theorem len_S {den : List Int → R PyData} {vs : List V} {Q : VK} {E : XK} (h : spS K den vs H Q E) : vs.length = 1 := by
  obtain ⟨a, ns, B, rfl, _⟩ := h
  rfl
theorem run_S {x : Str} {N : List Str} {f : VS} {t : TS} {vs : List V} {Q : VK} {E : XK} (s : ∀ C : Ct K 0, SSt C t f) (h : spS K (denS (x :: N).length f) vs H Q E) : t { nx := fun _ H' => Q .non H', rt := Q } (L2.start (x :: N) vs) H := by
  obtain ⟨a, ns, B, rfl, sq, bh, h⟩ := h
  have at_ : ∀ (i : Nat) u, (some (SV.scr ns) :: List.replicate ((x :: N).length - 1) none)[i]? = some (some u) → i = 0 ∧ u = .scr ns := fun i u q => by
    cases i with
    | zero => exact ⟨rfl, (Option.some.inj (Option.some.inj (show some (some (SV.scr ns)) = some (some u) from q))).symm⟩
    | succ i =>
      have q' : (List.replicate ((x :: N).length - 1) (none : Option SV))[i]? = some (some u) := q
      rw [List.getElem?_replicate] at q'
      split at q' <;> cases q'
  have R : Rep (ct0 (K := K) H B fun _ _ _ => True) (L2.start (x :: N) [V.ref a]) H B (some (.scr ns) :: List.replicate ((x :: N).length - 1) none) := by
    refine ⟨⟨fun a o _ q => q, Same.refl _, bh, fun a o q => .inl q⟩, ?_, fun i s h => ?_, fun i j s u a h1 h2 m1 m2 e1 e2 => ?_, fun i s a h m e => ?_, fun i a h => nomatch (show (none : Option (Option Addr)) = some (some a) from h)⟩
    · unfold L2.start
      simp
    · obtain ⟨rfl, rfl⟩ := at_ i s h
      exact ⟨_, start_get rfl, a, rfl, sq⟩
    · obtain ⟨rfl, rfl⟩ := at_ i s h1
      cases m1
    · obtain ⟨rfl, rfl⟩ := at_ i s h
      cases m
  refine s _ _ H B _ _ R ?_
  unfold denS endP at h
  have h2 := post_okTo (C := ct0 (K := K) H B fun _ _ _ => True) h
  refine (post_bind.mp h2).mono fun fl q => ?_
  cases fl with
  | nx S => exact fun σ' H' B' R' e => q .non H' B' (fun a o z => R'.base.keep a o (by simp [ct0]) z) e R'.base.bh (fun a o z => R'.base.fr a o z) .non
  | rt d S => exact fun v σ' H' B' R' e dv => q v H' B' (fun a o z => R'.base.keep a o (by simp [ct0]) z) e R'.base.bh (fun a o z => R'.base.fr a o z) dv
  | bk S => exact q.elim
  | ct S => exact q.elim
end
end Bo

namespace Bo
open PySem L2
section
variable {K : PySem.W.Frag} {n : Nat} {C : Ct K n} {σ : L2.St} {H B : Hp} {S : SS}
def cMulS (i j : Int) : Bool := decide ((-(2 ^ 64) < i ∧ i < 2 ^ 64) ∨ (-(2 ^ 64) < j ∧ j < 2 ^ 64))
theorem o_mulS : SR2 C (rI CMul fun i j => .int (i * j)) (gIC cMulS fun i j => i * j) := o_ic fun i j h => by
  unfold cMulS at h
  have h' := of_decide_eq_true h
  exact h'
def cPow (i j : Int) : Bool := decide (0 ≤ j ∧ j ≤ 1000000 ∧ i.natAbs < 2 ^ 64)
theorem o_pow : SR2 C (rI CPow fun i j => .int (i ^ j.toNat)) (gIC cPow fun i j => i ^ j.toNat) := o_ic fun i j h => by
  unfold cPow at h
  have h' := of_decide_eq_true h
  exact h'
/-! new lists by + and * -/
def vRepF (fa fb : VE) : VF := fun S => (fa S).bind fun p => (fb p.2).bind fun q => match p.1, q.1 with
  | .list ds, .int k => R.when (ds.length * k.toNat ≤ 100000 ∧ k ≤ 100000 ∧ -100000 ≤ k) (.ok ((List.replicate k.toNat ds).flatten, q.2))
  | _, _ => .bad
/-! texts -/
def gLenS : List PyData → R PyData
  | [.str x] => R.when (x.length ≤ 100000) (.ok (.int x.length))
  | _ => .bad
def gStrI : List PyData → R PyData
  | [.int i] => R.when (i.natAbs < 2 ^ 1900) (.ok (.str (toString i)))
  | _ => .bad
/-! equal data -/
open Classical in
noncomputable def denEq (m : Nat) : List PyData → R PyData
  | [a, b] => if a = b ∧ Dn m a then .ok (.bool true) else .bad
  | _ => .bad
theorem denEq_ok {m : Nat} {a b : PyData} (e : a = b) (h : Dn m a) : denEq m [a, b] = .ok (.bool true) := if_pos ⟨e, h⟩
end
end Bo

/-! ### enumerate and zip over lists and tuples in any mix: out of what next tells of any two sources -/
namespace Bo
open PySem L2
/-- a list, or a tuple -/
inductive Kd where
  | L | T
namespace Kd
def Sq (k : Kd) (K : PySem.W.Frag) (H : Hp) (a : Addr) (xs : List V) : Prop := match k with
  | .L => SqL K H a xs
  | .T => SqT K H a xs
def Is (k : Kd) (h : Heap) (a : Addr) (items : Array Value) : Prop := match k with
  | .L => h.IsList a items
  | .T => h.IsTuple a items
def At (k : Kd) (h : Heap) (it a : Addr) (i : Nat) : Prop := match k with
  | .L => h.IsListIter it a i
  | .T => h.IsTupleIter it a i
def ob (k : Kd) (a : Addr) : Obj := match k with
  | .L => { cls := .type "list_iterator", data := .fields #[.ref a, .int 0 0] }
  | .T => { cls := .type "tuple_iterator", data := .fields #[.ref a, .int 0 0] }
variable {k : Kd} {K : PySem.W.Frag} {a it : Addr} {h h' : Heap} {items : Array Value}
theorem begins : Begins (.ref a) (k.ob a) (fun h => k.Is h a items) := match k with
  | .L => begins_list a items
  | .T => begins_tuple a items
theorem start_ (e : h.get? it = some (k.ob a)) : k.At h it a 0 := match k with
  | .L => ⟨_, e, rfl, rfl⟩
  | .T => ⟨_, e, rfl, rfl⟩
theorem live {i : Nat} (st : k.At h it a i) : ∃ o, h.get? it = some o ∧ ∀ v, o.data ≠ .cell v := match k, st with
  | .L, ⟨o, e, _, d⟩ => ⟨o, e, fun v z => nomatch (d.symm.trans z)⟩
  | .T, ⟨o, e, _, d⟩ => ⟨o, e, fun v z => nomatch (d.symm.trans z)⟩
theorem stay {i : Nat} (st : k.At h it a i) (e : ∀ o, h.get? it = some o → h'.get? it = some o) : k.At h' it a i := match k, st with
  | .L, st => Heap.IsListIter.at st e
  | .T, st => Heap.IsTupleIter.at st e
theorem draws {P : Program} {w : World} {A : Around} (hh : A.handled = none) (ne : a ≠ it) : Draws P w A it [it, a] items.size (fun i v => items[i]? = some v) (fun i h => k.At h it a i ∧ k.Is h a items) := match k with
  | .L => Draws.list hh it a ne items
  | .T => Draws.tuple hh it a ne items
theorem told {X : Cx} {pins : List (Addr × Obj)} {σ : L2.St} {H : Hp} {s : Shared} {xs : List V} (I : Inv X pins σ H s) (q : k.Sq X.K H a xs) : ∃ its : List Value, Vals xs its ∧ k.Is s.heap a its.toArray := match k, q with
  | .L, q => let ⟨its, r, p, _⟩ := I.list q; ⟨its, r, p.isList⟩
  | .T, q => let ⟨its, r, p, _⟩ := I.tuple q; ⟨its, r, p⟩
theorem one {X : Cx} {pins : List (Addr × Obj)} {σ : L2.St} {H : Hp} {s : Shared} {xs ys : List V} (I : Inv X pins σ H s) (q : k.Sq X.K H a xs) (q2 : k.Sq X.K H a ys) : xs = ys := match k, q, q2 with
  | .L, q, q2 => I.list_inj q q2
  | .T, q, q2 => I.tuple_inj q q2
theorem below (p : k.Is h a items) : a < h.objs.size := match k, p with
  | .L, ⟨_, e, _⟩ => Heap.lt_size e
  | .T, ⟨_, e, _⟩ => Heap.lt_size e
end Kd
/-- a new pair at each turn: at turn i that of i and the i-th item of a, or of the i-th items of a and b -/
def ItP (go : Nat → Hp → Prop) (pr : Nat → Hp → V → V → Prop) (stop : Nat → Hp → Prop) : It :=
  ⟨go, fun i H v H' => ∃ q x y, v = .ref q ∧ H q = none ∧ H' = upd H q (.tup [x, y]) ∧ pr i H x y, stop⟩
/-- the step of such a walk, by what next tells -/
theorem pair_step {X : Cx} {pins : List (Addr × Obj)} {σ : L2.St} {H : Hp} {s : Shared} {wr : List Addr} {x y : V} {u v : Value} {q : Addr} {h' : Heap} {tk : Nat} (I : Inv X pins σ H s) (hw : ∀ b ∈ wr, FpOk X pins H b)
    (keep : ∀ b o, b ∉ wr → s.heap.get? b = some o → h'.get? b = some o) (hq : s.heap.objs.size ≤ q) (ht : h'.IsTuple q #[u, v]) (rx : RelV x u) (ry : RelV y v) : Inv X pins σ (upd H q (.tup [x, y])) { s with heap := h', toks := tk } :=
  I.turnedNew (ch := wr) keep hw hq ⟨(by show 2 ≤ sizeLine; decide), [u, v], .cons rx (.cons ry .nil), ht⟩
section
variable {P : Program} {w : World} {K : PySem.W.Frag} {elts : List Expr} {kk : Nat} {tpos : Pos}
def ItZ (K : PySem.W.Frag) (k l : Kd) (a b : Addr) : It :=
  ItP (fun i H => ∃ xs ys x y, k.Sq K H a xs ∧ l.Sq K H b ys ∧ xs[i]? = some x ∧ ys[i]? = some y) (fun i H x y => (∀ xs, k.Sq K H a xs → xs[i]? = some x) ∧ ∀ ys, l.Sq K H b ys → ys[i]? = some y)
    (fun i H => ∃ xs ys, k.Sq K H a xs ∧ l.Sq K H b ys ∧ i = min xs.length ys.length)
structure ZFp (z p q i j a b : Addr) : Prop where
  s : ZipSep2 z p q i j [i, a] [j, b]
  na : a ≠ i
  nb : b ≠ j
theorem turn_zipK {k l : Kd} {z p q i1 i2 a b : Addr} (F : ZFp z p q i1 i2 a b) :
    Turn P w K (.Tuple elts kk tpos) (ItZ K k l a b) [z, p, q, i1, i2] z (fun i h => IsZip h z p q .none ∧ IsTupOf2 h p (.ref i1) (.ref i2) ∧ (∃ a1 a2, IsTupOf2 h q a1 a2) ∧ k.At h i1 a i ∧ l.At h i2 b i) where
  mem := List.mem_cons_self
  obj := fun i h st c hc => by
    obtain ⟨hz, hp, ⟨_, _, hq⟩, h1, h2⟩ := st
    simp only [List.mem_cons, List.not_mem_nil, or_false] at hc
    rcases hc with rfl | rfl | rfl | rfl | rfl
    · exact ⟨_, hz, fun v z => nomatch z⟩
    · exact ⟨_, hp, fun v z => nomatch z⟩
    · exact ⟨_, hq, fun v z => nomatch z⟩
    · exact Kd.live h1
    · exact Kd.live h2
  keep := fun i h h' st e => by
    obtain ⟨hz, hp, ⟨a1, a2, hq⟩, h1, h2⟩ := st
    exact ⟨e z (by simp) _ hz, e p (by simp) _ hp, ⟨a1, a2, e q (by simp) _ hq⟩, Kd.stay h1 fun o => e i1 (by simp) o, Kd.stay h2 fun o => e i2 (by simp) o⟩
  item := by
    intro X hP hw hK hc i pins s σ H E I hf st hg
    subst hP hw hK
    obtain ⟨hz, hp, hq, h1, h2⟩ := st
    obtain ⟨xs, ys, x, y, sx, sy, ex, ey⟩ := hg
    obtain ⟨us, ru, pu⟩ := Kd.told I sx
    obtain ⟨vs, rv, pv⟩ := Kd.told I sy
    have lu := ru.length
    have lv := rv.length
    have l1 := (List.getElem?_eq_some_iff.mp ex).1
    have l2 := (List.getElem?_eq_some_iff.mp ey).1
    have hh : X.A.in1.handled = none := I.ok.hd hc
    have W := GoesN.zip2 (prog := X.prog) (w := X.w) (A := X.A) (elts := elts) (x1 := kk) (pos := tpos) F.s (k.draws (items := us.toArray) hh F.na) (l.draws (items := vs.toArray) hh F.nb)
    refine W.goes i s _ E (by rw [List.size_toArray, List.size_toArray]; omega) ⟨hz, hp, hq, ⟨h1, pu⟩, h2, pv⟩ fun v h' tk hY st' hk _ => ?_
    obtain ⟨t, u1, u2, rfl, ht, e1, e2, hT⟩ := hY
    obtain ⟨u, hu, r1⟩ := ru.get ex
    obtain ⟨v, hv, r2⟩ := rv.get ey
    have q1 : u1 = u := Option.some.inj (e1.symm.trans (by simpa using hu))
    have q2 : u2 = v := Option.some.inj (e2.symm.trans (by simpa using hv))
    subst q1 q2
    refine ⟨.ref t, _, pair_step I (wr := [z, q, i1, i2]) (fun b hb => hf b ?_) hk ht hT r1 r2, rfl, ⟨t, x, y, rfl, I.hok.fresh ht, rfl, fun xs' s' => by rw [Kd.one I s' sx]; exact ex, fun ys' s' => by rw [Kd.one I s' sy]; exact ey⟩,
      ⟨st'.1, st'.2.1, st'.2.2.1, st'.2.2.2.1.1, st'.2.2.2.2.1⟩, fun c hc' => ?_⟩
    · simp only [List.mem_cons, List.not_mem_nil, or_false] at hb ⊢
      rcases hb with e | e | e | e <;> simp [e]
    · have hlt : c < s.heap.objs.size := by
        obtain ⟨o, e⟩ : ∃ o, s.heap.get? c = some o := by
          simp only [List.mem_cons, List.not_mem_nil, or_false] at hc'
          obtain ⟨_, _, hq'⟩ := hq
          rcases hc' with rfl | rfl | rfl | rfl | rfl
          · exact ⟨_, hz⟩
          · exact ⟨_, hp⟩
          · exact ⟨_, hq'⟩
          · exact ⟨_, (Kd.live h1).choose_spec.1⟩
          · exact ⟨_, (Kd.live h2).choose_spec.1⟩
        exact Heap.lt_size e
      rw [upd_ne (Nat.ne_of_lt (Nat.lt_of_lt_of_le hlt ht))]
      exact (hf c hc').1
  done := by
    intro X hP hw hK hc i pins s σ H E I hf st hg
    subst hP hw hK
    obtain ⟨hz, hp, hq, h1, h2⟩ := st
    obtain ⟨xs, ys, sx, sy, e⟩ := hg
    obtain ⟨us, ru, pu⟩ := Kd.told I sx
    obtain ⟨vs, rv, pv⟩ := Kd.told I sy
    have hh : X.A.in1.handled = none := I.ok.hd hc
    have W := GoesN.zip2 (prog := X.prog) (w := X.w) (A := X.A) (elts := elts) (x1 := kk) (pos := tpos) F.s (k.draws (items := us.toArray) hh F.na) (l.draws (items := vs.toArray) hh F.nb)
    have ei : min us.toArray.size vs.toArray.size = i := by rw [List.size_toArray, List.size_toArray, ← ru.length, ← rv.length, e]
    refine W.stops s _ E (by rw [ei]; exact ⟨hz, hp, hq, ⟨h1, pu⟩, h2, pv⟩) fun h' tk hk _ => ?_
    refine I.turnedL (t' := tk) (ch := [z, q, i1, i2]) hk fun b hb => hf b ?_
    simp only [List.mem_cons, List.not_mem_nil, or_false] at hb ⊢
    rcases hb with e | e | e | e <;> simp [e]
  self := fun A i s Q E st h => wpAny_pyIter_zip st.1 h
def ItN (K : PySem.W.Frag) (k : Kd) (a : Addr) : It :=
  ItP (fun i H => ∃ xs x, k.Sq K H a xs ∧ xs[i]? = some x) (fun i H x y => x = .int (i : Nat) ∧ ∀ xs, k.Sq K H a xs → xs[i]? = some y) (fun i H => ∃ xs, k.Sq K H a xs ∧ i = xs.length)
theorem turn_enumK {k : Kd} {e it a : Addr} (ne : e ≠ it) (na : a ≠ it) (nea : a ≠ e) : Turn P w K (.Tuple elts kk tpos) (ItN K k a) [e, it] e (fun i h => (∃ old, IsEnum h e it (0 + (i : Int)) old) ∧ k.At h it a i) where
  mem := List.mem_cons_self
  obj := fun i h st c hc => by
    obtain ⟨⟨_, he⟩, h1⟩ := st
    simp only [List.mem_cons, List.not_mem_nil, or_false] at hc
    rcases hc with rfl | rfl
    · exact ⟨_, he, fun v z => nomatch z⟩
    · exact Kd.live h1
  keep := fun i h h' st k' => by
    obtain ⟨⟨old, he⟩, h1⟩ := st
    exact ⟨⟨old, k' e (by simp) _ he⟩, Kd.stay h1 fun o => k' it (by simp) o⟩
  item := by
    intro X hP hw hK hc i pins s σ H E I hf st hg
    subst hP hw hK
    obtain ⟨he, h1⟩ := st
    obtain ⟨xs, x, sx, ex⟩ := hg
    obtain ⟨us, ru, pu⟩ := Kd.told I sx
    have lu := ru.length
    have l1 := (List.getElem?_eq_some_iff.mp ex).1
    have W := GoesN.enumFrom (prog := X.prog) (w := X.w) (A := X.A) (elts := elts) (x1 := kk) (pos := tpos) 0 (k.draws (items := us.toArray) (show X.A.in1.handled = none from I.ok.hd hc) na) e ne (by simp [ne, Ne.symm nea]) (by simp)
    refine W.goes i s _ E (by rw [List.size_toArray]; omega) ⟨he, h1, pu⟩ fun v h' tk hY st' hk _ => ?_
    obtain ⟨t, tt, u1, rfl, ht, e1, hT⟩ := hY
    obtain ⟨u, hu, r1⟩ := ru.get ex
    have q1 : u1 = u := Option.some.inj (e1.symm.trans (by simpa using hu))
    subst q1
    have z0 : (0 : Int) + (i : Int) = (i : Nat) := Int.zero_add _
    rw [z0] at hT
    refine ⟨.ref t, _, pair_step I (wr := [e, it]) hf hk ht hT (x := .int (i : Nat)) ⟨tt, rfl⟩ r1, rfl, ⟨t, _, x, rfl, I.hok.fresh ht, rfl, rfl, fun xs' s' => by rw [Kd.one I s' sx]; exact ex⟩, ⟨st'.1, st'.2.1⟩, fun c hc' => ?_⟩
    have hlt : c < s.heap.objs.size := by
      obtain ⟨o, e⟩ : ∃ o, s.heap.get? c = some o := by
        simp only [List.mem_cons, List.not_mem_nil, or_false] at hc'
        obtain ⟨_, he'⟩ := he
        rcases hc' with rfl | rfl
        · exact ⟨_, he'⟩
        · exact ⟨_, (Kd.live h1).choose_spec.1⟩
      exact Heap.lt_size e
    rw [upd_ne (Nat.ne_of_lt (Nat.lt_of_lt_of_le hlt ht))]
    exact (hf c hc').1
  done := by
    intro X hP hw hK hc i pins s σ H E I hf st hg
    subst hP hw hK
    obtain ⟨he, h1⟩ := st
    obtain ⟨xs, sx, ei⟩ := hg
    obtain ⟨us, ru, pu⟩ := Kd.told I sx
    have W := GoesN.enumFrom (prog := X.prog) (w := X.w) (A := X.A) (elts := elts) (x1 := kk) (pos := tpos) 0 (k.draws (items := us.toArray) (show X.A.in1.handled = none from I.ok.hd hc) na) e ne (by simp [ne, Ne.symm nea]) (by simp)
    have ei' : us.toArray.size = i := by rw [List.size_toArray, ← ru.length, ei]
    exact W.stops s _ E (by rw [ei']; exact ⟨he, h1, pu⟩) fun h' tk hk _ => I.turnedL (t' := tk) (ch := [e, it]) hk hf
  self := fun A i s Q E st h => by
    obtain ⟨⟨_, he⟩, _⟩ := st
    exact wpAny_pyIter_enum he h
end
/-! the calls -/
section
variable {X : Cx} {e e2 : Expr} {ta : TA} {p pos tpos : Pos} {elts : List Expr} {kk : Nat}
def iZipK (k l : Kd) (K : PySem.W.Frag) (ta : TA) : TI := fun σ H R => ta σ H fun vs H1 => ∃ a b xs ys, vs = [.ref a, .ref b] ∧ k.Sq K H1 a xs ∧ l.Sq K H1 b ys ∧ R (ItZ K k l a b) H1
open PySem.Spec PyProof.Rows in
theorem pi_zipK (k l : Kd) (hg : Gl X "zip") (hm : X.mg "zip" = none) (ha : PA X [e, e2] ta) (hs : starEach [e, e2] X.env = (false, eval e X.env) :: starEach [e2] X.env := by rfl) (hpl : (backTo pos (starEach [e2] X.env)).any (·.1) = false := by rfl) :
    PI X (.Tuple elts kk tpos) (.Call (.Name "zip" p) [e, e2] [] pos) (iZipK k l X.K ta) := by
  constructor
  intro pins s σ H R I h
  refine Call_ (ld_blt I hg hm boot_zip (callWith_type1 ?_ hs hpl))
  refine thn (ha.run pos pins s σ H _ I h) ?_
  rintro us s1 ⟨vs, H1, I1, rv, a, b, xs, ys, rfl, qa, qb, q⟩
  cases rv with
  | cons ra rest =>
    cases rest with
    | cons rb rest =>
      cases rest
      cases ra
      cases rb
      obtain ⟨ua, _, pa⟩ := Kd.told I1 qa
      obtain ⟨ub, _, pb⟩ := Kd.told I1 qb
      refine zip_begins2 (k.begins (items := ua.toArray)) (l.begins (items := ub.toArray)) pa pb fun h' hz hp hq h1 h2 hsz hk => wpAny_pyIter_zip hz ?_
      have la := Kd.below pa
      have lb := Kd.below pb
      have ge : ∀ c ∈ [s1.heap.objs.size + 4, s1.heap.objs.size + 2, s1.heap.objs.size + 3, s1.heap.objs.size, s1.heap.objs.size + 1], s1.heap.objs.size ≤ c := fun c hc => by
        simp only [List.mem_cons, List.not_mem_nil, or_false] at hc
        omega
      exact ⟨s1.heap.objs.size + 4, _, _, _, H1, rfl, I1.kept (t' := s1.toks) hk, turn_zipK ⟨zip_sep2 (N := s1.heap.objs.size) (fp1 := [a]) (fp2 := [b]) (by simpa using la) (by simpa using lb), Nat.ne_of_lt la, Nat.ne_of_lt (Nat.lt_succ_of_lt lb)⟩, ⟨hz, hp, ⟨_, _, hq⟩, Kd.start_ h1, Kd.start_ h2⟩,
        fun c hc => I1.fpOk (ge c hc) (I1.hok.fresh (ge c hc)), q⟩
/-- the enumeration is made -/
theorem enum_meets {v : Value} {o : Obj} {Z : Heap → Prop} (B : Begins v o Z) :
    Meets (Builtin.«enumerate.__new__» ⟨[.type "enumerate", v], []⟩) (fun _ R s => Z s.heap ∧ R (.ok (.ret (.ref (s.heap.push o).objs.size))) { s with heap := (s.heap.push o).push { cls := .type "enumerate", data := .fields #[.none, .bool false, .ref s.heap.objs.size, rawInt 0, .none, .none] } }) := by
  refine Meets.of_wp fun P w A R s hs => ?_
  obtain ⟨hz, hR⟩ := hs
  have known := sub_enumerate
  have first_ : ∀ {A' : Around} {E : Value → Shared → Prop} {Q : Value → Shared → Prop}, Q (.ref s.heap.objs.size) { s with heap := s.heap.push o } → wpAny (model P w) A' (pyIter v) Q E s := fun z => B.iter P w _ _ s _ hz z
  cases s with
  | mk hp g d tk os =>
    wp_walk using first_
    refine wpAny_stack_any fun st => wpAny_pure ?_
    split <;> first
      | (rename_i c _ _ _ _ _
         cases hc : (c == Value.type "enumerate") <;> (wp_walk using first_; exact ⟨_, rfl, hR⟩))
      | (wp_walk using first_; exact ⟨_, rfl, hR⟩)
def iEnumK (k : Kd) (K : PySem.W.Frag) (ta : TA) : TI := fun σ H R => ta σ H fun vs H1 => ∃ a xs, vs = [.ref a] ∧ k.Sq K H1 a xs ∧ R (ItN K k a) H1
open PySem.Spec PyProof.Rows in
theorem pi_enumK (k : Kd) (hg : Gl X "enumerate") (hm : X.mg "enumerate" = none) (ha : PA X [e] ta) (hs : starEach [e] X.env = [(false, eval e X.env)] := by rfl) : PI X (.Tuple elts kk tpos) (.Call (.Name "enumerate" p) [e] [] pos) (iEnumK k X.K ta) := by
  constructor
  intro pins s σ H R I h
  refine Call_ (ld_blt I hg hm boot_enumerate (callWith_type1 ?_ hs rfl))
  refine thn (ha.run pos pins s σ H _ I h) ?_
  rintro us s1 ⟨vs, H1, I1, rv, a, xs, rfl, qa, q⟩
  cases rv with
  | cons ra rest =>
    cases rest
    cases ra
    obtain ⟨ua, _, pa⟩ := Kd.told I1 qa
    have B := k.begins (a := a) (items := ua.toArray)
    have la := Kd.below pa
    refine callType_new F.called_enumerate (by decide) (F.typeCall_enumerate_1 _) (F.newCall_enumerate_1 _) (fun obj => F.args_object_init_2 obj _) F.entry_enumerate_new (enum_meets B) ⟨pa, ?_⟩
    have sz : (s1.heap.push (k.ob a)).objs.size = s1.heap.objs.size + 1 := Heap.size_push ..
    have e0 := Heap.get?_push_size (s1.heap.push (k.ob a)) (o := { cls := .type "enumerate", data := .fields #[.none, .bool false, .ref s1.heap.objs.size, rawInt 0, .none, .none] }) rfl
    rw [sz] at e0
    have old : ∀ c o, s1.heap.get? c = some o → ((s1.heap.push (k.ob a)).push { cls := .type "enumerate", data := .fields #[.none, .bool false, .ref s1.heap.objs.size, rawInt 0, .none, .none] }).get? c = some o := fun c o z => Heap.get?_push_of_some _ (Heap.get?_push_of_some _ z)
    have e1 := Heap.get?_push_of_some { cls := .type "enumerate", data := .fields #[.none, .bool false, .ref s1.heap.objs.size, rawInt 0, .none, .none] } (Heap.get?_push_size s1.heap (o := k.ob a) B.free)
    have en : IsEnum ((s1.heap.push (k.ob a)).push { cls := .type "enumerate", data := .fields #[.none, .bool false, .ref s1.heap.objs.size, rawInt 0, .none, .none] }) (s1.heap.objs.size + 1) s1.heap.objs.size (0 + ((0 : Nat) : Int)) .none := e0
    have ge : ∀ c ∈ [s1.heap.objs.size + 1, s1.heap.objs.size], s1.heap.objs.size ≤ c := fun c hc => by
      simp only [List.mem_cons, List.not_mem_nil, or_false] at hc
      omega
    rw [sz]
    exact ⟨⟨_, en, rfl⟩, wpAny_pyIter_enum en ⟨s1.heap.objs.size + 1, _, _, _, H1, rfl, I1.kept (t' := s1.toks) old, turn_enumK (Nat.succ_ne_self _) (Nat.ne_of_lt la) (Nat.ne_of_lt (Nat.lt_succ_of_lt la)), ⟨⟨_, en⟩, Kd.start_ e1⟩,
      fun c hc => I1.fpOk (ge c hc) (I1.hok.fresh (ge c hc)), q⟩⟩
end
end Bo

/-! ### sorted(d.items()): the pairs are made, then the list of them is sorted -/
namespace Bo
open PySem L2 L2.DX
section
variable {X : Cx}
/-- one level of code further in -/
abbrev inner (X : Cx) : Cx := { X with A := X.A.in1 }
theorem inner_inv {pins : List (Addr × Obj)} {σ : L2.St} {H : Hp} {s : Shared} (I : Inv X pins σ H s) : Inv (inner X) pins σ H s := by
  obtain ⟨o, a, b, c, d, e, f, g, h, i, j⟩ := I
  exact ⟨⟨o.mod, o.kind, o.glob, o.blt, o.above, o.inj, o.has, o.cab, o.hd, o.frames, o.stk, o.exf, o.bs, o.bsz, o.noex, o.exfs, o.funs, o.frf⟩, a, b, c, d, e, f, g, h, i, j⟩
theorem outer_inv {pins : List (Addr × Obj)} {σ : L2.St} {H : Hp} {s : Shared} (I : Inv (inner X) pins σ H s) : Inv X pins σ H s := by
  obtain ⟨o, a, b, c, d, e, f, g, h, i, j⟩ := I
  exact ⟨⟨o.mod, o.kind, o.glob, o.blt, o.above, o.inj, o.has, o.cab, o.hd, o.frames, o.stk, o.exf, o.bs, o.bsz, o.noex, o.exfs, o.funs, o.frf⟩, a, b, c, d, e, f, g, h, i, j⟩
/-- d.items() -/
def rItemsK : V → List V → Hp → VK → Prop := fun x xs H Q => ∃ (d : Addr) (kvs : List (Key × V)), (x = .ref d ∧ xs = []) ∧ H d = some (.dK kvs) ∧ ∀ p, H p = none → Q (.ref p) (upd H p (itemsO p d))
theorem mt_itemsK : MtR X "dict.items" rItemsK := by
  rintro pins s σ H x xs v us Q I rx rxs ⟨d, kvs, ⟨rfl, rfl⟩, hd, q⟩
  cases rxs
  cases rx
  obtain ⟨_, nm, _, _, o, es, ep, e1, e2, e3, _⟩ := dk_of I.hok hd
  exact DT.callItems nm (ep := ep) (es := es) ⟨o, e1, e2, e3⟩ ⟨.ref s.heap.objs.size, _, I.laid (t' := s.toks) (fun _ _ z => Heap.get?_push_of_some _ z) (Nat.le_refl _) (itemsO_ok (Heap.get?_push_size _ rfl)), rfl, q _ (I.hok.fresh (Nat.le_refl _))⟩
abbrev prV (e : Int × Int) : HO := .tup [.int e.1, .int e.2]
def pairAt (H : Hp) (v : V) : Int × Int := match v with
  | .ref a => match H a with
    | some (.tup [.int i, .int j]) => (i, j)
    | _ => (0, 0)
  | _ => (0, 0)
theorem pairAt_eq {H : Hp} {a : Addr} {e : Int × Int} (h : H a = some (prV e)) : pairAt H (.ref a) = e := by
  unfold pairAt
  simp only [h]
/-- sorted(d.items()), d a dict of ints by ints: new pairs, in order -/
def rSortK : List V → Hp → VK → Prop := fun vs H Q => ∃ (p d : Addr) (ks : List (Int × Int)), vs = [.ref p] ∧ H p = some (itemsO p d) ∧ H d = some (.dK (ks.map fun e => (.inl e.1, .int e.2))) ∧ ks.length ≤ 1000 ∧
  ∀ (H' : Hp) (l : Addr) (zs : List V), Same H H' → H l = none → H' l = some (.lst zs) → (∀ z ∈ zs, ∃ a, z = .ref a ∧ H a = none ∧ a ≠ l ∧ H' a = some (prV (pairAt H' z))) → (zs.map (pairAt H')).Perm ks → (zs.map (pairAt H')).Pairwise (fun x y => SrtO.lexB y x = false) → Q (.ref l) H'
theorem paired_at {α β : Type} {F : α → β → Prop} : ∀ {l : List α} {m : List β} {i : Nat} {b : β}, Paired F l m → m[i]? = some b → ∃ a, l[i]? = some a ∧ F a b
  | _, _, _, _, .nil, e => nomatch (show (none : Option _) = some _ from e)
  | _, _, 0, _, .cons h _, e => ⟨_, rfl, Option.some.inj e ▸ h⟩
  | _, _, i + 1, b, .cons _ t, e => paired_at (i := i) (b := b) t e
theorem entries_at {P : Program} {w : World} : ∀ {es : List DictEntry} {vs : List (Key × Value)} {i : Nat} {e : DictEntry}, Pairs (mixKind P w) es vs → es[i]? = some e → ∃ kv, vs[i]? = some kv ∧ keyIs kv.1 e.key = true ∧ e.val = kv.2
  | _, _, _, _, .nil, z => nomatch (show (none : Option DictEntry) = some _ from z)
  | _, _, 0, _, .cons a b _, z => ⟨_, rfl, by cases z; exact ⟨a, b⟩⟩
  | _, _, i + 1, e, .cons _ _ t, z => entries_at (i := i) (e := e) t z
theorem cr_sortK (hc : X.calm = true) : CallR X (.builtin "sorted") rSortK := by
  rintro pins s σ H xs us Q I r ⟨p, d, ks, rfl, hp, hd, hk, q⟩
  rw [Vals.ref1 r]
  obtain ⟨hit, _⟩ := (show ObjOk X.prog X.w H s.heap p (itemsO p d) from I.hok p _ hp)
  obtain ⟨_, nm, vs, rel, o, es, ep, g1, g2, g3, _, hps, _⟩ := dk_of I.hok hd
  have n1 := Paired.length rel
  have n2 := hps.length
  rw [List.length_map] at n1
  rw [Array.length_toList] at n2
  have line : sizeLine = 16777216 := sizeLine_eq
  refine DT.sortedI (I.ok.hd hc) hit ⟨o, g1, g2, g3⟩ (by omega) fun h' tk as keep lt la made => ?_
  have nd : as.Nodup := made.rise.imp fun z => Nat.ne_of_lt z
  -- what is made: the pairs of ks, one after another
  have mk : ∀ (j : Nat) a, as[j]? = some a → ∃ e, ks[j]? = some e ∧ ∀ H2 : Hp, ObjOk X.prog X.w H2 (h'.push { cls := .type "list", data := .seq (as.map Value.ref).toArray }) a (prV e) := fun j a hj => by
    obtain ⟨en, ej, ga⟩ := made.pairs j a hj
    obtain ⟨kv, v1, v2, v3⟩ := entries_at hps (by rw [Array.getElem?_toList]; exact ej)
    obtain ⟨w0, w1, w2, w3⟩ := paired_at rel v1
    rw [List.getElem?_map] at w1
    obtain ⟨e, x1, rfl⟩ := Option.map_eq_some_iff.mp w1
    rw [← (show (Sum.inl e.1 : Key) = kv.1 from w2)] at v2
    obtain ⟨t, y1⟩ := Value.isInt_shape (k := e.1) (v := en.key) v2
    obtain ⟨u, y2⟩ := (show ∃ u, kv.2 = Value.int e.2 u from w3)
    refine ⟨e, x1, fun H2 => ⟨(by show 2 ≤ sizeLine; decide), [.int e.1 t, .int e.2 u], .cons ⟨t, rfl⟩ (.cons ⟨u, rfl⟩ .nil), _, Heap.get?_push_of_some _ ga, rfl, 0, ?_⟩⟩
    rw [y1, v3, y2]
  have vr : ∀ l : List Addr, Vals (l.map V.ref) (l.map Value.ref) := fun l => by
    induction l with
    | nil => exact .nil
    | cons a l ih => exact .cons rfl ih
  have hL : H h'.objs.size = none := I.hok.fresh (Nat.le_of_lt lt)
  have I1 : Inv X pins σ (upd H h'.objs.size (.lst (as.map V.ref))) { s with heap := h'.push { cls := .type "list", data := .seq (as.map Value.ref).toArray }, toks := tk } :=
    I.laid (fun b u z => Heap.get?_push_of_some _ (keep b u z)) (Nat.le_of_lt lt) ⟨by rw [List.length_map]; omega, as.map Value.ref, 0, vr as, Heap.get?_push_size _ rfl⟩
  have up : ∀ a ∈ as, s.heap.objs.size ≤ a ∧ a ≠ h'.objs.size := fun a ha => by
    obtain ⟨j, hj⟩ := List.getElem?_of_mem ha
    obtain ⟨en, _, ga⟩ := made.pairs j a hj
    exact ⟨Nat.le_of_lt (made.above a ha), Nat.ne_of_lt (Heap.lt_size ga)⟩
  obtain ⟨H2, I2, gr, got⟩ := takeT (P := fun a ws => ∃ (j : Nat) (e : Int × Int), as[j]? = some a ∧ ks[j]? = some e ∧ ws = [.int e.1, .int e.2]) I as _ I1 nd fun a ha => by
    obtain ⟨j, hj⟩ := List.getElem?_of_mem ha
    obtain ⟨e, he, ok⟩ := mk j a hj
    refine ⟨(up a ha).1, ?_, _, ⟨j, e, hj, he, rfl⟩, ok⟩
    rw [upd_ne (up a ha).2]
    exact I.hok.fresh (up a ha).1
  have H2L : H2 h'.objs.size = some (.lst (as.map V.ref)) := gr _ _ upd_same
  have key : ∀ (j : Nat) a, as[j]? = some a → ks[j]? = some (pairAt H2 (.ref a)) ∧ H2 a = some (prV (pairAt H2 (.ref a))) := fun j a hj => by
    obtain ⟨ws, ⟨i, e, e1, e2, rfl⟩, h2⟩ := got a (List.mem_of_getElem? hj)
    obtain ⟨p1, p2⟩ := List.getElem?_eq_some_iff.mp hj
    obtain ⟨q1, q2⟩ := List.getElem?_eq_some_iff.mp e1
    have ij : i = j := (List.getElem_inj nd).mp (q2.trans p2.symm)
    subst ij
    rw [pairAt_eq (e := e) h2]
    exact ⟨e2, h2⟩
  have all : (as.map V.ref).map (pairAt H2) = ks := by
    refine List.ext_getElem? fun j => ?_
    rw [List.map_map, List.getElem?_map]
    rcases Nat.lt_or_ge j as.length with hj | hj
    · rw [List.getElem?_eq_getElem hj]
      exact (key j _ (List.getElem?_eq_getElem hj)).1.symm
    · rw [List.getElem?_eq_none hj, List.getElem?_eq_none (by omega)]
      rfl
  have nL : ∀ a ∈ as, a ≠ h'.objs.size := fun a ha => (up a ha).2
  refine thn (mt_sortPO (X := inner X) pins _ σ H2 (.ref h'.objs.size) [] _ [] (fun _ H3 => Q (.ref h'.objs.size) H3) (inner_inv I2) rfl .nil ⟨_, _, pairAt H2, rfl, rfl, H2L, fun y hy => ?_, fun zs so st => ?_⟩) fun v s3 ⟨x, H3, I3, _, q3⟩ => ⟨.ref h'.objs.size, H3, outer_inv I3, rfl, q3⟩
  · obtain ⟨a, ha, rfl⟩ := List.mem_map.mp hy
    obtain ⟨j, hj⟩ := List.getElem?_of_mem ha
    exact ⟨a, rfl, (key j a hj).2⟩
  · have sub : ∀ z ∈ zs, ∃ a ∈ as, z = .ref a := fun z hz => by
      obtain ⟨a, ha, rfl⟩ := List.mem_map.mp (st.perm.mem_iff.mp hz)
      exact ⟨a, ha, rfl⟩
    have eq3 : ∀ z ∈ zs, pairAt (upd H2 h'.objs.size (.lst zs)) z = pairAt H2 z ∧ ∃ a, z = .ref a ∧ H a = none ∧ a ≠ h'.objs.size ∧ (upd H2 h'.objs.size (.lst zs)) a = some (prV (pairAt H2 z)) := fun z hz => by
      obtain ⟨a, ha, rfl⟩ := sub z hz
      obtain ⟨j, hj⟩ := List.getElem?_of_mem ha
      have h2 := (key j a hj).2
      have h3 : (upd H2 h'.objs.size (.lst zs)) a = some (prV (pairAt H2 (.ref a))) := by
        rw [upd_ne (nL a ha)]
        exact h2
      exact ⟨pairAt_eq h3, a, rfl, I.hok.fresh (up a ha).1, nL a ha, h3⟩
    have em : zs.map (pairAt (upd H2 h'.objs.size (.lst zs))) = zs.map (pairAt H2) := List.map_congr_left fun z hz => (eq3 z hz).1
    refine q _ h'.objs.size zs (fun b u z => ?_) hL upd_same (fun z hz => ?_) ?_ ?_
    · have nb : b ≠ h'.objs.size := ne_of_none z hL
      rw [upd_ne nb]
      exact gr b u (by rw [upd_ne nb]; exact z)
    · obtain ⟨e1, a, e2, e3, e4, e5⟩ := eq3 z hz
      exact ⟨a, e2, e3, e4, by rw [e1]; exact e5⟩
    · rw [em, ← all]
      exact st.perm.map _
    · rw [em]
      exact List.pairwise_map.mpr so
end
section
variable {K : PySem.W.Frag} {n : Nat} {C : Ct K n} {σ : L2.St} {H B : Hp} {S : SS}
/-- all that is new but the list at l stays -/
theorem Rep.fresh {H' : Hp} {l : Addr} {zs : List V} (R : Rep C σ H B S) (sH : Same H H') (hl : H l = none) (hl' : H' l = some (.lst zs)) : ∃ B', Rep C σ H' B' S ∧ Same B B' ∧ Loose C σ S B' l ∧ ∀ a, H a = none → a ≠ l → B' a = H' a := by
  classical
  obtain ⟨h0, hb, _⟩ := R.new hl
  let B' : Hp := fun a => if H a = none ∧ a ≠ l then H' a else B a
  have bB : ∀ a o, H a = some o → B' a = B a := fun a o z => if_neg fun q => by
    rw [q.1] at z
    cases z
  have bN : ∀ a, H a = none → a ≠ l → B' a = H' a := fun a z n => if_pos ⟨z, n⟩
  have bL : B' l = none := (if_neg fun q => q.2 rfl).trans hb
  have sB : Same B B' := fun a o z => (bB a o (R.base.bh a o z)).trans z
  have bh : Same B' H' := fun a o z => by
    cases q : H a with
    | some u =>
      rw [bB a u q] at z
      exact sH a o (R.base.bh a o z)
    | none =>
      by_cases e : a = l
      · subst e
        exact nomatch (z.symm.trans bL)
      · rw [← bN a q e]
        exact z
  refine ⟨B', R.after sH sB bh (fun a o z => ?_), sB, ⟨bL, h0, fun j u q m e => ?_⟩, bN⟩
  · cases q : H a with
    | some u =>
      rw [bB a u q] at z
      exact .inl z
    | none => exact .inr rfl
  · obtain ⟨a, o, e1, e2, _⟩ := R.own_at q m
    rw [e] at e1
    cases e1
    exact nomatch (e2.symm.trans hl)
def intKs : List (Key × PyData) → Option (List (Int × Int))
  | [] => some []
  | (.inl i, .int j) :: ks => (intKs ks).map ((i, j) :: ·)
  | _ :: _ => none
theorem intKs_v : ∀ {ws : List (Key × V)} {ks : List (Key × PyData)} {ps : List (Int × Int)}, DpKs K B ws ks → intKs ks = some ps → ws = ps.map fun e => (.inl e.1, .int e.2)
  | _, _, _, .nil, h => by cases h; rfl
  | _, (k, d) :: ks, _, .cons (a := a) h t, q => by
    obtain ⟨a1, a2⟩ := a
    obtain ⟨h1, h2⟩ := h
    dsimp only at h1 h2
    subst h1
    cases a1 with
    | inr x => cases h2 <;> cases q
    | inl i =>
      cases h2 <;> first | (cases q; done) | skip
      unfold intKs at q
      obtain ⟨qs, q1, rfl⟩ := Option.map_eq_some_iff.mp q
      rw [intKs_v t q1]
      rfl
abbrev prD (e : Int × Int) : PyData := .tuple [.int e.1, .int e.2]
def leP (x y : Int × Int) : Bool := decide (x.1 ≤ y.1)
def sortP (ps : List (Int × Int)) : List (Int × Int) := ps.mergeSort leP
theorem sort_uniq : ∀ {l m : List (Int × Int)}, l.Perm m → l.Pairwise (fun x y => x.1 < y.1) → m.Pairwise (fun x y => x.1 < y.1) → l = m
  | [], m, h, _, _ => (List.nil_perm.mp h).symm
  | x :: l, [], h, _, _ => nomatch (List.perm_nil.mp h)
  | x :: l, y :: m, h, h1, h2 => by
    obtain ⟨a1, a2⟩ := List.pairwise_cons.mp h1
    obtain ⟨b1, b2⟩ := List.pairwise_cons.mp h2
    have e : x = y := by
      rcases List.mem_cons.mp (h.mem_iff.mp List.mem_cons_self) with q | q
      · exact q
      · rcases List.mem_cons.mp (h.mem_iff.mpr (List.mem_cons_self (a := y))) with q2 | q2
        · exact q2.symm
        · have := b1 x q
          have := a1 y q2
          omega
    subst e
    rw [sort_uniq h.cons_inv a2 b2]
theorem sortP_perm (ps : List (Int × Int)) : (sortP ps).Perm ps := List.mergeSort_perm ps leP
theorem rise_of {l : List (Int × Int)} (nd : (l.map (·.1)).Nodup) (h : l.Pairwise fun x y => x.1 ≤ y.1) : l.Pairwise fun x y => x.1 < y.1 := by
  have nd' : l.Pairwise fun x y => x.1 ≠ y.1 := List.pairwise_map.mp nd
  exact (h.and nd').imp fun z => by omega
theorem sortP_rise {ps : List (Int × Int)} (nd : (ps.map (·.1)).Nodup) : (sortP ps).Pairwise fun x y => x.1 < y.1 := by
  refine rise_of (((sortP_perm ps).map _).nodup_iff.mpr nd) ?_
  have := List.pairwise_mergeSort (le := leP) (fun a b c h1 h2 => by
    have := of_decide_eq_true h1
    have := of_decide_eq_true h2
    exact decide_eq_true (by omega)) (fun a b => by
    unfold leP
    rcases Int.le_total a.1 b.1 with h | h
    · rw [decide_eq_true h]
      rfl
    · rw [decide_eq_true h, Bool.or_true]) ps
  exact this.imp fun h => of_decide_eq_true h
def vSortK (i : Nat) : VF := fun S => (dicD S i).bind fun kvs => match intKs kvs with
  | some ps => R.when (ps.length ≤ 1000 ∧ (ps.map (·.1)).Nodup) (.ok ((sortP ps).map prD, S))
  | none => .bad
theorem f_sortK {i : Nat} : SEF C (tCB rSortK (tCons (tBM0 K "dict" rItemsK (tVar i)) tNil)) (vSortK i) := by
  intro σ H B S Q R h
  obtain ⟨kvs, a, ws, q1, q2, q3, q4, h⟩ := dic_of R (post_bind.mp h)
  split at h
  · rename_i ps e
    obtain ⟨⟨hl, hn⟩, h⟩ := post_when.mp h
    have ew := intKs_v q4 e
    refine ⟨_, q2, .inr (.inr (.inl ⟨rfl, .inl ⟨_, q3⟩⟩)), a, ws, ⟨rfl, rfl⟩, q3, fun p hp => ?_⟩
    have na : a ≠ p := ne_of_none q3 hp
    refine ⟨p, a, ps, rfl, upd_same, by rw [upd_ne na, q3, ew], hl, fun H' l zs sH hl hl' hz perm so => ?_⟩
    have R1 : Rep C σ (upd H p (itemsO p a)) B S := R.loose hp
    obtain ⟨B', R2, sB, L, nb⟩ := R1.fresh sH hl hl'
    have ez : zs.map (pairAt H') = sortP ps := by
      refine sort_uniq (perm.trans (sortP_perm ps).symm) (rise_of ((perm.map _).nodup_iff.mpr hn) (so.imp fun z => ?_)) (sortP_rise hn)
      have := SrtO.lexB_no.mp z
      omega
    refine h l zs H' B' R2 sB hl' L ?_
    rw [← ez]
    have da : ∀ us : List V, (∀ z ∈ us, z ∈ zs) → DaAll K B' us ((us.map (pairAt H')).map prD) := fun us => by
      induction us with
      | nil => exact fun _ => .nil
      | cons u us ih =>
        intro hu
        refine .cons ?_ (ih fun z hz => hu z (List.mem_cons_of_mem _ hz))
        obtain ⟨b, rfl, e1, e2, e3⟩ := hz u (hu u List.mem_cons_self)
        refine .tup (xs := [.int (pairAt H' (.ref b)).1, .int (pairAt H' (.ref b)).2]) (SqT.of ?_) (.cons (.int _) (.cons (.int _) .nil))
        rw [nb b e1 e2]
        exact e3
    exact da zs fun _ z => z
  · exact h.elim
/-! enumerate, zip -/
theorem Kd.up {k : Kd} {p : Addr} {xs : List V} (e : Same B H) (h : k.Sq K B p xs) : k.Sq K H p xs := match k, h with
  | .L, h => sm_l e h
  | .T, h => sm_t e h
def listD : PyData → Option (List PyData)
  | .list ds => some ds
  | _ => none
def tupleD : PyData → Option (List PyData)
  | .tuple ds => some ds
  | _ => none
def kdD (k : Kd) : PyData → Option (List PyData) := match k with
  | .L => listD
  | .T => tupleD
theorem kd_of {k : Kd} {y : V} {e : PyData} {ds : List PyData} (h : Da K B y e) (q : kdD k e = some ds) : ∃ (p : Addr) (xs : List V), y = .ref p ∧ k.Sq K B p xs ∧ DaAll K B xs ds := by
  cases k with
  | L =>
    cases h with
    | lst s a => cases (Option.some.inj q); exact ⟨_, _, rfl, SqL.of s, a⟩
    | _ => exact nomatch q
  | T =>
    cases h with
    | tup s a => cases (Option.some.inj q); exact ⟨_, _, rfl, s, a⟩
    | _ => exact nomatch q
theorem walks_enumK {k : Kd} {a : Addr} {xs : List V} {ds : List PyData} (s : k.Sq K B a xs) (h : DaAll K B xs ds) (uniq : ∀ (C : Ct K n) σ H1 B1 S, Rep C σ H1 B1 S → Same B B1 → ∀ v H' i y, (ItN K k a).yld i H1 v H' → (∀ zs, k.Sq K H1 a zs → zs[i]? = some y) → True := by intros; trivial) : Walks C B (ItN K k a) (enumD ds) where
  go := fun i H hi e => by
    rw [enumD_len, ← daa_len h] at hi
    exact ⟨xs, xs[i], Kd.up e s, List.getElem?_eq_getElem hi⟩
  stop := fun H e => ⟨xs, Kd.up e s, by rw [enumD_len, daa_len h]⟩
  yld := fun i H H' x d hd y C σ B1 S R e => by
    obtain ⟨T, x0, x1, rfl, hT, rfl, rfl, y1⟩ := y
    have hx := y1 xs (Kd.up (e.trans R.base.bh) s)
    obtain ⟨d1, q1, q2⟩ := daa_at h hx
    obtain ⟨B', R1, e1, da⟩ := R.tup (xs := [.int (i : Nat), x1]) (ds := [.int (i : Nat), d1]) hT (.cons (.int _) (.cons (da_mono e q2) .nil))
    rw [enumD_get q1] at hd
    cases hd
    exact ⟨B', R1, e1, da, fun D o z => by rw [upd_ne (ne_of_none z hT)]; exact z⟩
def vEnumK (k : Kd) (fa : VA) : VF := fun S => (fa S).bind fun p => match p.1 with
  | [d] => match kdD k d with
    | some ds => .ok (enumD ds, p.2)
    | none => .bad
  | _ => .bad
theorem i_enumK {k : Kd} {ta : TA} {fa : VA} (ha : SA C ta fa) : SI C (iEnumK k K ta) (vEnumK k fa) := by
  intro σ H B S Rr R h
  replace h := post_bind.mp h
  refine ha σ H B S _ R (h.mono fun p h1 v H1 B1 R1 e1 d1 => ?_)
  obtain ⟨d, S1⟩ := p
  dsimp only at d1 h1 R1
  split at h1
  · cases d1 with
    | cons q1 t =>
      cases t
      split at h1
      · rename_i ds q
        obtain ⟨p, xs, rfl, sq, da⟩ := kd_of q1 q
        exact ⟨p, xs, rfl, Kd.up R1.base.bh sq, h1 _ H1 B1 R1 e1 (walks_enumK sq da)⟩
      · exact h1.elim
  · exact h1.elim
theorem walks_zipK {k l : Kd} {a b : Addr} {xs ys : List V} {ds es : List PyData} (s : k.Sq K B a xs) (h : DaAll K B xs ds) (s2 : l.Sq K B b ys) (h2 : DaAll K B ys es) : Walks C B (ItZ K k l a b) (zipD ds es) where
  go := fun i H hi e => by
    unfold zipD at hi
    rw [List.length_map, List.length_zip, ← daa_len h, ← daa_len h2] at hi
    exact ⟨xs, ys, xs[i]'(by omega), ys[i]'(by omega), Kd.up e s, Kd.up e s2, List.getElem?_eq_getElem _, List.getElem?_eq_getElem _⟩
  stop := fun H e => by
    unfold zipD
    rw [List.length_map, List.length_zip, ← daa_len h, ← daa_len h2]
    exact ⟨xs, ys, Kd.up e s, Kd.up e s2, rfl⟩
  yld := fun i H H' x d hd y C σ B1 S R e => by
    obtain ⟨T, x1, x2, rfl, hT, rfl, y1, y2⟩ := y
    have hx := y1 xs (Kd.up (e.trans R.base.bh) s)
    have hy := y2 ys (Kd.up (e.trans R.base.bh) s2)
    obtain ⟨d1, q1, q2⟩ := daa_at h hx
    obtain ⟨d2, q3, q4⟩ := daa_at h2 hy
    obtain ⟨B', R1, e1, da⟩ := R.tup (xs := [x1, x2]) (ds := [d1, d2]) hT (.cons (da_mono e q2) (.cons (da_mono e q4) .nil))
    have ed : d = .tuple [d1, d2] := by
      unfold zipD at hd
      rw [List.getElem?_map, (List.getElem?_zip_eq_some (z := (d1, d2))).mpr ⟨q1, q3⟩] at hd
      exact (Option.some.inj hd).symm
    rw [ed]
    exact ⟨B', R1, e1, da, fun D o z => by rw [upd_ne (ne_of_none z hT)]; exact z⟩
def vZipK (k l : Kd) (fa : VA) : VF := fun S => (fa S).bind fun p => match p.1 with
  | [d, e] => match kdD k d, kdD l e with
    | some ds, some es => .ok (zipD ds es, p.2)
    | _, _ => .bad
  | _ => .bad
theorem i_zipK {k l : Kd} {ta : TA} {fa : VA} (ha : SA C ta fa) : SI C (iZipK k l K ta) (vZipK k l fa) := by
  intro σ H B S Rr R h
  replace h := post_bind.mp h
  refine ha σ H B S _ R (h.mono fun p h1 v H1 B1 R1 e1 d1 => ?_)
  obtain ⟨d, S1⟩ := p
  dsimp only at d1 h1 R1
  split at h1
  · cases d1 with
    | cons q1 t =>
      cases t with
      | cons q2 t =>
        cases t
        split at h1
        · rename_i ds es z1 z2
          obtain ⟨p, xs, rfl, sq, da⟩ := kd_of q1 z1
          obtain ⟨q, ys, rfl, sq2, da2⟩ := kd_of q2 z2
          exact ⟨p, q, xs, ys, rfl, Kd.up R1.base.bh sq, Kd.up R1.base.bh sq2, h1 _ H1 B1 R1 e1 (walks_zipK sq da sq2 da2)⟩
        · exact h1.elim
  · exact h1.elim
/-! list(range(n)), sorted(ints) -/
def vListRg (fa : VE) : VF := fun S => (fa S).bind fun p => (toI p.1).bind fun j => R.when (-1000000 ≤ j ∧ j ≤ 1000000) (.ok (rangeD 0 j.toNat, p.2))
theorem daa_range (lo : Int) (l : List Nat) : DaAll K B (l.map fun i => V.int (lo + (i : Nat))) (l.map fun i => PyData.int (lo + (i : Nat))) := by
  induction l with
  | nil => exact .nil
  | cons i l ih => exact .cons (.int _) ih
def gSortI : List PyData → R PyData
  | [.list ds] => match intsD ds with
    | some ns => .ok (.list ((ns.mergeSort fun a b => decide (a ≤ b)).map PyData.int))
    | none => .bad
  | _ => .bad
theorem ints_uniq : ∀ {l m : List Int}, l.Perm m → l.Pairwise (· ≤ ·) → m.Pairwise (· ≤ ·) → l = m
  | [], m, h, _, _ => (List.nil_perm.mp h).symm
  | x :: l, [], h, _, _ => nomatch (List.perm_nil.mp h)
  | x :: l, y :: m, h, h1, h2 => by
    obtain ⟨a1, a2⟩ := List.pairwise_cons.mp h1
    obtain ⟨b1, b2⟩ := List.pairwise_cons.mp h2
    have e : x = y := by
      rcases List.mem_cons.mp (h.mem_iff.mp List.mem_cons_self) with q | q
      · exact q
      · rcases List.mem_cons.mp (h.mem_iff.mpr (List.mem_cons_self (a := y))) with q2 | q2
        · exact q2.symm
        · have := b1 x q
          have := a1 y q2
          omega
    subst e
    rw [ints_uniq h.cons_inv a2 b2]
end
end Bo

/-! ### defs that raise: their worth tells the error -/
namespace Bo
open PySem L2
section
variable {X : Cx}
theorem ps_nox {st : Stmt} {t : TS} (h : PS X.nox st t) : PS X st t := ⟨fun pins s σ H D I hw =>
  wpAny_mono (h.run pins s σ H D (I.wish _) hw) (fun _ _ q => q.unwish) fun _ _ z => False.elim z⟩
end
/-- where the classes of errors stand, the name of their field -/
structure Cls where
  at_ : String → Option Addr
  fld : String → Str
/-- the error's own dict -/
def XD (L : Cls) (e : Exc) (v : V) (d : Option Addr) (H : Hp) : Prop := match e.arg with
  | none => d = none
  | some _ => ∃ dd, d = some dd ∧ H dd = some (.xd [(L.fld e.cls, v)])
def R.ends {α : Type} (x : R α) (k : α → Prop) (ke : Exc → Prop) : Prop := match x with
  | .ok a => k a
  | .err e => ke e
  | .bad => False
theorem R.ends.mono {α : Type} {x : R α} {k k' : α → Prop} {ke ke' : Exc → Prop} (h : x.ends k ke) (m : ∀ a, k a → k' a) (me : ∀ e, ke e → ke' e) : x.ends k' ke' := by
  cases x with
  | ok a => exact m a h
  | err e => exact me e h
  | bad => exact h
section
variable {K : PySem.W.Frag} {n : Nat} {C : Ct K n} {σ : L2.St} {H B : Hp} {S : SS}
/-- what is told of an error that leaves -/
def Leaves (K : PySem.W.Frag) (L : Cls) (H B : Hp) (E : XK) (e : Exc) : Prop := ∀ c d v H' B', L.at_ e.cls = some c → Same H H' → Same B B' → Same B' H' → Frz H B B' → (∀ a, e.arg = some a → Da K B' v a) → XD L e v d H' → E (.ref c) d H'
/-- a def that changes nothing, and may raise -/
def spX (K : PySem.W.Frag) (L : Cls) (m : Nat) (den : List PyData → R PyData) : Sp := fun vs H Q E => ∃ (ds : List PyData) (B : Hp), DaAll K B vs ds ∧ Same B H ∧ ds.length = m ∧
  (den ds).ends (fun z => ∀ v H' B', Same H H' → Same B B' → Same B' H' → Frz H B B' → Da K B' v z → Q v H') (Leaves K L H B E)
/-- what leaves meets the wish -/
def Link (C : Ct K n) (L : Cls) (W : WX) : Prop := ∀ e v d σ H, C.er e v H → XD L e v d H → ∀ c, L.at_ e.cls = some c → W (.ref c) d σ H
/-- behind a call that changed nothing of ours: the base -/
theorem Base.after {H' B' : Hp} (R : Rep C σ H B S) (sH : Same H H') (sB : Same B B') (bh : Same B' H') (fz : Frz H B B') : Base C H' B' := (R.after sH sB bh fz).base
/-! raise X(..) -/
def vRaise0 (cls : String) (fa : VA) : VS := fun S => (fa S).bind fun p => R.when (p.1.length ≤ 100000) (.err ⟨cls, none⟩)
theorem st_raise0 {cls : String} {L : Cls} {W : WX} {c : Addr} {ta : TA} {fa : VA} (lk : Link C L W) (hc : L.at_ cls = some c) (ha : SA C ta fa) :
    SSt C (fun _ σ H => ta σ H fun vs H1 => vs.length ≤ sizeLine ∧ W (.ref c) none σ H1) (vRaise0 cls fa) := by
  intro σ H B S D R h
  replace h := post_bind.mp h
  refine ha σ H B S _ R (h.mono fun p h1 vs H1 B1 R1 e1 d1 => ?_)
  obtain ⟨k, h1⟩ := post_when.mp h1
  refine ⟨line_le (by rw [daa_len d1]; exact k), ?_⟩
  exact lk ⟨cls, none⟩ .non none σ _ (h1 _ B1 .non R1.base fun a e => nomatch e) rfl c hc
/-! a def by its body -/
def erX (L : Cls) (E : XK) : Exc → V → Hp → Prop := fun e v H => ∀ d, XD L e v d H → ∀ c, L.at_ e.cls = some c → E (.ref c) d H
theorem link_erX {H B : Hp} {L : Cls} {E : XK} : Link (ct0 (K := K) H B (erX L E)) L (fun cls d _ H => E cls d H) := fun e v d σ H' h xd c hc => h d xd c hc
theorem len_X {L : Cls} {m : Nat} {den : List PyData → R PyData} {vs : List V} {Q : VK} {E : XK} (h : spX K L m den vs H Q E) : vs.length = m := by
  obtain ⟨ds, B, d, _, e, _⟩ := h
  rw [daa_len d, e]
theorem out_X {L : Cls} {E : XK} {e : Exc} (h : Leaves K L H B E e) : (ct0 (K := K) H B (erX L E)).Out e := fun H' B' v b da d xd c hc =>
  h c d v H' B' hc (fun a o z => b.keep a o (by simp [ct0]) z) b.b0 b.bh (fun a o z => b.fr a o z) da xd
theorem run_X {m : Nat} {N : List Str} {f : VS} {t : TS} {vs : List V} {Q : VK} {E : XK} {L : Cls} (s : ∀ C : Ct K 0, Link C L (fun cls d _ H => E cls d H) → SSt C t f) (h : spX K L m (denP N.length f) vs H Q E) : t { nx := fun _ H' => Q .non H', rt := Q } (L2.start N vs) H := by
  obtain ⟨ds, B, d, bh, _, h⟩ := h
  have R := rep_start (N := N) (er := erX L E) d bh
  refine s _ link_erX _ H B _ _ R ?_
  unfold denP endP at h
  cases q : f (startS N.length ds) with
  | bad =>
    rw [q] at h
    exact h.elim
  | err e =>
    rw [q] at h
    exact out_X h
  | ok fl =>
    rw [q] at h
    show FlPost _ _ _ fl
    cases fl with
    | nx S => exact fun σ' H' B' R' e => h .non H' B' (fun a o z => R'.base.keep a o (by simp [ct0]) z) e R'.base.bh (fun a o z => R'.base.fr a o z) .non
    | rt d S => exact fun v σ' H' B' R' e dv => h v H' B' (fun a o z => R'.base.keep a o (by simp [ct0]) z) e R'.base.bh (fun a o z => R'.base.fr a o z) dv
    | bk S => exact h.elim
    | ct S => exact h.elim
end
end Bo

/-! ### texts: what their operations are worth -/
namespace Bo
open PySem L2
section
variable {K : PySem.W.Frag} {n : Nat} {C : Ct K n} {σ : L2.St} {H B : Hp} {S : SS}
/-! s.m() and s.m(e) -/
def toS : PyData → R Str
  | .str x => .ok x
  | _ => .bad
def vM0 (g : Str → R PyData) (fa : VE) : VE := fun S => (fa S).bind fun p => (toS p.1).bind fun a => (g a).bind fun z => .ok (z, p.2)
def vM1 (g : Str → Str → R PyData) (fa fb : VE) : VE := fun S => (fa S).bind fun p => (toS p.1).bind fun a => (fb p.2).bind fun q => (toS q.1).bind fun b => (g a b).bind fun z => .ok (z, q.2)
def gIsdigit (a : Str) : R PyData := .ok (.bool (Txt.isdigit a))
def gIsascii (a : Str) : R PyData := .ok (.bool (Txt.isascii a))
def gRemoveprefix (a b : Str) : R PyData := R.when (a.length ≤ 100000) (.ok (.str (Txt.removeprefix a b)))
def gPartition (a b : Str) : R PyData := R.when ((b.length == 0) = false ∧ a.length ≤ 100000) (.ok (.tuple [.str (Txt.partition a b).1, .str (Txt.partition a b).2.1, .str (Txt.partition a b).2.2]))
def gSplit (a b : Str) : R PyData := R.when ((b.length == 0) = false ∧ a.length ≤ 100000) (.ok (.list ((Txt.split a b).map PyData.str)))
/-! sep.join(xs) -/
def strsD : List PyData → Option (List Str)
  | [] => some []
  | .str i :: ds => (strsD ds).map (i :: ·)
  | _ :: _ => none
theorem strs_map : ∀ ns : List Str, strsD (ns.map PyData.str) = some ns
  | [] => rfl
  | n :: ns => by
    show (strsD (ns.map PyData.str)).map (n :: ·) = _
    rw [strs_map ns]
    rfl
def joinD (a : Str) (ds : List PyData) : R PyData := match strsD ds with
  | some ys => R.when ((ys.map (·.length)).sum + ys.length * a.length ≤ 100000) (.ok (.str (Txt.join a ys)))
  | none => .bad
def vJoin (fa fb : VE) : VE := fun S => (fa S).bind fun p => (toS p.1).bind fun a => (fb p.2).bind fun q => match itemsD q.1 with
  | some ds => (joinD a ds).bind fun z => .ok (z, q.2)
  | none => .bad
def vJoinO (fa : VE) (i : Nat) : VE := fun S => (fa S).bind fun p => (toS p.1).bind fun a => (ownD p.2 i).bind fun ds => (joinD a ds).bind fun z => .ok (z, p.2)
/-! c in s: one sign -/
def signD (x : Str) : Option Nat := match x.cps.toList with
  | [c] => some c
  | _ => none
def gInS (neg : Bool) : PyData → PyData → R PyData
  | .str x, .str z => match signD x with
    | some c => .ok (.bool (if neg then !decide (c ∈ z.cps.toList) else decide (c ∈ z.cps.toList)))
    | none => .bad
  | _, _ => .bad
/-! s[i], s[lo:hi] -/
def gIxS : PyData → PyData → R PyData
  | .str z, .int i => R.when (z.length ≤ 100000) (match atI z.cps.toList i with
    | some c => .ok (.str ⟨#[c]⟩)
    | none => .bad)
  | _, _ => .bad
def gSlS (d : PyData) (lo hi : Option Int) : R PyData := match d with
  | .str z => R.when (z.length ≤ 100000) (.ok (.str (cutS z lo hi)))
  | _ => .bad
/-! int(s) -/
def gIntS : List PyData → R PyData
  | [.str a] => match PySem.intText? a with
    | some n => R.when (a.length ≤ 640) (.ok (.int n))
    | none => .bad
  | _ => .bad
/-! for c in s -/
def signsD (x : Str) : List PyData := x.cps.toList.map fun c => .str ⟨#[c]⟩
def vIterS (fa : VE) : VF := fun S => (fa S).bind fun p => (toS p.1).bind fun x => .ok (signsD x, p.2)
/-! s * n -/
def repS (x : Str) (n : Nat) : Str := ⟨(List.replicate n x.cps).foldl (· ++ ·) #[]⟩
def gRepS : PyData → PyData → R PyData
  | .str x, .int m => R.when (2 ≤ m ∧ m ≤ 1000 ∧ x.length = 1) (.ok (.str (repS x m.toNat)))
  | _, _ => .bad
/-! f'..' -/
def toFmt : PyData → R Str
  | .str y => R.when (y.length ≤ 100000) (.ok y)
  | .int i => R.when (i.natAbs < 2 ^ 1900) (.ok (toString i))
  | _ => .bad
def vFmt (fa : VE) : VE := fun S => (fa S).bind fun p => (toFmt p.1).bind fun y => .ok (.str y, p.2)
/-- the texts one behind the other -/
def vJs : List VE → Str → SS → R (Str × SS)
  | [], acc, S => .ok (acc, S)
  | f :: fs, acc, S => (f S).bind fun p => (toS p.1).bind fun y => R.when ((acc ++ y).length ≤ 100000) (vJs fs (acc ++ y) p.2)
inductive SJ (C : Ct K n) : List TE → List VE → Prop
  | nil : SJ C [] []
  | cons {t : TE} {f : VE} {ts : List TE} {fs : List VE} (h : SE C t f) (r : SJ C ts fs) : SJ C (t :: ts) (f :: fs)
def vJoined (fs : List VE) : VE := fun S => (vJs fs Str.empty S).bind fun p => .ok (.str p.1, p.2)
/-! min, max of two -/
def gMin2 : List PyData → R PyData
  | [.int i, .int j] => .ok (.int (if j < i then j else i))
  | _ => .bad
theorem c_min2 : SCR C (fun xs H Q => ∃ i j, xs = [.int i, .int j] ∧ Q (.int (if j < i then j else i)) H) gMin2 := by
  intro σ H B S xs ds Q R d h
  cases d with
  | nil => exact h.elim
  | cons h1 t =>
    cases t with
    | nil => cases h1 <;> exact h.elim
    | cons h2 t =>
      cases t with
      | cons h3 t => cases h1 <;> first | exact h.elim | (cases h2 <;> exact h.elim)
      | nil => cases h1 <;> first | exact h.elim | (cases h2 <;> first | exact h.elim | exact ⟨_, _, rfl, h _ H B R (Same.refl _) (.int _)⟩)
end
end Bo

/-! ### "".join(reversed(xs)); code that is never reached; calls of defs that may raise, and do not -/
namespace Bo
open PySem PySem.Spec PyProof.Rows L2
section
variable {prog : Program} {w : World} {A : Around} {E : Value → Shared → Prop} {s : Shared}
end
section
variable {X : Cx}
end
section
variable {K : PySem.W.Frag} {n : Nat} {C : Ct K n} {σ : L2.St} {H B : Hp} {S : SS}
def vJoinR (fa : VE) (i : Nat) : VE := fun S => (fa S).bind fun p => (toS p.1).bind fun a => (ownD p.2 i).bind fun ds => match strsD ds with
  | some ys => R.when ((ys.map (·.length)).sum + ys.length * a.length ≤ 100000) (.ok (.str (Txt.join a ys.reverse), p.2))
  | none => .bad
end
end Bo

/-! ### errors as values: made, asked for their class, read -/
namespace Bo
open PySem PySem.Spec PyProof.Rows L2
/-- at a: an error of the class at C -/
def HasE (H : Hp) (a C : Addr) : Prop := (∃ d fs, H a = some (exo a C (some d)) ∧ H d = some (exd d fs)) ∨ H a = some (ExO (.ref C) a)
section
variable {X : Cx} {pins : List (Addr × Obj)} {σ : L2.St} {H H' : Hp} {s : Shared} {a D C : Addr} {e o : Expr} {es : List Expr} {te : TE} {ta : TA} {p pos : Pos} {n x : Str}
theorem HasE.same (k : Same H H') (h : HasE H a C) : HasE H' a C := by
  rcases h with ⟨d, fs, h1, h2⟩ | h
  · exact .inl ⟨d, fs, k _ _ h1, k _ _ h2⟩
  · exact .inr (k _ _ h)
end
end Bo

/-! ### in an except suite: isinstance(e, X), with or without fields -/
namespace Bo
open PySem PySem.Spec PyProof.Rows L2
def rIsEd (K : PySem.W.Frag) (a : Addr) (cls : Value) (d : Option Addr) : List V → Hp → VK → Prop := fun xs H Q => ∃ (D : Addr) (c : V) (cv : Value) (b : Bool), cls = .ref D ∧ ExcC K D ∧ xs = [.ref a, c] ∧ (∀ u, RelV c u → u = cv) ∧
  PySem.W.kitOne K (.ref D) cv = some b ∧ (∀ dd, d = some dd → ∃ fs, H dd = some (.xd fs)) ∧ Q (.bl b) H
theorem call_isEd {X : Cx} {a : Addr} {oe : Obj} {cls : Value} {d : Option Addr} {pn : List (Addr × Obj)} (hz : Zc cls d oe) (hf : ∃ vs, oe.data = .fields vs) : CallR (X.suite a ((a, oe) :: pn)) (.builtin "isinstance") (rIsEd X.K a cls d) := by
  intro pins s σ H xs us Q I r h
  obtain ⟨D, c, cv, b, rfl, C, rfl, hcv, e, hd, q⟩ := h
  cases r with
  | cons rx rr =>
    cases rr with
    | cons rt rr =>
      cases rr
      cases rx
      have ec := hcv _ rt
      subst ec
      obtain ⟨hget, _⟩ := I.pin (a, oe) (List.mem_append.mpr (.inl List.mem_cons_self))
      obtain ⟨vs, hv⟩ := hf
      obtain ⟨cdD, hcD, _⟩ := PySem.W.any_some C.hd
      have J : ∃ od, PySem.W.InstAt s.heap a oe D od := by
        cases d with
        | none =>
          obtain ⟨oc, od, oda, osl⟩ := oe
          obtain ⟨h1, h2⟩ := hz
          dsimp only at h1 h2 hv
          subst h1 h2 hv
          exact ⟨none, hget, rfl, rfl, trivial⟩
        | some dd =>
          obtain ⟨fs, ea⟩ := hd dd rfl
          have hx : ObjOk X.prog X.w H s.heap dd (.xd fs) := I.hok dd _ ea
          obtain ⟨mA, hns, _⟩ := hx
          obtain ⟨od, ho, _⟩ := lookIn_ns hns
          exact ⟨some od, hget, hz.1, by unfold PySem.W.notCls; rw [hv] <;> rfl, by rw [hz.2]; exact ho⟩
      obtain ⟨od, J⟩ := J
      exact PySem.W.kia_one (PySem.W.kitx_exc (by rw [hcD]; rfl) C.hg C.hk C.hs C.ha C.hn C.ht C.hm) I.kIn J e (fun z => nomatch z) fun tk => ⟨.bl b, H, I.kept (t' := tk) fun _ _ z => z, rfl, q⟩
/-- the facts that isinstance asks, as one Bool -/
def xcB (K : PySem.W.Frag) (D : Addr) : Bool := xfB K D && (decide (PySem.W.findIn K (.ref D) "__class__" = some (some (.builtin "object.__class__"))) && (decide (PySem.W.specialIn K (.builtin "object.__class__") "__get__" = some (some (.builtin "getset_descriptor.__get__"))) &&
  (decide (PySem.W.takesIn K (.builtin "object.__class__") = some true) && decide (PySem.W.mroIn K D (.type "object") = some true))))
theorem xcB_ok {K : PySem.W.Frag} {D : Addr} (h : xcB K D = true) : ExcC K D := by
  obtain ⟨h1, h⟩ := Bool.and_eq_true_iff.mp h
  obtain ⟨h2, h⟩ := Bool.and_eq_true_iff.mp h
  obtain ⟨h3, h⟩ := Bool.and_eq_true_iff.mp h
  obtain ⟨h4, h5⟩ := Bool.and_eq_true_iff.mp h
  have X := xfB_ok h1
  exact ⟨X.ga, X.gg, X.exC, X.hdC, of_decide_eq_true h2, of_decide_eq_true h3, of_decide_eq_true h4, of_decide_eq_true h5⟩
end Bo

/-! ### several clauses 'except x as n', one behind the other -/
namespace Bo
open PySem PySem.Spec PyProof.Rows L2
abbrev Clause := Value × (Addr → Value → Option Addr → TS)
/-- what the clauses wish of an exception; slot i is the name's -/
def wAll (K : PySem.W.Frag) (i : Nat) (Wout : WX) (D : Ends) : List Clause → WX
  | [] => Wout
  | p :: r => wAs K p.1 i p.2 (wAll K i Wout D r) D
inductive Clauses (X : Cx) (n : Str) : List ExceptHandler → List Clause → Prop
  | nil : Clauses X n [] []
  | cons {x : Str} {c : Value} {ts : Addr → Value → Option Addr → TS} {b₀ : Stmt} {suite : List Stmt} {np pos' : Pos} {hds : List ExceptHandler} {l : List Clause} (hc : Names X x c)
      (hsu : ∀ (a : Addr) (oe : Obj) (cls : Value) (d : Option Addr) (pn : List (Addr × Obj)), Zc cls d oe → (∃ vs, oe.data = .fields vs) → PSs (X.suite a ((a, oe) :: pn)) (b₀ :: suite) (ts a cls d)) (r : Clauses X n hds l) :
      Clauses X n (.ExceptHandler (some (.Name x np)) (some n) (b₀ :: suite) pos' :: hds) ((c, ts) :: l)
/-- an exception caught, its flight down; sI is the state without it -/
structure Caught (X : Cx) (B : Heap) (a : Addr) (cls : Value) (d : Option Addr) (pins : List (Addr × Obj)) (σ : L2.St) (H : Hp) (sI s : Shared) : Prop where
  inv : Inv X pins σ H sI
  nb : ∀ b o, sI.heap.get? b = some o → b ∉ frs X.stack → B.get? b = some o
  up : sI.heap.UpToSlots s.heap
  fly : HandSPX.FlyingZ B (X.env :: X.outer) a (Zc cls d) s.heap
  na : H a = none
  os : s.os = sI.os
  ag : AllBare s.gens
section
variable {X : Cx} {B : Heap} {a : Addr} {cls : Value} {d : Option Addr} {pins : List (Addr × Obj)} {σ : L2.St} {H : Hp} {sI s : Shared}
theorem Caught.set (c : Caught X B a cls d pins σ H sI s) {h : Heap} (f : HandSPX.FlyingZ B (X.env :: X.outer) a (Zc cls d) h) (u : s.heap.UpToSlots h) : Caught X B a cls d pins σ H sI { s with heap := h } :=
  ⟨c.inv, c.nb, c.up.trans u, f, c.na, c.os, c.ag⟩
theorem Caught.here (c : Caught X B a cls d pins σ H sI s) : Inv X pins σ H s := c.inv.landed c.nb c.fly.1 c.up c.os c.ag
theorem Caught.suite (c : Caught X B a cls d pins σ H sI s) (hf : X.env.frame = some X.env.locals) : ∃ oe, Zc cls d oe ∧ (∃ vs, oe.data = .fields vs) ∧ Inv (X.suite a ((a, oe) :: (X.pn ++ pins))) [] σ H s ∧ s.heap.get? a = some oe := by
  obtain ⟨oe, vs, he, hz, hd⟩ := c.fly.there
  have away : a ∉ frs (X.env :: X.outer) := fun hm => by
    obtain ⟨_, o, e, nf⟩ := c.fly.2.2.1.mem hm
    rw [he] at e
    cases e
    exact nf _ hd
  refine ⟨oe, hz, ⟨_, hd⟩, c.here.suite he hd c.na (fun z => away ?_) (fun hm => ?_), he⟩
  · exact List.mem_filterMap.mpr ⟨X.env, List.mem_cons_self, by rw [hf, z]⟩
  · obtain ⟨e, he', q⟩ := List.mem_filterMap.mp hm
    exact away (List.mem_filterMap.mpr ⟨e, List.mem_cons_of_mem _ he', q⟩)
variable {n : Str} {i : Nat} {Wout : WX} {D : Ends} {hds : List ExceptHandler} {l : List Clause}
theorem Caught.run (hs : X.stack = X.env :: X.outer) (hf : X.env.frame = some X.env.locals) (hN : X.N.Nodup) (hi : X.N[i]? = some n) (hln : X.env.kindOf n = some .local) (tk : Takes X Wout) (k : Clauses X n hds l) :
    ∀ {s : Shared}, Caught X B a cls d pins σ H sI s → wAll X.K i Wout D l cls d σ H → wpAny (model X.prog X.w) X.A (handleBy (.ref a) X.env hds) (SP X pins D) X.xe s := by
  induction k with
  | nil =>
    intro s c w
    refine wpAny_handleBy_nil ?_
    obtain ⟨_, _, _, oe, vs, T, _, _, he, _, hd, h1, _⟩ := id c.fly
    unfold PySem.passOn
    refine wpAny_bind (wpAny_field he hd h1 ?_)
    rw [if_neg (show ¬ ((Value.ref T == Value.none) = true) from by simp)]
    have out : wpAny (model X.prog X.w) X.A (setFlight (.ref a) X.env.frame) (fun _ s4 => wpAny (model X.prog X.w) X.A (throw (.ref a) : Sem Flow) (SP X pins D) X.xe s4) X.xe s := by
      rw [hf]
      exact HandSPX.setFlight_upZ c.fly fun h4 held up4 => wpAny_throw (tk _ _ ⟨a, B, sI, pins, σ, H, cls, d, rfl, c.inv, c.nb, c.up.trans up4, .inr (.inr (by rw [hs]; exact held)), c.na, c.os, c.ag, w⟩)
    first
      | exact wpAny_bind (wpAny_pure (wpAny_bind out))
      | exact wpAny_bind out
  | @cons x cv ts b₀ suite np pos' hds2 l2 hc hsu r ih =>
    intro s c w
    obtain ⟨b, hb1, yes, no⟩ := w
    obtain ⟨oe, hz, hd, S, he⟩ := c.suite hf
    refine wpAny_handleBy_cons (codeAny_handlers_test ?_) (by intro q; cases q)
    have LT : PySem.W.Looks (model X.prog X.w) s.heap (typeOf (.ref a)) cls := fun A Q E s k q => wpAny_typeOf_ref (k _ _ he) (by rw [hz.1]; exact q)
    have LM := PySem.W.exm_one (M := model X.prog X.w) c.here.kIn LT hb1
    have test : ∀ {Q : Value → Shared → Prop} {E : Value → Shared → Prop}, Q cv s → wpAny (model X.prog X.w) (X.A.mark (some (.ref a))) (eval (.Name x np) X.env) Q E s := fun {Q E} q => by
      obtain ⟨hg, hdbg, hm | ⟨hm, hv, hnn⟩⟩ := hc
      · exact ld_glob (X := X.suite a ((a, oe) :: (X.pn ++ pins))) S hg hm q hdbg
      · exact ld_blt (X := X.suite a ((a, oe) :: (X.pn ++ pins))) S hg hm hv q hnn hdbg
    refine test (LM.here ?_)
    cases b with
    | false =>
      show wpAny _ X.A (handleBy (.ref a) X.env hds2) _ _ _
      exact ih c (no rfl)
    | true =>
      have ok := c.inv.ok
      refine codeAny_handlers_suite_as ?_
      refine HandSPX.lands_againZ c.fly fun h4 fl4 up4 => ?_
      obtain ⟨oe4, hz4, hd4, S4, _⟩ := (c.set fl4 up4).suite hf
      refine store_ok (X := X.suite a ((a, oe4) :: (X.pn ++ pins))) (v := .ref a) S4 hN hi (.inl hln) rfl (fun s5 S5 => ?_) (.inr hln)
      refine wpAny_mono ((hsu a oe4 cls d (X.pn ++ pins) hz4 hd4).run [] s5 _ H _ S5 (yes rfl a c.na)) (fun f s6 hsp => ?_) (fun _ _ z => z.elim)
      have fin : ∀ {σ6 : L2.St} {H6 : Hp} {Q : Shared → Prop}, Inv (X.suite a ((a, oe4) :: (X.pn ++ pins))) [] σ6 H6 s6 → (∀ s7, Inv X pins (σ6.set i none) H6 s7 → Q s7) →
          wpAny (model X.prog X.w) X.A (do bindName X.env n .none; unbindBehindTheSuite X.env n pos') (fun _ s7 => Q s7) X.xe s6 := fun {σ6 H6 Q} S6 hq => gone_ok (S6.unsuite ok) hN hi hln hq
      cases f with
      | ret u =>
        obtain ⟨v6, σ6, H6, S6, r6, q6⟩ := hsp
        exact fin S6 fun s7 J7 => ⟨_, _, _, J7, r6, q6⟩
      | _ =>
        obtain ⟨σ6, H6, S6, q6⟩ := hsp
        exact fin S6 fun s7 J7 => ⟨_, _, J7, q6⟩
end
end Bo

/-! ### the rules with K named, and some more statements -/
namespace Bo
open PySem L2
section
variable {X : Cx} (K : PySem.W.Frag) (h : X.K = K := by rfl)
include h
theorem k_in : OpR X (compareOp .In) (rIn K false) := h ▸ op_in_seq
theorem k_len : CallR X (.builtin "len") (fun xs H Q => ∃ p ys, xs = [.ref p] ∧ (SqL K H p ys ∨ SqT K H p ys) ∧ Q (.int ys.length) H) := h ▸ call_len_seq
theorem k_tuple : CallR X (.type "tuple") (fun xs H Q => ∃ p ys, xs = [.ref p] ∧ ((SqL K H p ys ∧ ∀ l, H l = none → Q (.ref l) (upd H l (.tup ys))) ∨ (SqT K H p ys ∧ Q (.ref p) H))) := h ▸ call_tuple_of
theorem k_list : CallR X (.type "list") (fun xs H Q => ∃ p ys, xs = [.ref p] ∧ (SqL K H p ys ∨ SqT K H p ys) ∧ ∀ l, H l = none → Q (.ref l) (upd H l (.lst ys))) := h ▸ call_list_of
theorem k_eqD (hu : X.A.units + 64 < cLine) : OpR X (compareOp .Eq) (rEqD K) := h ▸ op_eqD hu
theorem k_neD (hu : X.A.units + 64 < cLine) : OpR X (compareOp .NotEq) (rNeD K) := h ▸ op_neD hu
theorem k_slL : SlR X (rSlL K) := h ▸ sl_list
theorem k_sum (hc : X.calm = true) : CallR X (.builtin "sum") (rSum K) := h ▸ cr_sum hc
theorem k_any (hc : X.calm = true) : CallR X (.builtin "any") (rAny K) := h ▸ cr_any hc
theorem k_iList {tg l : Expr} {tl : TE} (hl : PE X l tl) : PI X tg l (iList K tl) := h ▸ pi_list hl
theorem k_iTup {tg l : Expr} {tl : TE} (hl : PE X l tl) : PI X tg l (iTup K tl) := h ▸ pi_tup hl
theorem k_gTup {es : List Expr} {k : Nat} {t : TGs} {n : Nat} {pos : Pos} (hc : X.calm = true) (hh : PGs X es t) (hn : (assignEach es X.env).length = n := by rfl) (hst : (assignEach es X.env).findIdx? (·.1) = none := by rfl) : PG X (.Tuple es k pos) (gTup K n t) := h ▸ pg_tup hc hh hn hst
end
section
variable {K : PySem.W.Frag} {n : Nat} {C : Ct K n} {σ : L2.St} {H B : Hp} {S : SS}
/-- x += e, ints -/
def vAug (i : Nat) (f : Int → Int → Int) (fe : VE) : VS := fun S => match S[i]? with
  | some (some (.dat (.int a))) => (fe S).bind fun p => (toI p.1).bind fun b => .ok (.nx (p.2.set i (some (.dat (.int (f a b))))))
  | _ => .bad
end
end Bo

/-! ### lists of a slot, lent to a call that tells a plain value, and walked -/
namespace Bo
open PySem L2
section
variable {K : PySem.W.Frag} {n : Nat} {C : Ct K n} {σ : L2.St} {H B : Hp} {S : SS}
def vConsO (i : Nat) (fr : VA) : VA := fun S => (ownD S i).bind fun _ => (fr S).bind fun q => (ownD q.2 i).bind fun ds => .ok (.list ds :: q.1, q.2)
def vCallL (m : Nat) (den : List PyData → R PyData) (fa : VA) : VE := fun S => (fa S).bind fun p => R.when (p.1.length = m) (((den p.1).noErr).bind fun z => R.when (flatD z = true) (.ok (z, p.2)))
/-! walks over a slot's list, as it stands at each turn -/
/-- a turn's item, by place -/
def itO (pair : Bool) (k : Nat) (d : PyData) : PyData := if pair = true then .tuple [.int (k : Nat), d] else d
/-- the walk J over the list of slot i, told by Rep -/
structure WalkO (C : Ct K n) (σ : L2.St) (i : Nat) (J : It) (pair : Bool) : Prop where
  go : ∀ (k : Nat) H B S ds, Rep C σ H B S → S[i]? = some (some (.own ds)) → k < ds.length → J.go k H
  stop : ∀ (k : Nat) H B S ds, Rep C σ H B S → S[i]? = some (some (.own ds)) → k = ds.length → J.stop k H
  yld : ∀ (k : Nat) H H' B S ds d x, Rep C σ H B S → S[i]? = some (some (.own ds)) → ds[k]? = some d → J.yld k H x H' → ∃ B', Rep C σ H' B' S ∧ Same B B' ∧ Da K B' x (itO pair k d) ∧ ∀ D o, H D = some o → H' D = some o
theorem walkO_list {i : Nat} {a : Addr} (hv : σ[i]? = some (some (.ref a))) : WalkO C σ i (Itl K a) false where
  go := fun k H B S ds R h hk => by
    obtain ⟨v, h1, a', vs, rfl, h2, _, h3⟩ := R.slot i _ h
    rw [hv] at h1
    cases h1
    rw [← daa_len h3] at hk
    exact ⟨vs, vs[k], SqL.of h2, List.getElem?_eq_getElem hk⟩
  stop := fun k H B S ds R h hk => by
    obtain ⟨v, h1, a', vs, rfl, h2, _, h3⟩ := R.slot i _ h
    rw [hv] at h1
    cases h1
    exact ⟨vs, SqL.of h2, by rw [daa_len h3]; omega⟩
  yld := fun k H H' B S ds d x R h hk y => by
    obtain ⟨v, h1, a', vs, rfl, h2, _, h3⟩ := R.slot i _ h
    rw [hv] at h1
    cases h1
    obtain ⟨rfl, y⟩ := y
    obtain ⟨d', q1, q2⟩ := daa_at h3 (y vs (SqL.of h2))
    rw [hk] at q1
    cases q1
    exact ⟨B, R, Same.refl _, q2, fun _ _ z => z⟩
/-- what is walked: a slot's list -/
def SIO (C : Ct K n) (w : TI) (i : Nat) (pair : Bool) : Prop := ∀ (σ : L2.St) (H B : Hp) (S : SS) (ds : List PyData) (Rr : It → Hp → Prop), Rep C σ H B S → S[i]? = some (some (.own ds)) →
  (∀ J, (∀ C' : Ct K n, ∀ σ', σ'[i]? = σ[i]? → WalkO C' σ' i J pair) → Rr J H) → w σ H Rr
theorem io_list {i : Nat} : SIO C (iList K (tVar i)) i false := by
  intro σ H B S ds Rr R e h
  obtain ⟨v, h1, a, vs, rfl, h2, _, h3⟩ := R.slot i _ e
  exact ⟨_, h1, a, rfl, ⟨vs, SqL.of h2⟩, h _ fun C' σ' e' => walkO_list (e'.trans h1)⟩
/-- turns from place k on -/
def lcO (pair : Bool) (i : Nat) (fg : PyData → SS → R SS) (ft : VT) (fe : VE) (vs : List Nat) : Nat → Nat → SS → R (List PyData × SS)
  | 0, _, _ => .bad
  | m + 1, k, S => (ownD S i).bind fun ds => match ds[k]? with
    | none => R.when (k = ds.length) (.ok ([], S))
    | some d => (fg (itO pair k d) S).bind fun S1 => (ft S1).bind fun p => if p.1 = true then (fe p.2).bind fun q => (lcO pair i fg ft fe vs m (k + 1) (wipeS q.2 vs)).bind fun r => .ok (q.1 :: r.1, r.2) else lcO pair i fg ft fe vs m (k + 1) (wipeS p.2 vs)
def vLcO (pair : Bool) (i : Nat) (vs : List Nat) (fg : PyData → SS → R SS) (ft : VT) (fe : VE) : VF := fun S => (ownD S i).bind fun _ => R.when (okS vs S = true) ((lcO pair i fg ft fe vs 100000 0 (wipeS S vs)).bind fun r => .ok (r.1, backS S r.2 vs))
theorem f_lcO {wi : TI} {g : TG} {tt : TT} {te : TE} {vs ts : List Nat} {pair : Bool} {i : Nat} {fg : PyData → SS → R SS} {ft : VT} {fe : VE} (hv : vs.all (fun v => decide (n ≤ v)) = true) (hts : ts.all (fun t => decide (t ∈ vs)) = true) (hiv : decide (i ∈ vs) = false) (hi : SIO C wi i pair)
    (hg : ∀ C' : Ct K n, SG C' g fg ts) (ht : ∀ C' : Ct K n, ST C' tt ft) (he : ∀ C' : Ct K n, SE C' te fe) : SEF C (tLc wi g tt te vs) (vLcO pair i vs fg ft fe) := by
  intro σ H B S Q R h
  have hv' : ∀ v ∈ vs, n ≤ v := fun v m => of_decide_eq_true (List.all_eq_true.mp hv v m)
  have hts' : ∀ t ∈ ts, t ∈ vs := fun t m => of_decide_eq_true (List.all_eq_true.mp hts t m)
  have hiv' : i ∉ vs := of_decide_eq_false hiv
  obtain ⟨ds0, a0, vs0, s1, s2, s3, s4, h⟩ := own_of R (post_bind.mp h)
  refine hi σ H B S ds0 _ R s1 fun J W => ?_
  obtain ⟨ok, h⟩ := post_when.mp h
  replace h := post_bind.mp h
  intro D hD
  obtain ⟨h0, hB1, nb⟩ := R.new hD
  have hB0 : C.B0 D = none := by
    cases q : C.B0 D with
    | none => rfl
    | some o =>
      rw [R.base.b0 D o q] at hB1
      cases hB1
  have wi_ : (wipe σ vs)[i]? = σ[i]? := wipe_out hiv'
  refine ⟨fun k m H' => k + m = 100000 ∧ ∃ B' S' acc accd, Rep C (wipe σ vs) H' B' S' ∧ Same B B' ∧ H' D = some (.lst acc) ∧ Loose C (wipe σ vs) S' B' D ∧ DaAll K B' acc accd ∧ accd.length ≤ k ∧
    Post C (lcO pair i fg ft fe vs m k S') (fun r => ∀ a us H'' B'', Rep C σ H'' B'' (backS S r.2 vs) → Same B B'' → H'' a = some (.lst us) → Loose C σ (backS S r.2 vs) B'' a → DaAll K B'' us (accd ++ r.1) → Q (.ref a) H''), ⟨100000, ?_⟩, ?_⟩
  · obtain ⟨R2, L2⟩ := (R.wiped hv').newLoose (o := .lst []) hD
    exact ⟨by omega, B, wipeS S vs, [], [], R2, Same.refl _, upd_same, L2, .nil, Nat.le_refl _, h.mono fun r q => q⟩
  rintro k m H' ⟨hkm, B', S', acc, accd, R', e', hA, L, dA, lA, q⟩
  cases m with
  | zero => exact q.elim
  | succ m =>
    obtain ⟨ds, a, us, t1, t2, t3, t4, q⟩ := own_of R' (post_bind.mp q)
    split at q
    · rename_i hk
      obtain ⟨ek, q⟩ := post_when.mp q
      refine .inl ⟨(W C (wipe σ vs) wi_).stop k H' B' S' ds R' t1 ek, ?_⟩
      have Rb := R.back R' e' ok hv'
      refine q D acc H' B' Rb e' hA ⟨L.b, h0, fun j u z m e => ?_⟩ (by rw [List.append_nil]; exact dA)
      rcases backS_some z with ⟨z1, z2⟩ | ⟨z1, z2⟩
      · rw [okS_at ok z1 z2] at m
        cases m
      · exact L.no j u z2 m (by rw [wipe_out z1]; exact e)
    · rename_i d hk
      have hlt := (List.getElem?_eq_some_iff.mp hk).1
      refine .inr ⟨(W C (wipe σ vs) wi_).go k H' B' S' ds R' t1 hlt, _, fun H2 z => ⟨m, Nat.lt_succ_self m, by omega, z⟩, ?_⟩
      intro x H2 y
      have Rh := R'.hold hA L
      obtain ⟨B2, R2, e2, dx, _⟩ := (W (C.hold D acc) (wipe σ vs) wi_).yld k H' H2 B' S' ds d x Rh t1 hk y
      replace q := post_bind.mp q
      refine hg (C.hold D acc) (wipe σ vs) H2 B2 S' x _ _ R2 dx (hold_post h0 (q.mono fun S3 q σ3 R3 l3 k3 => ?_))
      have hw : wipe σ3 vs = wipe σ vs := by
        have hw1 : wipe σ3 vs = wipe (wipe σ vs) vs := wipe_ext l3 fun j hj => k3 j fun z => hj (hts' j z)
        have hw2 : wipe (wipe σ vs) vs = wipe σ vs := wipe_ext (wipe_length _ _) fun j hj => wipe_out hj
        rw [hw1, hw2]
      refine ⟨hw, ?_⟩
      replace q := post_bind.mp q
      have next : ∀ {H4 B4 : Hp} {S4 : SS}, Rep (C.hold D acc) σ3 H4 B4 S4 → Rep C (wipe σ vs) H4 B4 (wipeS S4 vs) ∧ H4 D = some (.lst acc) ∧ Loose C (wipe σ vs) (wipeS S4 vs) B4 D := fun R4 => by
        obtain ⟨R5, hD5, L5⟩ := R4.unhold h0 hB0 nb
        have R6 := R5.wiped hv'
        rw [hw] at R6
        refine ⟨R6, hD5, L5.b, h0, fun j u z m e => ?_⟩
        obtain ⟨z1, z2⟩ := wipeS_some z
        refine L5.no j u z2 m ?_
        rw [← hw, wipe_out z1] at e
        exact e
      refine ht (C.hold D acc) σ3 H2 B2 S3 _ R3 (hold_post h0 (q.mono fun p q H3 B3 R4 e3 => ?_))
      obtain ⟨c, S4⟩ := p
      cases c with
      | false =>
        obtain ⟨R6, hD6, L6⟩ := next R4
        have e13 := e2.trans e3
        exact ⟨B3, wipeS S4 vs, acc, accd, R6, e'.trans e13, hD6, L6, daa_mono e13 dA, by omega, q⟩
      | true =>
        replace q : Post C ((fe S4).bind _) _ := q
        replace q := post_bind.mp q
        refine he (C.hold D acc) σ3 H3 B3 S4 _ R4 (hold_post h0 (q.mono fun r q v H5 B5 R5 e5 d5 => ?_))
        replace q := post_bind.mp q
        obtain ⟨R6, hD6, L6⟩ := next R5
        have e15 := e2.trans (e3.trans e5)
        refine ⟨acc, hD6, Nat.lt_of_le_of_lt (Nat.le_of_eq (daa_len dA)) (Nat.lt_of_lt_of_le (show accd.length < 100001 by omega) (by decide)), ?_⟩
        have R8 : Rep C (wipe σ vs) (upd H5 D (.lst (acc ++ [v]))) B5 (wipeS r.2 vs) := by
          refine R6.grow ⟨fun a o na z => ?_, R6.base.b0, fun a o z => ?_, R6.base.fr⟩ (Same.refl _) fun a o z1 z2 ⟨j, u, z3, z4, z5⟩ => ⟨?_, z2⟩
          · rw [upd_ne (ne_of_none z h0)]
            exact R6.base.keep a o na z
          · rw [upd_ne (ne_of_none z L6.b)]
            exact R6.base.bh a o z
          · rw [upd_ne]
            · exact z1
            · rintro rfl
              exact L6.no j u z3 z4 z5
        refine ⟨B5, wipeS r.2 vs, acc ++ [v], accd ++ [r.1], R8, e'.trans e15, upd_same, L6, daa_app (daa_mono e15 dA) (.cons d5 .nil), ?_, ?_⟩
        · rw [List.length_append, List.length_singleton]
          omega
        · refine q.mono fun w q a us H'' B'' Ra eb hA' L' d' => q a us H'' B'' Ra eb hA' L' ?_
          rw [List.append_assoc] at d'
          exact d'
end
end Bo

/-! ### the laws' own draws: what their defs are worth -/
namespace Bo
open PySem L2
def body_l_tape : VS :=
    (vSeq (vOwn 1 (vLstF vNil))
    (vSeq (vFor (vScr 0) (aName 2) (vSeq (vAsg (vOp (gIC cMulS fun i j => i * j) (vC (.int 2)) (vCall gInt (vCons (vVar 2) vNil))) (aName 3))
    (vSeq (vIfS (vTst (vOp (gIB fun i j => decide (i < j)) (vVar 3) (vC (.int 0)))) (vAsg (vOp (gI fun i j => i - j) (vUn gNeg (vC (.int 1))) (vVar 3)) (aName 3)) vNext)
    (vIfS (vTst (vOp (gIB fun i j => decide (j ≤ i)) (vVar 3) (vOp (gIC cPow fun i j => i ^ j.toNat) (vC (.int 10)) (vC (.int 18))))) (vFor (vRange1 (vCons (vC (.int 40)) vNil)) (aName 4) (vIfS (vTst (vOp (gIB fun i j => decide (j < i)) (vVar 3) (vC (.int 0)))) (vSeq (vDrop (vApp 1 (vOp (gIC cMod Int.fmod) (vCall gInt (vCons (vVar 3) vNil)) (vC (.int 1000)))))
    (vAsg (vOp (gIC cFdiv Int.fdiv) (vVar 3) (vC (.int 1000))) (aName 3))) vNext)) (vFor (vRange1 (vCons (vC (.int 3)) vNil)) (aName 4) (vSeq (vAsg (vOp (gIC cMod Int.fmod) (vCall gInt (vCons (vOp (gI fun i j => i + j) (vOp (gI fun i j => i + j) (vOp (gIC cMulS fun i j => i * j) (vVar 3) (vC (.int 48271))) (vOp (gIC cMulS fun i j => i * j) (vVar 4) (vC (.int 40503)))) (vC (.int 11))) vNil)) (vC (.int 2147483629))) (aName 5))
    (vDrop (vApp 1 (vOp (gIC cMod Int.fmod) (vCall gInt (vCons (vOp (gI fun i j => i + j) (vOp (gIC cMulS fun i j => i * j) (vVar 5) (vC (.int 69621))) (vOp (gIC cFdiv Int.fdiv) (vVar 5) (vC (.int 65536)))) vNil)) (vC (.int 2147483629)))))))))))
    (vFrz 1 (vRet (vVar 1)))))
def den_l_tape := denS 6 body_l_tape
def body_l_draw : VS :=
    (vSeq (vIfS (vTst (vOp (gIB fun i j => decide (i < j)) (vVar 1) (vCall gLen (vCons (vVar 0) vNil)))) (vRet (vOp (gIC cMod Int.fmod) (vCall gInt (vCons (vOp gIxL (vVar 0) (vVar 1)) vNil)) (vVar 2))) vNext)
    (vSeq (vAsg (vC (.int 1)) (aName 3))
    (vSeq (vIfS (vTst (vOp (gIB fun i j => decide (j < i)) (vCall gLen (vCons (vVar 0) vNil)) (vC (.int 0)))) (vAsg (vOp gIxL (vVar 0) (vOp (gIC cMod Int.fmod) (vCall gInt (vCons (vVar 1) vNil)) (vCall gLen (vCons (vVar 0) vNil)))) (aName 3)) vNext)
    (vRet (vOp (gIC cMod Int.fmod) (vOp (gIC cMod Int.fmod) (vCall gInt (vCons (vOp (gI fun i j => i + j) (vOp (gIC cMulS fun i j => i * j) (vOp (gIC cMul fun i j => i * j) (vOp (gI fun i j => i + j) (vVar 3) (vVar 1)) (vOp (gI fun i j => i + j) (vVar 1) (vC (.int 3)))) (vC (.int 7919))) (vOp (gIC cMulS fun i j => i * j) (vVar 1) (vC (.int 104729)))) vNil)) (vC (.int 65521))) (vVar 2))))))
def den_l_draw := denP 4 body_l_draw
def body_l_take : VS :=
    (vSeq (vSetI 0 (vC (.int 1)) (vOp (gI fun i j => i + j) (vIxO 0 (vC (.int 1))) (vC (.int 1))))
    (vRet (vCallP 3 den_l_draw (vCons (vIxO 0 (vC (.int 0))) (vCons (vIxO 0 (vC (.int 1))) (vCons (vVar 1) vNil))))))
def den_l_take := denB 2 body_l_take
def body_l_ends : VS :=
    (vSeq (vOwn 2 (vLstF vNil))
    (vSeq (vAsg (vCallB 1 den_l_take 0 (vCons (vVar 1) vNil)) (aName 3))
    (vSeq (vFor (vRange1 (vCons (vVar 1) vNil)) (aName 4) (vIfS (tOrF (vTst (vOp gEq (vVar 4) (vVar 3))) (vTst (vOp gEq (vCallB 1 den_l_take 0 (vCons (vC (.int 3)) vNil)) (vC (.int 0))))) (vDrop (vApp 2 (vTup (vCons (vVar 4) (vCons (vOp gIxL (vLst (vCons (vC (.int 1)) (vCons (vC (.int 1)) (vCons (vC (.int 2)) (vCons (vC (.int 3)) (vCons (vC (.int 10)) (vCons (vC (.int 1000)) vNil))))))) (vCallB 1 den_l_take 0 (vCons (vC (.int 6)) vNil))) vNil))))) vNext))
    (vRet (vTupleO 2)))))
def den_l_ends := denB 5 body_l_ends
def body_l_choices : VS :=
    (vSeq (vOwn 3 (vLstF vNil))
    (vSeq (vFor (vRange1 (vCons (vOp (gI fun i j => i + j) (vC (.int 1)) (vCallB 1 den_l_take 0 (vCons (vVar 2) vNil))) vNil)) (aName 4) (vDrop (vApp 3 (vTup (vCons (vOp gIxL (vLst (vCons (vC (.int 0)) (vCons (vC (.int 1)) (vCons (vC (.int 2)) (vCons (vC (.int 5)) (vCons (vC (.int 1000)) vNil)))))) (vCallB 1 den_l_take 0 (vCons (vC (.int 5)) vNil))) (vCons (vCallB 1 den_l_ends 0 (vCons (vVar 1) vNil)) vNil))))))
    (vRet (vTupleO 3))))
def den_l_choices := denB 5 body_l_choices
def body_l_system : VS :=
    (vSeq (vAsg (vOp (gI fun i j => i + j) (vC (.int 1)) (vCallB 1 den_l_take 0 (vCons (vVar 1) vNil))) (aName 2))
    (vRet (vCall gTuple (vCons (vFr (vLc [3] (vRange1 (vCons (vVar 2) vNil)) (aName 3) vYes (vCallB 2 den_l_choices 0 (vCons (vVar 2) (vCons (vC (.int 3)) vNil))))) vNil))))
def den_l_system := denB 4 body_l_system
end Bo

/-! ### reasoning about what code is worth -/
namespace Bo
open PySem L2
section
variable {α β : Type} {x : R α} {f : α → R β} {k : β → Prop}
theorem okTo_bind : (x.bind f).okTo k ↔ x.okTo fun a => (f a).okTo k := by cases x <;> exact Iff.rfl
theorem okTo_ok {a : β} : (R.ok a).okTo k ↔ k a := Iff.rfl
theorem okTo_noErr {x : R β} : x.noErr.okTo k ↔ x.okTo k := by cases x <;> exact Iff.rfl
theorem okTo_when {c : Prop} [Decidable c] {x : R β} : (R.when c x).okTo k ↔ c ∧ x.okTo k := by
  by_cases h : c
  · rw [R.when_pos h]
    exact ⟨fun q => ⟨h, q⟩, fun q => q.2⟩
  · rw [R.when_neg h]
    exact ⟨fun q => q.elim, fun q => (h q.1).elim⟩
theorem okTo_eq {x : R α} {a : α} {k : α → Prop} (e : x = .ok a) (h : k a) : x.okTo k := by rw [e]; exact h
end
/-- a loop by what holds between its turns -/
theorem loop_ok {fg : PyData → SS → R SS} {fb : VS} {ds : List PyData} {k : FL → Prop} (I : Nat → SS → Prop)
    (step : ∀ i d S, ds[i]? = some d → I i S → (fg d S).okTo fun S1 => (fb S1).okTo fun fl => match fl with
      | .nx S2 => I (i + 1) S2
      | .ct S2 => I (i + 1) S2
      | .bk S2 => k (.nx S2)
      | .rt d S2 => k (.rt d S2)) (done : ∀ S, I ds.length S → k (.nx S)) {S : SS} (h0 : I 0 S) : (loopF fg fb ds S).okTo k := by
  have go : ∀ (es : List PyData) (i : Nat) (S : SS), ds.drop i = es → i + es.length = ds.length → I i S → (loopF fg fb es S).okTo k := by
    intro es
    induction es with
    | nil =>
      intro i S _ hl h
      have e : i = ds.length := by simpa using hl
      rw [e] at h
      exact done S h
    | cons d es ih =>
      intro i S hd hl h
      have hi : ds[i]? = some d := by
        have := congrArg (fun l => l[0]?) hd
        simpa using this
      have hd2 : ds.drop (i + 1) = es := by
        have := congrArg List.tail hd
        simpa using this
      have hl2 : i + 1 + es.length = ds.length := by
        rw [List.length_cons] at hl
        omega
      unfold loopF
      rw [okTo_bind]
      refine (step i d S hi h).mono fun S1 h1 => ?_
      rw [okTo_bind]
      refine h1.mono fun fl h2 => ?_
      cases fl with
      | nx S2 => exact ih (i + 1) S2 hd2 hl2 h2
      | ct S2 => exact ih (i + 1) S2 hd2 hl2 h2
      | bk S2 => exact h2
      | rt d S2 => exact h2
  exact go ds 0 S rfl (by omega) h0
/-- a comprehension by what holds between its turns -/
theorem lc_ok {fg : PyData → SS → R SS} {ft : VT} {fe : VE} {vs : List Nat} {ds : List PyData} {k : List PyData × SS → Prop} (I : Nat → List PyData → SS → Prop)
    (step : ∀ i d acc S, ds[i]? = some d → I i acc S → (fg d S).okTo fun S1 => (ft S1).okTo fun p => if p.1 = true then (fe p.2).okTo fun q => I (i + 1) (acc ++ [q.1]) (wipeS q.2 vs) else I (i + 1) acc (wipeS p.2 vs))
    (done : ∀ acc S, I ds.length acc S → k (acc, S)) {S : SS} (h0 : I 0 [] S) : (lcF fg ft fe vs ds S).okTo k := by
  have go : ∀ (es : List PyData) (i : Nat) (acc : List PyData) (S : SS), ds.drop i = es → i + es.length = ds.length → I i acc S → (lcF fg ft fe vs es S).okTo fun r => k (acc ++ r.1, r.2) := by
    intro es
    induction es with
    | nil =>
      intro i acc S _ hl h
      have e : i = ds.length := by simpa using hl
      rw [e] at h
      show k (acc ++ [], S)
      rw [List.append_nil]
      exact done acc S h
    | cons d es ih =>
      intro i acc S hd hl h
      have hi : ds[i]? = some d := by
        have := congrArg (fun l => l[0]?) hd
        simpa using this
      have hd2 : ds.drop (i + 1) = es := by
        have := congrArg List.tail hd
        simpa using this
      have hl2 : i + 1 + es.length = ds.length := by
        rw [List.length_cons] at hl
        omega
      unfold lcF
      rw [okTo_bind]
      refine (step i d acc S hi h).mono fun S1 h1 => ?_
      rw [okTo_bind]
      refine h1.mono fun p h2 => ?_
      by_cases c : p.1 = true
      · rw [if_pos c] at h2 ⊢
        rw [okTo_bind]
        refine h2.mono fun q h3 => ?_
        rw [okTo_bind]
        refine (ih (i + 1) (acc ++ [q.1]) _ hd2 hl2 h3).mono fun r h4 => ?_
        rw [List.append_assoc] at h4
        exact h4
      · rw [if_neg c] at h2 ⊢
        exact ih (i + 1) acc _ hd2 hl2 h2
  exact (go ds 0 [] S rfl (by omega) h0).mono fun r h => h
/-! ### the draws -/
def dL (ns : List Int) : PyData := .list (ns.map PyData.int)
def TapeOk (ts : List Int) : Prop := (∀ x ∈ ts, 0 ≤ x ∧ x < 2147483629) ∧ ts.length ≤ 3000
theorem tape_app {ts : List Int} {z : Int} (h : ∀ x ∈ ts, 0 ≤ x ∧ x < 2147483629) (h0 : 0 ≤ z) (h1 : z < 2147483629) : ∀ x ∈ ts ++ [z], 0 ≤ x ∧ x < 2147483629 := by
  intro x hx
  rcases List.mem_append.mp hx with q | q
  · exact h x q
  · rw [List.mem_singleton.mp q]
    exact ⟨h0, h1⟩
theorem rangeD_get {lo : Int} {m i : Nat} {d : PyData} (h : (rangeD lo m)[i]? = some d) : i < m ∧ d = .int (lo + (i : Nat)) := by
  unfold rangeD at h
  rw [List.getElem?_map] at h
  obtain ⟨j, h1, rfl⟩ := Option.map_eq_some_iff.mp h
  obtain ⟨h2, h3⟩ := List.getElem?_eq_some_iff.mp h1
  rw [List.length_range] at h2
  rw [List.getElem_range] at h3
  exact ⟨h2, by rw [← h3]⟩
theorem rangeD_len {lo : Int} {m : Nat} : (rangeD lo m).length = m := by simp [rangeD]
local macro_rules | `(tactic| walk_at "ev") => `(tactic| simp only [okTo_bind, okTo_ok, okTo_noErr, okTo_when, R.bind_ok, vSeq, seqF, vAsg, vVar, vC, vOp, vUn, vCall, vCons, vNil, vTup, vLst, vFr, vLstF, vTst, toB, toI, gI, gIC, gIB, gNeg, gInt, gLen, gEq, gNe, eqF, vAnd, vOr, vNot, tNotF, tAndF, tOrF, vIfS, vIf, vNext, vRet, vRetN, vDrop, vOwn, vFrz, frzS, aName, vFor, vScr, vRange1, vApp, ownD, vIxO, vSetI, gIxL, gIxT, vInO, vCallP, vCallB, vTupleO, vListO, vLenO, List.getElem?_cons_zero, List.getElem?_cons_succ, List.set_cons_zero, List.set_cons_succ, List.length_cons, List.length_nil, startS, List.map_cons, List.map_nil, List.replicate_succ, List.replicate_zero, List.cons_append, List.nil_append, denP, denB, denS, endP, endB, Nat.sub_self, Nat.reduceSub])
local macro_rules | `(tactic| walk_at "ev0") => `(tactic| simp only [okTo_bind, okTo_ok, okTo_noErr, okTo_when, R.bind_ok, seqF, vAsg, vVar, vC, vOp, vUn, vCall, vCons, vNil, vTup, vLst, vFr, vLstF, vTst, toB, toI, gI, gIC, gIB, gNeg, gInt, gLen, gEq, gNe, eqF, vAnd, vOr, vNot, tNotF, tAndF, tOrF, vIfS, vIf, vNext, vRet, vRetN, vDrop, vOwn, vFrz, frzS, aName, vFor, vScr, vRange1, vApp, ownD, vIxO, vSetI, gIxL, gIxT, vInO, vCallP, vCallB, vTupleO, vListO, vLenO, List.getElem?_cons_zero, List.getElem?_cons_succ, List.set_cons_zero, List.set_cons_succ, List.length_cons, List.length_nil, startS, List.map_cons, List.map_nil, List.replicate_succ, List.replicate_zero, List.cons_append, List.nil_append, denP, denB, denS, endP, endB, Nat.sub_self, Nat.reduceSub])
theorem cMulS_l {i j : Int} (h : -(2 ^ 64) < i ∧ i < 2 ^ 64) : cMulS i j = true := decide_eq_true (.inl h)
theorem cMulS_r {i j : Int} (h : -(2 ^ 64) < j ∧ j < 2 ^ 64) : cMulS i j = true := decide_eq_true (.inr h)
theorem cMod_ok {i j : Int} (h : j ≠ 0) : cMod i j = true := decide_eq_true h
theorem pow_small {n k : Nat} (h : n < 2 ^ 64) (hk : 64 ≤ k) : n < 2 ^ k := Nat.lt_of_lt_of_le h (Nat.pow_le_pow_right (by decide) hk)
theorem cFdiv_ok {i j : Int} (h : j ≠ 0) (h2 : j.natAbs < 2 ^ 64) : cFdiv i j = true := decide_eq_true ⟨h, pow_small h2 (by decide)⟩
theorem cMul_ok {i j : Int} (h : i.natAbs < 2 ^ 64) (h2 : j.natAbs < 2 ^ 64) : cMul i j = true := decide_eq_true ⟨pow_small h (by decide), pow_small h2 (by decide)⟩
theorem modN {i m : Int} (h : 0 < m) : 0 ≤ i.fmod m ∧ i.fmod m < m := ⟨Int.fmod_nonneg_of_pos i h, Int.fmod_lt_of_pos i h⟩
/-- one statement, then the rest -/
theorem seq_ok {fa fb : VS} {S : SS} {k : FL → Prop} (h : (fa S).okTo fun fl => match fl with
    | .nx S1 => (fb S1).okTo k
    | f => k f) : (vSeq fa fb S).okTo k := by
  unfold vSeq
  rw [okTo_bind]
  refine h.mono fun fl q => ?_
  cases fl <;> exact q
theorem ite_ok {c : Prop} [Decidable c] {α : Type} {x y : R α} {k : α → Prop} (h1 : c → x.okTo k) (h2 : ¬ c → y.okTo k) : (if c then x else y).okTo k := by
  by_cases h : c
  · rw [if_pos h]
    exact h1 h
  · rw [if_neg h]
    exact h2 h
theorem tape_ok {ns : List Int} {k : PyData → Prop} (hn : ns.length ≤ 63) (h : ∀ ts, TapeOk ts → k (dL ts)) : (den_l_tape ns).okTo k := by
  unfold den_l_tape body_l_tape
  walk_at "ev"
  refine ⟨by decide, loop_ok (fun i S => ∃ (ts : List Int) (a b c d : Option SV), S = [some (.scr ns), some (.own (ts.map PyData.int)), a, b, c, d] ∧ (∀ x ∈ ts, 0 ≤ x ∧ x < 2147483629) ∧ ts.length ≤ 40 * i) ?_ ?_ ⟨[], _, _, _, _, rfl, by simp, by simp⟩⟩
  · rintro i d S hi ⟨ts, a, b, c, e, rfl, hb, hl⟩
    rw [List.getElem?_map] at hi
    obtain ⟨z, hz, rfl⟩ := Option.map_eq_some_iff.mp hi
    have hi63 := (List.getElem?_eq_some_iff.mp hz).1
    walk_at "ev0"
    refine seq_ok ?_
    walk_at "ev0"
    refine ⟨cMulS_l (by decide), seq_ok ?_⟩
    refine R.okTo.mono (k := fun fl => ∃ m : Int, 0 ≤ m ∧ fl = .nx [some (.scr ns), some (.own (ts.map PyData.int)), some (.dat (.int z)), some (.dat (.int m)), c, e]) ?_ ?_
    · walk_at "ev0"
      refine ite_ok (fun q => ?_) (fun q => ?_)
      · have := of_decide_eq_true q
        exact ⟨_, by omega, rfl⟩
      · have : ¬ (2 * z < 0) := fun w => q (decide_eq_true w)
        exact ⟨_, by omega, rfl⟩
    · rintro fl ⟨m, hm, rfl⟩
      walk_at "ev"
      refine ⟨by decide, ite_ok (fun _ => ?_) (fun _ => ?_)⟩
      · walk_at "ev0"
        refine ⟨by decide, ?_⟩
        refine loop_ok (fun j S => ∃ (us : List Int) (m : Int) (c : Option SV), S = [some (.scr ns), some (.own (us.map PyData.int)), some (.dat (.int z)), some (.dat (.int m)), c, e] ∧ 0 ≤ m ∧ (∀ x ∈ us, 0 ≤ x ∧ x < 2147483629) ∧ us.length ≤ 40 * i + j) ?_ ?_ ⟨ts, m, _, rfl, hm, hb, hl⟩
        · rintro j d S hj ⟨us, m, c, rfl, hm, hu, hul⟩
          obtain ⟨hj1, rfl⟩ := rangeD_get hj
          have hj2 : j < 40 := hj1
          walk_at "ev"
          refine ite_ok (fun _ => ?_) (fun _ => ?_)
          · walk_at "ev"
            refine ⟨cMod_ok (by decide), by rw [List.length_map]; omega, cFdiv_ok (by decide) (by decide), us ++ [m.fmod 1000], m.fdiv 1000, _, by rw [List.map_append]; rfl, Int.fdiv_nonneg hm (by decide), tape_app hu (modN (by decide)).1 (by have := (modN (i := m) (m := 1000) (by decide)).2; omega), ?_⟩
            rw [List.length_append, List.length_singleton]
            omega
          · exact ⟨us, m, _, rfl, hm, hu, by omega⟩
        · rintro S ⟨us, m, c, rfl, hm, hu, hul⟩
          have : (rangeD 0 (Int.toNat 40)).length = 40 := rangeD_len
          rw [this] at hul
          exact ⟨us, _, _, _, _, rfl, hu, by omega⟩
      · walk_at "ev0"
        refine ⟨by decide, ?_⟩
        refine loop_ok (fun j S => ∃ (us : List Int) (c e : Option SV), S = [some (.scr ns), some (.own (us.map PyData.int)), some (.dat (.int z)), some (.dat (.int m)), c, e] ∧ (∀ x ∈ us, 0 ≤ x ∧ x < 2147483629) ∧ us.length ≤ 40 * i + j) ?_ ?_ ⟨ts, _, _, rfl, hb, hl⟩
        · rintro j d S hj ⟨us, c, e, rfl, hu, hul⟩
          obtain ⟨hj1, rfl⟩ := rangeD_get hj
          have hj2 : j < 3 := hj1
          walk_at "ev"
          refine ⟨cMulS_r (by decide), cMulS_r (by decide), cMod_ok (by decide), cMulS_r (by decide), cFdiv_ok (by decide) (by decide), cMod_ok (by decide), by rw [List.length_map]; omega, us ++ [_], _, _, by rw [List.map_append]; rfl, tape_app hu (modN (by decide)).1 (modN (by decide)).2, ?_⟩
          rw [List.length_append, List.length_singleton]
          omega
        · rintro S ⟨us, c, e, rfl, hu, hul⟩
          have : (rangeD 0 (Int.toNat 3)).length = 3 := rangeD_len
          rw [this] at hul
          exact ⟨us, _, _, _, _, rfl, hu, by omega⟩
  · rintro S ⟨ts, a, b, c, d, rfl, hb, hl⟩
    walk_at "ev"
    rw [List.length_map] at hl
    exact h ts ⟨hb, by omega⟩
theorem ixD_nat {ds : List PyData} {j : Nat} {d : PyData} (h : ds[j]? = some d) : ixD ds (j : Int) = .ok d := by
  unfold ixD
  rw [atI_nat h]
theorem ixD_int {ts : List Int} {i : Int} (h0 : 0 ≤ i) (h1 : i < (ts.length : Int)) : ∃ z ∈ ts, ixD (ts.map PyData.int) i = .ok (.int z) := by
  obtain ⟨j, rfl⟩ : ∃ j : Nat, i = (j : Int) := ⟨i.toNat, by omega⟩
  have hj : j < ts.length := by omega
  exact ⟨ts[j], List.getElem_mem hj, ixD_nat (by rw [List.getElem?_map, List.getElem?_eq_getElem hj]; rfl)⟩
/-- a draw below m -/
theorem draw_ok {ts : List Int} {at_ m : Int} {k : PyData → Prop} (ok : TapeOk ts) (h0 : 0 ≤ at_) (h1 : at_ ≤ 2 ^ 41) (hm : 0 < m) (h : ∀ r : Int, 0 ≤ r → r < m → k (.int r)) : (den_l_draw [dL ts, .int at_, .int m]).okTo k := by
  obtain ⟨hb, hl⟩ := ok
  unfold den_l_draw body_l_draw dL
  walk_at "ev0"
  refine seq_ok ?_
  walk_at "ev0"
  refine ite_ok (fun c => ?_) (fun c => ?_)
  · have c' := of_decide_eq_true c
    rw [List.length_map] at c'
    obtain ⟨z, _, e⟩ := ixD_int h0 c'
    rw [e]
    walk_at "ev"
    exact ⟨cMod_ok (by omega), h _ (modN hm).1 (modN hm).2⟩
  · walk_at "ev0"
    refine seq_ok ?_
    walk_at "ev0"
    refine seq_ok ?_
    refine R.okTo.mono (k := fun fl => ∃ n : Int, 0 ≤ n ∧ n < 2147483629 ∧ fl = .nx [some (.dat (.list (ts.map PyData.int))), some (.dat (.int at_)), some (.dat (.int m)), some (.dat (.int n))]) ?_ ?_
    · walk_at "ev"
      refine ite_ok (fun q => ?_) (fun q => ⟨1, by decide, by decide, rfl⟩)
      have q' := of_decide_eq_true q
      obtain ⟨z, hz, e⟩ := ixD_int (ts := ts) (i := at_.fmod ((ts.map PyData.int).length : Int)) (modN q').1 (by have := (modN (i := at_) q').2; rw [List.length_map] at this ⊢; exact this)
      walk_at "ev"
      refine ⟨cMod_ok (by omega), ?_⟩
      rw [e]
      exact ⟨z, (hb z hz).1, (hb z hz).2, rfl⟩
    · rintro fl ⟨n, n0, n1, rfl⟩
      walk_at "ev"
      exact ⟨cMul_ok (by omega) (by omega), cMulS_r (by decide), cMulS_r (by decide), cMod_ok (by decide), cMod_ok (by omega), h _ (modN hm).1 (modN hm).2⟩
/-- the law's state: the tape and the place -/
def Box (ts : List Int) (n : Int) (bs : List PyData) : Prop := TapeOk ts ∧ ∃ i : Int, 0 ≤ i ∧ i ≤ n ∧ bs = [dL ts, .int i]
theorem take_ok {ts : List Int} {n m : Int} {bs : List PyData} {k : PyData × List PyData → Prop} (b : Box ts n bs) (hn : n ≤ 2 ^ 40) (hm : 0 < m) (h : ∀ (r : Int) bs', 0 ≤ r → r < m → Box ts (n + 1) bs' → k (.int r, bs')) : (den_l_take bs [.int m]).okTo k := by
  obtain ⟨ok, i, i0, i1, rfl⟩ := b
  unfold den_l_take body_l_take
  walk_at "ev"
  have e1 : ixD [dL ts, .int i] 1 = .ok (.int i) := rfl
  have e2 : ixN ([dL ts, PyData.int i].length) 1 = some 1 := rfl
  rw [e1]
  walk_at "ev"
  have e2 : ixN (0 + 1 + 1) 1 = some 1 := rfl
  rw [e2]
  walk_at "ev"
  have e3 : ixD [dL ts, .int (i + 1)] 0 = .ok (dL ts) := rfl
  have e4 : ixD [dL ts, .int (i + 1)] 1 = .ok (.int (i + 1)) := rfl
  rw [e3]
  walk_at "ev"
  rw [e4]
  walk_at "ev"
  refine ⟨trivial, draw_ok ok (by omega) (by omega) hm fun r r0 r1 => ?_⟩
  exact h r _ r0 r1 ⟨ok, i + 1, by omega, by omega, rfl⟩
end Bo

/-! ### stepping through what code is worth -/
namespace Bo
open PySem L2
section
variable {S S' : SS} {fa fb fc : VE} {ft fu : VT} {fr : VA} {fs ft' : VS} {ff : VF} {fo fp : VO} {i j m : Nat} {d e : PyData} {ds es : List PyData}
variable {kE : PyData × SS → Prop} {kT : Bool × SS → Prop} {kA : List PyData × SS → Prop} {kS : FL → Prop} {kO : Option Int × SS → Prop} {kG : SS → Prop} {kD : PyData → Prop}
theorem w_var (h : S[i]? = some (some (.dat d))) (q : kE (d, S)) : (vVar i S).okTo kE := by
  unfold vVar
  rw [h]
  exact q
theorem w_c (q : kE (d, S)) : (vC d S).okTo kE := q
theorem w_op {g : PyData → PyData → R PyData} (h : (fa S).okTo fun p => (fb p.2).okTo fun q => (g p.1 q.1).okTo fun z => kE (z, q.2)) : (vOp g fa fb S).okTo kE := by
  unfold vOp
  simp only [okTo_bind]
  exact h
theorem w_un {g : PyData → R PyData} (h : (fa S).okTo fun p => (g p.1).okTo fun z => kE (z, p.2)) : (vUn g fa S).okTo kE := by
  unfold vUn
  simp only [okTo_bind]
  exact h
theorem w_and (h : (fa S).okTo fun p => (toB p.1).okTo fun b => if b = true then (fb p.2).okTo kE else kE (.bool false, p.2)) : (vAnd fa fb S).okTo kE := by
  unfold vAnd
  simp only [okTo_bind]
  refine h.mono fun p q => q.mono fun b q => ?_
  cases b <;> exact q
theorem w_or (h : (fa S).okTo fun p => (toB p.1).okTo fun b => if b = true then kE (.bool true, p.2) else (fb p.2).okTo kE) : (vOr fa fb S).okTo kE := by
  unfold vOr
  simp only [okTo_bind]
  refine h.mono fun p q => q.mono fun b q => ?_
  cases b <;> exact q
theorem w_not (h : (fa S).okTo fun p => (toB p.1).okTo fun b => kE (.bool (!b), p.2)) : (vNot fa S).okTo kE := by
  unfold vNot
  simp only [okTo_bind]
  exact h
theorem w_toB {b : Bool} {k : Bool → Prop} (q : k b) : (toB (.bool b)).okTo k := q
theorem w_toI {b : Int} {k : Int → Prop} (q : k b) : (toI (.int b)).okTo k := q
theorem w_tst (h : (fa S).okTo fun p => (toB p.1).okTo fun b => kT (b, p.2)) : (vTst fa S).okTo kT := by
  unfold vTst
  simp only [okTo_bind]
  exact h
theorem w_tnot (h : (ft S).okTo fun p => kT (!p.1, p.2)) : (tNotF ft S).okTo kT := by
  unfold tNotF
  simp only [okTo_bind]
  exact h
theorem w_tand (h : (ft S).okTo fun p => if p.1 = true then (fu p.2).okTo kT else kT (false, p.2)) : (tAndF ft fu S).okTo kT := by
  unfold tAndF
  simp only [okTo_bind]
  refine h.mono fun p q => ?_
  by_cases c : p.1 = true
  · rw [if_pos c] at q ⊢
    exact q
  · rw [if_neg c] at q ⊢
    exact q
theorem w_tor (h : (ft S).okTo fun p => if p.1 = true then kT (true, p.2) else (fu p.2).okTo kT) : (tOrF ft fu S).okTo kT := by
  unfold tOrF
  simp only [okTo_bind]
  refine h.mono fun p q => ?_
  by_cases c : p.1 = true
  · rw [if_pos c] at q ⊢
    exact q
  · rw [if_neg c] at q ⊢
    exact q
theorem w_tru (h : (fa S).okTo fun p => (truD p.1).okTo fun b => kT (b, p.2)) : (vTru fa S).okTo kT := by
  unfold vTru
  simp only [okTo_bind]
  exact h
theorem w_if (h : (ft S).okTo fun p => if p.1 = true then (fa p.2).okTo kE else (fb p.2).okTo kE) : (vIf ft fa fb S).okTo kE := by
  unfold vIf
  simp only [okTo_bind]
  refine h.mono fun p q => ?_
  by_cases c : p.1 = true
  · rw [if_pos c] at q ⊢
    exact q
  · rw [if_neg c] at q ⊢
    exact q
theorem w_chain {g g' : PyData → PyData → R PyData} (h : (fa S).okTo fun p => (fb p.2).okTo fun q => (g p.1 q.1).okTo fun z => (toB z).okTo fun b => if b = true then (fc q.2).okTo fun r => (g' q.1 r.1).okTo fun z => kE (z, r.2) else kE (.bool false, q.2)) : (vChain g g' fa fb fc S).okTo kE := by
  unfold vChain
  simp only [okTo_bind]
  refine h.mono fun p h => h.mono fun q h => h.mono fun z h => h.mono fun b h => ?_
  cases b
  · exact h
  · simp only [if_true, okTo_bind] at h ⊢
    exact h
theorem w_nil (q : kA ([], S)) : (vNil S).okTo kA := q
theorem w_cons (h : (fa S).okTo fun p => (fr p.2).okTo fun q => kA (p.1 :: q.1, q.2)) : (vCons fa fr S).okTo kA := by
  unfold vCons
  simp only [okTo_bind]
  exact h
theorem w_tup (h : (fr S).okTo fun p => p.1.length ≤ 100000 ∧ kE (.tuple p.1, p.2)) : (vTup fr S).okTo kE := by
  unfold vTup
  simp only [okTo_bind, okTo_when]
  exact h
theorem w_lst (h : (fr S).okTo fun p => p.1.length ≤ 100000 ∧ kE (.list p.1, p.2)) : (vLst fr S).okTo kE := by
  unfold vLst
  simp only [okTo_bind, okTo_when]
  exact h
theorem w_lstF (h : (fr S).okTo fun p => p.1.length ≤ 100000 ∧ kA p) : (vLstF fr S).okTo kA := by
  unfold vLstF
  simp only [okTo_bind, okTo_when]
  exact h
theorem w_call {g : List PyData → R PyData} (h : (fr S).okTo fun p => (g p.1).okTo fun z => kE (z, p.2)) : (vCall g fr S).okTo kE := by
  unfold vCall
  simp only [okTo_bind]
  exact h
theorem w_callP {g : List PyData → R PyData} (h : (fr S).okTo fun p => p.1.length = m ∧ (g p.1).okTo fun z => kE (z, p.2)) : (vCallP m g fr S).okTo kE := by
  unfold vCallP
  simp only [okTo_bind, okTo_when, okTo_noErr]
  exact h
theorem w_callL {g : List PyData → R PyData} (h : (fr S).okTo fun p => p.1.length = m ∧ (g p.1).okTo fun z => flatD z = true ∧ kE (z, p.2)) : (vCallL m g fr S).okTo kE := by
  unfold vCallL
  simp only [okTo_bind, okTo_when, okTo_noErr]
  exact h
theorem w_own (h : S[i]? = some (some (.own ds))) {k : List PyData → Prop} (q : k ds) : (ownD S i).okTo k := by
  unfold ownD
  rw [h]
  exact q
theorem w_callB {g : List PyData → List PyData → R (PyData × List PyData)} (h : (ownD S i).okTo fun _ => (fr S).okTo fun p => (ownD p.2 i).okTo fun bs => p.1.length = m ∧ (g bs p.1).okTo fun z => kE (z.1, p.2.set i (some (.own z.2)))) : (vCallB m g i fr S).okTo kE := by
  unfold vCallB
  simp only [okTo_bind, okTo_when, okTo_noErr]
  exact h
theorem w_callS {g : List Int → R PyData} {ns : List Int} (h : S[i]? = some (some (.scr ns))) (q : (g ns).okTo fun z => kE (z, S)) : (vCallS g i S).okTo kE := by
  unfold vCallS
  rw [h]
  simp only [okTo_bind, okTo_noErr]
  exact q
theorem w_consO (h : (ownD S i).okTo fun _ => (fr S).okTo fun q => (ownD q.2 i).okTo fun ds => kA (.list ds :: q.1, q.2)) : (vConsO i fr S).okTo kA := by
  unfold vConsO
  simp only [okTo_bind]
  exact h
theorem w_fr (h : (ff S).okTo fun p => kE (.list p.1, p.2)) : (vFr ff S).okTo kE := by
  unfold vFr
  simp only [okTo_bind]
  exact h
theorem w_lenO (h : (ownD S i).okTo fun ds => kE (.int ds.length, S)) : (vLenO i S).okTo kE := by
  unfold vLenO
  simp only [okTo_bind]
  exact h
theorem w_tupleO (h : (ownD S i).okTo fun ds => kE (.tuple ds, S)) : (vTupleO i S).okTo kE := by
  unfold vTupleO
  simp only [okTo_bind]
  exact h
theorem w_listO (h : (ownD S i).okTo fun ds => kA (ds, S)) : (vListO i S).okTo kA := by
  unfold vListO
  simp only [okTo_bind]
  exact h
theorem w_ixO (h : (ownD S i).okTo fun _ => (fa S).okTo fun p => (ownD p.2 i).okTo fun ds => (toI p.1).okTo fun k => (ixD ds k).okTo fun d => kE (d, p.2)) : (vIxO i fa S).okTo kE := by
  unfold vIxO
  simp only [okTo_bind]
  exact h
theorem w_inO {neg : Bool} (h : (fa S).okTo fun p => (ownD p.2 i).okTo fun ds => (flatD p.1 = true ∧ ds.all flatD = true) ∧ kE (.bool (if neg then !inD p.1 ds else inD p.1 ds), p.2)) : (vInO neg fa i S).okTo kE := by
  unfold vInO
  simp only [okTo_bind, okTo_when]
  exact h
theorem w_truO (h : (ownD S i).okTo fun ds => kT (!ds.isEmpty, S)) : (vTruO i S).okTo kT := by
  unfold vTruO
  simp only [okTo_bind]
  exact h
theorem w_app (h : (ownD S i).okTo fun _ => (fa S).okTo fun p => (ownD p.2 i).okTo fun ds => ds.length < 100000 ∧ kE (.none, p.2.set i (some (.own (ds ++ [p.1]))))) : (vApp i fa S).okTo kE := by
  unfold vApp
  simp only [okTo_bind, okTo_when]
  exact h
theorem w_setI (h : (fb S).okTo fun p => (ownD p.2 i).okTo fun _ => (fa p.2).okTo fun q => (ownD q.2 i).okTo fun ds => (toI q.1).okTo fun k => ∃ j, ixN ds.length k = some j ∧ kS (.nx (q.2.set i (some (.own (ds.set j p.1)))))) : (vSetI i fa fb S).okTo kS := by
  unfold vSetI
  simp only [okTo_bind]
  refine h.mono fun p h => h.mono fun _ h => h.mono fun q h => h.mono fun ds h => h.mono fun k h => ?_
  obtain ⟨j, e, h⟩ := h
  rw [e]
  exact h
theorem w_sl {g : PyData → Option Int → Option Int → R PyData} (h : (fa S).okTo fun p => (fo p.2).okTo fun l => (fp l.2).okTo fun h => (g p.1 l.1 h.1).okTo fun z => kE (z, h.2)) : (vSl g fa fo fp S).okTo kE := by
  unfold vSl
  simp only [okTo_bind]
  exact h
theorem w_noPart (q : kO (none, S)) : (vNoPart S).okTo kO := q
theorem w_part (h : (fa S).okTo fun p => (toI p.1).okTo fun i => kO (some i, p.2)) : (vPart fa S).okTo kO := by
  unfold vPart
  simp only [okTo_bind]
  exact h
theorem w_iter (h : (fa S).okTo fun p => ∃ ds, p.1 = .list ds ∧ kA (ds, p.2)) : (vIter fa S).okTo kA := by
  unfold vIter
  simp only [okTo_bind]
  refine h.mono fun p ⟨ds, e, q⟩ => ?_
  rw [e]
  exact q
theorem w_iterT (h : (fa S).okTo fun p => ∃ ds, p.1 = .tuple ds ∧ kA (ds, p.2)) : (vIterT fa S).okTo kA := by
  unfold vIterT
  simp only [okTo_bind]
  refine h.mono fun p ⟨ds, e, q⟩ => ?_
  rw [e]
  exact q
theorem w_range1 (h : (fr S).okTo fun p => ∃ j, p.1 = [.int j] ∧ (-1000000 ≤ j ∧ j ≤ 1000000) ∧ kA (rangeD 0 j.toNat, p.2)) : (vRange1 fr S).okTo kA := by
  unfold vRange1
  simp only [okTo_bind]
  refine h.mono fun p ⟨j, e, c, q⟩ => ?_
  rw [e]
  exact okTo_when.mpr ⟨c, q⟩
theorem w_listRg (h : (fa S).okTo fun p => (toI p.1).okTo fun j => (-1000000 ≤ j ∧ j ≤ 1000000) ∧ kA (rangeD 0 j.toNat, p.2)) : (vListRg fa S).okTo kA := by
  unfold vListRg
  simp only [okTo_bind, okTo_when]
  exact h
theorem w_enumK {kd : Kd} (h : (fr S).okTo fun p => ∃ d ds, p.1 = [d] ∧ kdD kd d = some ds ∧ kA (enumD ds, p.2)) : (vEnumK kd fr S).okTo kA := by
  unfold vEnumK
  simp only [okTo_bind]
  refine h.mono fun p ⟨d, ds, e, c, q⟩ => ?_
  rw [e]
  simp only [c]
  exact q
theorem w_zipK {k l : Kd} (h : (fr S).okTo fun p => ∃ d e ds es, p.1 = [d, e] ∧ kdD k d = some ds ∧ kdD l e = some es ∧ kA (zipD ds es, p.2)) : (vZipK k l fr S).okTo kA := by
  unfold vZipK
  simp only [okTo_bind]
  refine h.mono fun p ⟨d, e, ds, es, e1, c1, c2, q⟩ => ?_
  rw [e1]
  simp only [c1, c2]
  exact q
theorem w_repF (h : (fa S).okTo fun p => (fb p.2).okTo fun q => ∃ ds k, p.1 = .list ds ∧ q.1 = .int k ∧ (ds.length * k.toNat ≤ 100000 ∧ k ≤ 100000 ∧ -100000 ≤ k) ∧ kA ((List.replicate k.toNat ds).flatten, q.2)) : (vRepF fa fb S).okTo kA := by
  unfold vRepF
  simp only [okTo_bind]
  refine h.mono fun p h => h.mono fun q ⟨ds, k, e1, e2, c, h⟩ => ?_
  rw [e1, e2]
  exact okTo_when.mpr ⟨c, h⟩
theorem w_lc {fg : PyData → SS → R SS} {vs : List Nat} (h : (ff S).okTo fun p => (okS vs p.2 = true ∧ p.1.length ≤ 100000) ∧ (lcF fg ft fa vs p.1 (wipeS p.2 vs)).okTo fun r => kA (r.1, backS p.2 r.2 vs)) : (vLc vs ff fg ft fa S).okTo kA := by
  unfold vLc
  simp only [okTo_bind, okTo_when]
  exact h
theorem w_yes (q : kT (true, S)) : (vYes S).okTo kT := q
/-! statements -/
theorem w_seq (h : (fs S).okTo fun fl => match fl with
    | .nx S1 => (ft' S1).okTo kS
    | f => kS f) : (vSeq fs ft' S).okTo kS := seq_ok h
theorem w_next (q : kS (.nx S)) : (vNext S).okTo kS := q
theorem w_ret (h : (fa S).okTo fun p => kS (.rt p.1 p.2)) : (vRet fa S).okTo kS := by
  unfold vRet
  simp only [okTo_bind]
  exact h
theorem w_retN (q : kS (.rt .none S)) : (vRetN S).okTo kS := q
theorem w_drop (h : (fa S).okTo fun p => kS (.nx p.2)) : (vDrop fa S).okTo kS := by
  unfold vDrop
  simp only [okTo_bind]
  exact h
theorem w_asg {fg : PyData → SS → R SS} (h : (fa S).okTo fun p => (fg p.1 p.2).okTo fun S1 => kS (.nx S1)) : (vAsg fa fg S).okTo kS := by
  unfold vAsg
  simp only [okTo_bind]
  exact h
theorem w_aName (q : kG (S.set i (some (.dat d)))) : (aName i d S).okTo kG := q
theorem w_aTup {fg : List PyData → SS → R SS} (c : ds.length = m) (q : (fg ds S).okTo kG) : (aTup m fg (.tuple ds) S).okTo kG := okTo_when.mpr ⟨c, q⟩
theorem w_aNil (q : kG S) : (aNil [] S).okTo kG := q
theorem w_aCons {fg : PyData → SS → R SS} {fgs : List PyData → SS → R SS} (q : (fg d S).okTo fun S1 => (fgs ds S1).okTo kG) : (aCons fg fgs (d :: ds) S).okTo kG := by
  unfold aCons
  simp only [okTo_bind]
  exact q
theorem w_ifS (h : (ft S).okTo fun p => if p.1 = true then (fs p.2).okTo kS else (ft' p.2).okTo kS) : (vIfS ft fs ft' S).okTo kS := by
  unfold vIfS
  simp only [okTo_bind]
  refine h.mono fun p q => ?_
  by_cases c : p.1 = true
  · rw [if_pos c] at q ⊢
    exact q
  · rw [if_neg c] at q ⊢
    exact q
theorem w_ownS (h : (ff S).okTo fun p => kS (.nx (p.2.set i (some (.own p.1))))) : (vOwn i ff S).okTo kS := by
  unfold vOwn
  simp only [okTo_bind]
  exact h
theorem w_frz (h : S[i]? = some (some (.own ds))) (q : (fs (S.set i (some (.dat (.list ds))))).okTo kS) : (vFrz i fs S).okTo kS := by
  unfold vFrz frzS
  rw [h]
  exact q
theorem w_for {fg : PyData → SS → R SS} (h : (ff S).okTo fun p => (loopF fg fs p.1 p.2).okTo kS) : (vFor ff fg fs S).okTo kS := by
  unfold vFor
  simp only [okTo_bind]
  exact h
theorem w_aug {f : Int → Int → Int} {a : Int} (h : S[i]? = some (some (.dat (.int a)))) (q : (fa S).okTo fun p => (toI p.1).okTo fun b => kS (.nx (p.2.set i (some (.dat (.int (f a b))))))) : (vAug i f fa S).okTo kS := by
  unfold vAug
  rw [h]
  simp only [okTo_bind]
  exact q
/-! values -/
theorem w_gI {f : Int → Int → Int} {a b : Int} (q : kD (.int (f a b))) : (gI f (.int a) (.int b)).okTo kD := q
theorem w_gIB {f : Int → Int → Bool} {a b : Int} (q : kD (.bool (f a b))) : (gIB f (.int a) (.int b)).okTo kD := q
theorem w_gIC {c : Int → Int → Bool} {f : Int → Int → Int} {a b : Int} (h : c a b = true ∧ kD (.int (f a b))) : (gIC c f (.int a) (.int b)).okTo kD := okTo_when.mpr h
theorem w_gEqI {a b : Int} (q : kD (.bool (decide (a = b)))) : (gEq (.int a) (.int b)).okTo kD := q
theorem w_gNeI {a b : Int} (q : kD (.bool (!decide (a = b)))) : (gNe (.int a) (.int b)).okTo kD := q
theorem w_gIxL {a : Int} (q : (ixD ds a).okTo kD) : (gIxL (.list ds) (.int a)).okTo kD := q
theorem w_gIxT {a : Int} (q : (ixD ds a).okTo kD) : (gIxT (.tuple ds) (.int a)).okTo kD := q
theorem w_gCat (h : ds.length + es.length ≤ 100000 ∧ kD (.list (ds ++ es))) : (gCat (.list ds) (.list es)).okTo kD := okTo_when.mpr h
theorem w_gCatT (h : ds.length + es.length ≤ 100000 ∧ kD (.tuple (ds ++ es))) : (gCatT (.tuple ds) (.tuple es)).okTo kD := okTo_when.mpr h
theorem w_isN (q : kD (.bool (isNone d))) : ((fun d e => R.when (isNone e = true) (.ok (.bool (isNone d)))) d PyData.none : R PyData).okTo kD := q
theorem w_notN (q : kD (.bool (!isNone d))) : ((fun d e => R.when (isNone e = true) (.ok (.bool (!isNone d)))) d PyData.none : R PyData).okTo kD := q
theorem w_gInL {neg : Bool} (h : (flatD d = true ∧ ds.all flatD = true) ∧ kD (.bool (if neg then !inD d ds else inD d ds))) : (gIn neg d (.list ds)).okTo kD := okTo_when.mpr h
theorem w_gLenL (q : kD (.int ds.length)) : (gLen [.list ds]).okTo kD := q
theorem w_gLenT (q : kD (.int ds.length)) : (gLen [.tuple ds]).okTo kD := q
theorem w_gIntI {a : Int} (q : kD (.int a)) : (gInt [.int a]).okTo kD := q
theorem w_gTuple (q : kD (.tuple ds)) : (gTuple [.list ds]).okTo kD := q
theorem w_gBools {f : List Bool → PyData} {bs : List Bool} (q : kD (f bs)) : (gBools f [.list (bs.map PyData.bool)]).okTo kD := by
  unfold gBools
  simp only [bools_map]
  exact q
theorem w_gInts {f : List Int → PyData} {bs : List Int} (q : kD (f bs)) : (gInts f [.list (bs.map PyData.int)]).okTo kD := by
  unfold gInts
  simp only [ints_map]
  exact q
theorem w_gNeD (h : (SeqAt.shaped d = true ∧ SeqAt.shaped e = true) ∧ kD (.bool (!PyData.eqv d e))) : (gNeD d e).okTo kD := okTo_when.mpr h
theorem w_gEqD (h : (SeqAt.shaped d = true ∧ SeqAt.shaped e = true) ∧ kD (.bool (PyData.eqv d e))) : (gEqD d e).okTo kD := okTo_when.mpr h
theorem w_gRevL (q : kD (.list ds.reverse)) : (gRevL (.list ds)).okTo kD := q
theorem w_gSlL {lo hi : Option Int} (q : kD (.list (cutD ds lo hi))) : (gSlL (.list ds) lo hi).okTo kD := q
theorem w_gSlT {lo hi : Option Int} (q : kD (.tuple (cutD ds lo hi))) : (gSlT (.tuple ds) lo hi).okTo kD := q
/-! defs -/
theorem w_denP {N : Nat} (h : (fs (startS N ds)).okTo fun fl => match fl with
    | .nx _ => kD .none
    | .rt d _ => kD d
    | _ => False) : (denP N fs ds).okTo kD := by
  unfold denP endP
  simp only [okTo_bind]
  refine h.mono fun fl q => ?_
  cases fl <;> first | exact q | exact q.elim
/-- a while by what holds ahead of its turns, and a number that falls -/
theorem while_ok (I : Nat → SS → Prop) (step : ∀ m S, I m S → (ft S).okTo fun p => if p.1 = true then (fs p.2).okTo fun fl => match fl with
      | .nx S2 => ∃ m', m' < m ∧ I m' S2
      | .ct S2 => ∃ m', m' < m ∧ I m' S2
      | .bk S2 => kS (.nx S2)
      | .rt d S2 => kS (.rt d S2)
      else kS (.nx p.2)) {m : Nat} (hm : m < fuel) (h : I m S) : (vWhile ft fs S).okTo kS := by
  have go : ∀ (f m : Nat) (S : SS), m < f → I m S → (loopW ft fs f S).okTo kS := by
    intro f
    induction f with
    | zero => intro m S h; omega
    | succ f ih =>
      intro m S hm h
      unfold loopW
      rw [okTo_bind]
      refine (step m S h).mono fun p q => ?_
      by_cases c : p.1 = true
      · rw [if_pos c] at q ⊢
        rw [okTo_bind]
        refine q.mono fun fl q => ?_
        cases fl with
        | nx S2 =>
          obtain ⟨m', h1, h2⟩ := q
          exact ih m' S2 (by omega) h2
        | ct S2 =>
          obtain ⟨m', h1, h2⟩ := q
          exact ih m' S2 (by omega) h2
        | bk S2 => exact q
        | rt d S2 => exact q
      · rw [if_neg c] at q ⊢
        exact q
  exact go fuel m S hm h
end
end Bo

/-! ### the drawn systems -/
namespace Bo
open PySem L2
abbrev Cho := Int × List (Int × Int)
def dC (c : Cho) : PyData := .tuple [.int c.1, .tuple (c.2.map prD)]
def dS (s : List Cho) : PyData := .tuple (s.map dC)
def dY (y : List (List Cho)) : PyData := .tuple (y.map dS)
structure ChoOk (m b : Nat) (c : Cho) : Prop where
  cost : 0 ≤ c.1 ∧ c.1 ≤ 1000
  ne : c.2 ≠ []
  len : c.2.length ≤ b
  ends : ∀ e ∈ c.2, 0 ≤ e.1 ∧ e.1 < (m : Int) ∧ 1 ≤ e.2 ∧ e.2 ≤ 1000
  rise : c.2.Pairwise fun x y => x.1 < y.1
structure SysOk (q b : Nat) (y : List (List Cho)) : Prop where
  ne : 1 ≤ y.length
  len : y.length ≤ 20
  st : ∀ s ∈ y, 1 ≤ s.length ∧ s.length ≤ q
  cho : ∀ s ∈ y, ∀ c ∈ s, ChoOk y.length b c
/-- an item of a written list by a draw -/
theorem pick_ok {ns : List Int} {r : Int} {k : PyData → Prop} (h0 : 0 ≤ r) (h1 : r < (ns.length : Int)) (h : ∀ z ∈ ns, k (.int z)) : (ixD (ns.map PyData.int) r).okTo k := by
  obtain ⟨z, hz, e⟩ := ixD_int h0 h1
  exact okTo_eq e (h z hz)
local macro_rules | `(tactic| walk_at "ev0") => `(tactic| simp only [okTo_bind, okTo_ok, okTo_noErr, okTo_when, R.bind_ok, seqF, vAsg, vVar, vC, vOp, vUn, vCall, vCons, vNil, vTup, vLst, vFr, vLstF, vTst, toB, toI, gI, gIC, gIB, gNeg, gInt, gLen, gEq, gNe, eqF, vAnd, vOr, vNot, tNotF, vYes, gTuple, gList, gRevL, wipeS, backS, okS, vIfS, vIf, vNext, vRet, vRetN, vDrop, vOwn, vFrz, frzS, aName, vFor, vScr, vRange1, vApp, ownD, vIxO, vSetI, gIxL, gIxT, vInO, vCallP, vCallB, vTupleO, vListO, vLenO, vLc, List.getElem?_cons_zero, List.getElem?_cons_succ, List.set_cons_zero, List.set_cons_succ, List.length_cons, List.length_nil, startS, List.map_cons, List.map_nil, List.replicate_succ, List.replicate_zero, List.cons_append, List.nil_append, denP, denB, denS, endP, endB, Nat.sub_self, Nat.reduceSub, Nat.reduceAdd, List.all_cons, List.all_nil, Bool.and_true, SV.mine, Bool.not_false, Option.join_some, true_and, and_true])
theorem Box.up {ts : List Int} {n m : Int} {bs : List PyData} (b : Box ts n bs) (h : n ≤ m) : Box ts m bs := by
  obtain ⟨ok, i, i0, i1, e⟩ := b
  exact ⟨ok, i, i0, by omega, e⟩
theorem rise_app {l : List (Int × Int)} {x : Int × Int} (h : l.Pairwise fun x y => x.1 < y.1) (hx : ∀ e ∈ l, e.1 < x.1) : (l ++ [x]).Pairwise fun x y => x.1 < y.1 :=
  List.pairwise_append.mpr ⟨h, List.pairwise_singleton _ _, fun a ha b hb => by rw [List.mem_singleton.mp hb]; exact hx a ha⟩
theorem ends_ok {ts : List Int} {n : Int} {m : Nat} {bs : List PyData} {k : PyData × List PyData → Prop} (b : Box ts n bs) (hm : 1 ≤ m ∧ m ≤ 20) (hn : n ≤ 2 ^ 39) (h : ∀ (es : List (Int × Int)) bs', es ≠ [] → es.length ≤ m → (∀ e ∈ es, 0 ≤ e.1 ∧ e.1 < (m : Int) ∧ 1 ≤ e.2 ∧ e.2 ≤ 1000) → (es.Pairwise fun x y => x.1 < y.1) → Box ts (n + 50) bs' → k (.tuple (es.map prD), bs')) : (den_l_ends bs [.int (m : Int)]).okTo k := by
  unfold den_l_ends body_l_ends
  walk_at "ev0"
  refine seq_ok ?_
  walk_at "ev0"
  refine ⟨by decide, seq_ok ?_⟩
  walk_at "ev0"
  refine take_ok b (by omega) (by omega) fun f bs1 f0 f1 b1 => seq_ok ?_
  walk_at "ev0"
  refine ⟨⟨by omega, by omega⟩, loop_ok (fun i S => ∃ (es : List (Int × Int)) (bs : List PyData) (g : Option SV), S = [some (.own bs), some (.dat (.int (m : Int))), some (.own (es.map prD)), some (.dat (.int f)), g] ∧ Box ts (n + 1 + 2 * i) bs ∧ es.length ≤ i ∧
    (∀ e ∈ es, 0 ≤ e.1 ∧ e.1 < (i : Int) ∧ 1 ≤ e.2 ∧ e.2 ≤ 1000) ∧ (es.Pairwise fun x y => x.1 < y.1) ∧ (f < (i : Int) → es ≠ [])) ?_ ?_ ⟨[], bs1, _, rfl, b1.up (by omega), Nat.le_refl _, by simp, .nil, fun z => by omega⟩⟩
  · rintro i d S hi ⟨es, bs2, g, rfl, b2, hl, he, hr, hf⟩
    obtain ⟨hi1, rfl⟩ := rangeD_get hi
    rw [Int.toNat_natCast] at hi1
    have z0 : (0 : Int) + (i : Nat) = (i : Int) := Int.zero_add _
    rw [z0]
    walk_at "ev0"
    unfold tOrF
    walk_at "ev0"
    -- the pair is put in
    have put : ∀ {bs3 : List PyData}, Box ts (n + 2 + 2 * i) bs3 → (vDrop (vApp 2 (vTup (vCons (vVar 4) (vCons (vOp gIxL (vLst (vCons (vC (.int 1)) (vCons (vC (.int 1)) (vCons (vC (.int 2)) (vCons (vC (.int 3)) (vCons (vC (.int 10)) (vCons (vC (.int 1000)) vNil))))))) (vCallB 1 den_l_take 0 (vCons (vC (.int 6)) vNil))) vNil))))
        [some (.own bs3), some (.dat (.int (m : Int))), some (.own (es.map prD)), some (.dat (.int f)), some (.dat (.int (i : Int)))]).okTo fun fl => match fl with
      | .nx S2 => ∃ (es : List (Int × Int)) (bs : List PyData) (g : Option SV), S2 = [some (.own bs), some (.dat (.int (m : Int))), some (.own (es.map prD)), some (.dat (.int f)), g] ∧ Box ts (n + 1 + 2 * (i + 1 : Nat)) bs ∧ es.length ≤ i + 1 ∧
        (∀ e ∈ es, 0 ≤ e.1 ∧ e.1 < ((i + 1 : Nat) : Int) ∧ 1 ≤ e.2 ∧ e.2 ≤ 1000) ∧ (es.Pairwise fun x y => x.1 < y.1) ∧ (f < ((i + 1 : Nat) : Int) → es ≠ [])
      | _ => False := fun {bs3} b3 => by
      walk_at "ev0"
      refine ⟨by decide, take_ok b3 (by omega) (by omega) fun r bs4 r0 r1 b4 => ?_⟩
      walk_at "ev0"
      refine pick_ok (ns := [1, 1, 2, 3, 10, 1000]) r0 (by simpa using r1) fun z hz => ⟨by decide, by rw [List.length_map]; omega, ?_⟩
      have hz2 : 1 ≤ z ∧ z ≤ 1000 := by
        simp only [List.mem_cons, List.not_mem_nil, or_false] at hz
        omega
      refine ⟨es ++ [((i : Int), z)], bs4, _, by rw [List.map_append]; rfl, b4.up (by omega), by rw [List.length_append, List.length_singleton]; omega, fun e q => ?_, rise_app hr fun e q => (he e q).2.1, fun _ q => by simp at q⟩
      rcases List.mem_append.mp q with q | q
      · have := he e q
        omega
      · rw [List.mem_singleton.mp q]
        exact ⟨by show (0 : Int) ≤ i; omega, by show (i : Int) < _; omega, hz2⟩
    refine ite_ok (fun c => ?_) (fun c => ?_)
    · walk_at "ev0"
      refine (put (b2.up (by omega))).mono fun fl q => ?_
      cases fl <;> first | exact q | exact q.elim
    · walk_at "ev0"
      refine take_ok b2 (by omega) (by omega) fun r bs3 r0 r1 b3 => ?_
      walk_at "ev0"
      refine ite_ok (fun _ => ?_) (fun _ => ?_)
      · refine (put (b3.up (by omega))).mono fun fl q => ?_
        cases fl <;> first | exact q | exact q.elim
      · refine ⟨es, bs3, _, rfl, b3.up (by omega), by omega, fun e q => by have := he e q; omega, hr, fun z => hf ?_⟩
        have : ¬ (i : Int) = f := fun q => c (decide_eq_true q)
        omega
  · rintro S ⟨es, bs2, g, rfl, b2, hl, he, hr, hf⟩
    rw [rangeD_len, Int.toNat_natCast] at b2 hl he hf
    walk_at "ev0"
    exact h es bs2 (hf (by omega)) hl he hr (b2.up (by omega))
theorem choices_ok {ts : List Int} {n q : Int} {m : Nat} {bs : List PyData} {k : PyData × List PyData → Prop} (b : Box ts n bs) (hm : 1 ≤ m ∧ m ≤ 20) (hn : n ≤ 2 ^ 38) (hq : 1 ≤ q ∧ q ≤ 6)
    (h : ∀ (s : List Cho) bs', 1 ≤ s.length → (s.length : Int) ≤ q → (∀ c ∈ s, ChoOk m m c) → Box ts (n + 400) bs' → k (dS s, bs')) : (den_l_choices bs [.int (m : Int), .int q]).okTo k := by
  unfold den_l_choices body_l_choices
  walk_at "ev0"
  refine seq_ok ?_
  walk_at "ev0"
  refine ⟨by decide, seq_ok ?_⟩
  walk_at "ev0"
  refine take_ok b (by omega) (by omega) fun r bs1 r0 r1 b1 => ?_
  walk_at "ev0"
  refine ⟨⟨by omega, by omega⟩, loop_ok (fun i S => ∃ (s : List Cho) (bs : List PyData) (g : Option SV), S = [some (.own bs), some (.dat (.int (m : Int))), some (.dat (.int q)), some (.own (s.map dC)), g] ∧ Box ts (n + 1 + 51 * i) bs ∧ s.length = i ∧ ∀ c ∈ s, ChoOk m m c) ?_ ?_ ⟨[], bs1, _, rfl, b1.up (by omega), rfl, by simp⟩⟩
  · rintro i d S hi ⟨s, bs2, g, rfl, b2, hl, hc⟩
    obtain ⟨hi1, rfl⟩ := rangeD_get hi
    have hi6 : i < 6 := by omega
    walk_at "ev0"
    refine ⟨by decide, take_ok b2 (by omega) (by omega) fun x bs3 x0 x1 b3 => ?_⟩
    walk_at "ev0"
    refine pick_ok (ns := [0, 1, 2, 5, 1000]) x0 (by simpa using x1) fun z hz => ?_
    refine ends_ok b3 hm (by omega) fun es bs4 e1 e2 e3 e4 b4 => ?_
    walk_at "ev0"
    refine ⟨by decide, by rw [List.length_map]; omega, s ++ [(z, es)], bs4, _, by rw [List.map_append]; rfl, b4.up (by omega), by rw [List.length_append, List.length_singleton, hl], fun c q => ?_⟩
    rcases List.mem_append.mp q with q | q
    · exact hc c q
    · rw [List.mem_singleton.mp q]
      refine ⟨?_, e1, e2, e3, e4⟩
      simp only [List.mem_cons, List.not_mem_nil, or_false] at hz
      show 0 ≤ z ∧ z ≤ 1000
      omega
  · rintro S ⟨s, bs2, g, rfl, b2, hl, hc⟩
    rw [rangeD_len] at b2 hl
    walk_at "ev0"
    exact h s bs2 (by omega) (by omega) hc (b2.up (by omega))
theorem system_ok {ts : List Int} {n q : Int} {bs : List PyData} {k : PyData × List PyData → Prop} (b : Box ts n bs) (hn : n ≤ 2 ^ 37) (hq : 1 ≤ q ∧ q ≤ 20)
    (h : ∀ (y : List (List Cho)) bs', SysOk 3 y.length y → (y.length : Int) ≤ q → Box ts (n + 10000) bs' → k (dY y, bs')) : (den_l_system bs [.int q]).okTo k := by
  unfold den_l_system body_l_system
  walk_at "ev0"
  refine seq_ok ?_
  walk_at "ev0"
  refine take_ok b (by omega) (by omega) fun r bs1 r0 r1 b1 => ?_
  obtain ⟨m, hm⟩ : ∃ m : Nat, 1 + r = (m : Int) := ⟨(1 + r).toNat, by omega⟩
  walk_at "ev0"
  rw [hm]
  refine ⟨⟨by omega, by omega⟩, by rw [rangeD_len]; omega, ?_⟩
  refine lc_ok (fun i acc S => ∃ (y : List (List Cho)) (bs : List PyData), S = [some (.own bs), some (.dat (.int q)), some (.dat (.int (m : Int))), none] ∧ acc = y.map dS ∧ Box ts (n + 1 + 400 * i) bs ∧ y.length = i ∧ ∀ s ∈ y, (1 ≤ s.length ∧ s.length ≤ 3) ∧ ∀ c ∈ s, ChoOk m m c) ?_ ?_ ⟨[], bs1, rfl, rfl, b1.up (by omega), rfl, by simp⟩
  · rintro i d acc S hi ⟨y, bs2, rfl, rfl, b2, hl, hs⟩
    obtain ⟨hi1, rfl⟩ := rangeD_get hi
    rw [Int.toNat_natCast] at hi1
    walk_at "ev0"
    rw [if_pos trivial]
    refine choices_ok b2 (by omega) (by omega) (by decide) fun s bs3 s1 s2 s3 b3 => ?_
    refine ⟨y ++ [s], bs3, rfl, by rw [List.map_append]; rfl, b3.up (by omega), by rw [List.length_append, List.length_singleton, hl], fun t q => ?_⟩
    rcases List.mem_append.mp q with q | q
    · exact hs t q
    · rw [List.mem_singleton.mp q]
      exact ⟨⟨s1, by omega⟩, s3⟩
  · rintro acc S ⟨y, bs2, rfl, rfl, b2, hl, hs⟩
    rw [rangeD_len, Int.toNat_natCast] at b2 hl
    subst hl
    walk_at "ev0"
    exact h y bs2 ⟨by omega, by omega, fun s m => (hs s m).1, fun s m => (hs s m).2⟩ (by omega) (b2.up (by omega))
end Bo

/-! ### the program's sure states: what its defs are worth -/
namespace Bo
open PySem L2
end Bo

/-! ### a, b, .. = a list -/
namespace Bo
open PySem L2
section
variable {K : PySem.W.Frag} {n : Nat} {C : Ct K n}
def aUnl (m : Nat) (f : List PyData → SS → R SS) : PyData → SS → R SS := fun d S => match d with
  | .list ds => R.when (ds.length = m) (f ds S)
  | _ => .bad
end
section
variable {X : Cx} (K : PySem.W.Frag) (h : X.K = K := by rfl)
include h
end
theorem w_aUnl {m : Nat} {ds : List PyData} {S : SS} {kG : SS → Prop} {fg : List PyData → SS → R SS} (c : ds.length = m) (q : (fg ds S).okTo kG) : (aUnl m fg (.list ds) S).okTo kG := by
  show (R.when (ds.length = m) (fg ds S)).okTo kG
  rw [R.when_pos c]
  exact q
end Bo

/-! ### more steps -/
namespace Bo
open PySem L2
section
variable {S S' : SS} {fa fb fc : VE} {ft fu : VT} {fr : VA} {fs ft' : VS} {ff : VF} {i j m : Nat} {d e : PyData} {ds es : List PyData}
variable {kE : PyData × SS → Prop} {kT : Bool × SS → Prop} {kA : List PyData × SS → Prop} {kS : FL → Prop} {kD : PyData → Prop}
theorem w_itT {a b : Prop} (h : a) : if True then a else b := h
theorem w_itF {a b : Prop} (h : b) : if False then a else b := h
theorem w_itTT {a b : Prop} (h : a) : if true = true then a else b := h
theorem w_itFT {a b : Prop} (h : b) : if false = true then a else b := h
theorem w_gList (q : kD (.list ds)) : (gList [.list ds]).okTo kD := q
theorem w_gSortI {ns : List Int} (q : kD (.list ((ns.mergeSort fun a b => decide (a ≤ b)).map PyData.int))) : (gSortI [.list (ns.map PyData.int)]).okTo kD := by
  unfold gSortI
  simp only [ints_map]
  exact q
theorem w_range2 (h : (fr S).okTo fun p => ∃ i j, p.1 = [.int i, .int j] ∧ ((-1000000 ≤ i ∧ i ≤ 1000000) ∧ -1000000 ≤ j ∧ j ≤ 1000000) ∧ kA (rangeD i (j - i).toNat, p.2)) : (vRange2 fr S).okTo kA := by
  unfold vRange2
  simp only [okTo_bind]
  refine h.mono fun p ⟨i, j, e, c, q⟩ => ?_
  rw [e]
  exact okTo_when.mpr ⟨c, q⟩
theorem w_lcO {pair : Bool} {vs : List Nat} {fg : PyData → SS → R SS} (h0 : S[i]? = some (some (.own ds))) (ok : okS vs S = true) (h : (lcO pair i fg ft fa vs 100000 0 (wipeS S vs)).okTo fun r => kA (r.1, backS S r.2 vs)) : (vLcO pair i vs fg ft fa S).okTo kA := by
  unfold vLcO ownD
  rw [h0]
  simp only [R.bind_ok, okTo_when, okTo_bind]
  exact ⟨ok, h⟩
/-- a comprehension over a slot's list that stays -/
theorem lcO_ok {pair : Bool} {vs : List Nat} {fg : PyData → SS → R SS} (I : Nat → List PyData → SS → Prop) (own : ∀ k acc S, I k acc S → S[i]? = some (some (.own ds))) (hl : ds.length < 100000)
    (step : ∀ k d acc S, ds[k]? = some d → I k acc S → (fg (itO pair k d) S).okTo fun S1 => (ft S1).okTo fun p => if p.1 = true then (fa p.2).okTo fun q => I (k + 1) (acc ++ [q.1]) (wipeS q.2 vs) else I (k + 1) acc (wipeS p.2 vs))
    (done : ∀ acc S, I ds.length acc S → kA (acc, S)) (h0 : I 0 [] S) : (lcO pair i fg ft fa vs 100000 0 S).okTo kA := by
  have go : ∀ (m k : Nat) (acc : List PyData) (S : SS), k + m = 100000 → k ≤ ds.length → I k acc S → (lcO pair i fg ft fa vs m k S).okTo fun r => kA (acc ++ r.1, r.2) := by
    intro m
    induction m with
    | zero => intro k acc S e h; omega
    | succ m ih =>
      intro k acc S e hk h
      unfold lcO ownD
      rw [own k acc S h, R.bind_ok]
      rcases Nat.lt_or_ge k ds.length with c | c
      · rw [List.getElem?_eq_getElem c]
        simp only [okTo_bind]
        refine (step k _ acc S (List.getElem?_eq_getElem c) h).mono fun S1 q => q.mono fun p q => ?_
        by_cases t : p.1 = true
        · rw [if_pos t] at q ⊢
          simp only [okTo_bind]
          refine q.mono fun z q => (ih (k + 1) _ _ (by omega) c q).mono fun r q => ?_
          rw [List.append_assoc] at q
          exact q
        · rw [if_neg t] at q ⊢
          exact ih (k + 1) _ _ (by omega) c q
      · have ek : k = ds.length := by omega
        rw [List.getElem?_eq_none c]
        simp only [okTo_when]
        refine ⟨ek, ?_⟩
        show kA (acc ++ [], S)
        rw [List.append_nil]
        exact done acc S (ek ▸ h)
  exact (go 100000 0 [] S (by omega) (Nat.zero_le _) h0).mono fun r q => q
end
end Bo

/-! ### what can be reached: the four sets of sure states, as predicates -/
namespace Bo
section
variable (E : Nat → Nat → Nat → Prop) (U : Nat → Nat → Prop) (T : Nat → Prop)
/-- some way leads there -/
inductive Rch : Nat → Prop
  | goal {s : Nat} : T s → Rch s
  | step {s k j : Nat} : U s k → E s k j → Rch j → Rch s
/-- all ways may lead there -/
inductive Lch : Nat → Prop
  | goal {s : Nat} : T s → Lch s
  | step {s k : Nat} (f : Nat → Nat) : U s k → (∀ k, U s k → E s k (f k)) → (∀ k, U s k → Lch (f k)) → Lch s
end
section
variable {E E' : Nat → Nat → Nat → Prop} {U U' V : Nat → Nat → Prop} {T T' : Nat → Prop} {n : Nat} {s : Nat}
theorem lch_of (h : ∃ k, U s k) (g : ∀ k, U s k → ∃ j, E s k j ∧ Lch E U T j) : Lch E U T s := by
  classical
  obtain ⟨k, hk⟩ := h
  let f : Nat → Nat := fun k => if q : ∃ j, E s k j ∧ Lch E U T j then q.choose else 0
  have hf : ∀ k, U s k → E s k (f k) ∧ Lch E U T (f k) := fun k hk => by
    have q := g k hk
    show E s k (if q : ∃ j, E s k j ∧ Lch E U T j then q.choose else 0) ∧ Lch E U T (if q : ∃ j, E s k j ∧ Lch E U T j then q.choose else 0)
    rw [dif_pos q]
    exact q.choose_spec
  exact .step f hk (fun k h => (hf k h).1) (fun k h => (hf k h).2)
/-- more targets -/
structure MoreT (U U' : Nat → Nat → Prop) (T T' : Nat → Prop) : Prop where
  t : ∀ s, T s → T' s
  u : ∀ s k, U s k → T' s ∨ U' s k
  v : ∀ s k, U' s k → U s k
namespace MoreT
variable (M : MoreT U U' T T')
include M
end MoreT
/-- more states allowed -/
structure MoreA (U U' : Nat → Nat → Prop) (T : Nat → Prop) : Prop where
  u : ∀ s k, U s k → U' s k
  v : ∀ s k, U' s k → U s k ∨ ((∀ k', ¬ U s k') ∧ ¬ T s)
namespace MoreA
variable (M : MoreA U U' T)
include M
end MoreA
/-- fewer choices -/
structure Fewer (E E' : Nat → Nat → Nat → Prop) (U U' : Nat → Nat → Prop) : Prop where
  u : ∀ s k, U' s k → U s k
  e : ∀ s k j, U' s k → (E' s k j ↔ E s k j)
  x : ∀ s k, U s k → ∃ k, U' s k
namespace Fewer
variable (M : Fewer E E' U U')
include M
end Fewer
/-- one choice in each state -/
structure One (U : Nat → Nat → Prop) (T : Nat → Prop) : Prop where
  u : ∀ s k k', U s k → U s k' → k = k'
  t : ∀ s k, U s k → ¬ T s
end
end Bo

/-! ### rounds of finding -/
namespace Bo
section
variable (ev : Bool) (n : Nat) (E : Nat → Nat → Nat → Prop) (U : Nat → Nat → Prop) (T : Nat → Prop)
/-- one joins what is found -/
def Jn (F : Nat → Prop) (i : Nat) : Prop := if ev = true then (∃ k, U i k) ∧ ∀ k, U i k → ∃ j, E i k j ∧ F j else ∃ k j, U i k ∧ E i k j ∧ F j
/-- what is found in the end -/
def Gl (i : Nat) : Prop := if ev = true then Lch E U T i else Rch E U T i
/-- what is found by f -/
def Fn (f : Nat → Option Nat) (j : Nat) : Prop := j < n ∧ (f j).isSome = true
structure LvI (f : Nat → Option Nat) (r : Nat) : Prop where
  sound : ∀ i, i < n → ∀ q, f i = some q → q ≤ r ∧ Gl ev E U T i
  goals : ∀ i, i < n → T i → (f i).isSome = true
  close : (∃ i, i < n ∧ f i = some r) ∨ ∀ i, i < n → f i = none → ¬ Jn ev E U (Fn n f) i
  low : ∀ i, i < n → ∀ q, f i = some q → (T i ∧ q = 0) ∨ Jn ev E U (fun j => j < n ∧ ∃ p, f j = some p ∧ p < q) i
end
section
variable {ev : Bool} {n : Nat} {E : Nat → Nat → Nat → Prop} {U : Nat → Nat → Prop} {T : Nat → Prop} {f : Nat → Option Nat} {r : Nat} {F : Nat → Prop} {i : Nat}
theorem jn_sound (h : ∀ j, F j → Gl ev E U T j) (q : Jn ev E U F i) : Gl ev E U T i := by
  unfold Jn at q
  unfold Gl at h ⊢
  split at q
  · rename_i c
    simp only [c, if_true] at h ⊢
    exact lch_of q.1 fun k u => (q.2 k u).imp fun j z => ⟨z.1, h j z.2⟩
  · rename_i c
    simp only [c] at h ⊢
    obtain ⟨k, j, u, e, z⟩ := q
    exact .step u e (h j z)
theorem jn_full (hT : ∀ i, T i → F i) (hU : ∀ s k, U s k → s < n) (h : ∀ i, i < n → ¬ F i → ¬ Jn ev E U F i) (q : Gl ev E U T i) : F i := by
  unfold Jn at h
  unfold Gl at q
  cases ev with
  | true =>
    simp only [if_true] at h q
    induction q with
    | goal t => exact hT _ t
    | @step s k f u e _ ih => exact Classical.byContradiction fun z => h s (hU _ _ u) z ⟨⟨k, u⟩, fun k u => ⟨f k, e k u, ih k u⟩⟩
  | false =>
    simp only [Bool.false_eq_true, if_false] at h q
    induction q with
    | goal t => exact hT _ t
    | @step s k j u e _ ih => exact Classical.byContradiction fun z => h s (hU _ _ u) z ⟨k, j, u, e, ih⟩
theorem fn_none (h : i < n) (q : f i = none) : ¬ Fn n f i := fun z => by
  have := z.2
  rw [q] at this
  cases this
theorem fn_of (h : i < n) (q : ¬ Fn n f i) : f i = none := by
  cases e : f i with
  | none => rfl
  | some a => exact absurd ⟨h, by rw [e]; rfl⟩ q
/-- in the end -/
theorem LvI.done (I : LvI ev n E U T f r) (hT : ∀ i, T i → i < n) (hU : ∀ s k, U s k → s < n) (h : ¬ ∃ i, i < n ∧ f i = some r) (hi : i < n) : (f i).isSome = true ↔ Gl ev E U T i := by
  have hc := I.close.resolve_left h
  constructor
  · intro z
    cases e : f i with
    | none => rw [e] at z; cases z
    | some q => exact (I.sound i hi q e).2
  · intro g
    exact (jn_full (F := Fn n f) (fun i t => ⟨hT i t, I.goals i (hT i t) t⟩) hU (fun i hi q => hc i hi (fn_of hi q)) g).2
theorem jn_mono {F F' : Nat → Prop} (h : ∀ j, F j → F' j) (q : Jn ev E U F i) : Jn ev E U F' i := by
  unfold Jn at q ⊢
  split at q
  · rename_i c
    rw [if_pos c]
    exact ⟨q.1, fun k u => let ⟨j, e, z⟩ := q.2 k u; ⟨j, e, h j z⟩⟩
  · rename_i c
    rw [if_neg c]
    obtain ⟨k, j, u, e, z⟩ := q
    exact ⟨k, j, u, e, h j z⟩
/-- a round -/
def nextF (g : Nat → Bool) (f : Nat → Option Nat) (r : Nat) : Nat → Option Nat := fun i => if g i = true then some (r + 1) else f i
theorem LvI.next (I : LvI ev n E U T f r) {g : Nat → Bool} (hg : ∀ i, i < n → (g i = true ↔ f i = none ∧ Jn ev E U (Fn n f) i)) : LvI ev n E U T (nextF g f r) (r + 1) := by
  have gl : ∀ j, Fn n f j → Gl ev E U T j := fun j z => by
    cases e : f j with
    | none => exact absurd z (fn_none z.1 e)
    | some q => exact (I.sound j z.1 q e).2
  have keep : ∀ j p, j < n → f j = some p → nextF g f r j = some p := fun j p hj e => by
    unfold nextF
    rw [if_neg, e]
    intro c
    rw [((hg j hj).mp c).1] at e
    cases e
  refine ⟨fun i hi q e => ?_, fun i hi t => ?_, ?_, fun i hi q e => ?_⟩
  · unfold nextF at e
    split at e
    · rename_i c
      cases e
      exact ⟨Nat.le_refl _, jn_sound gl ((hg i hi).mp c).2⟩
    · obtain ⟨h1, h2⟩ := I.sound i hi q e
      exact ⟨by omega, h2⟩
  · unfold nextF
    split
    · rfl
    · exact I.goals i hi t
  · by_cases c : ∃ i, i < n ∧ g i = true
    · obtain ⟨i, hi, c⟩ := c
      exact .inl ⟨i, hi, if_pos c⟩
    · have same : ∀ i, i < n → nextF g f r i = f i := fun i hi => if_neg fun z => c ⟨i, hi, z⟩
      refine .inr fun i hi e q => c ⟨i, hi, (hg i hi).mpr ⟨by rw [← same i hi]; exact e, ?_⟩⟩
      have ef : Fn n (nextF g f r) = Fn n f := by
        funext j
        unfold Fn
        refine propext ⟨fun z => ⟨z.1, ?_⟩, fun z => ⟨z.1, ?_⟩⟩
        · rw [← same j z.1]; exact z.2
        · rw [same j z.1]; exact z.2
      rw [ef] at q
      exact q
  · by_cases c : g i = true
    · have e' : nextF g f r i = some (r + 1) := if_pos c
      rw [e'] at e
      cases e
      refine .inr (jn_mono (fun j z => ?_) ((hg i hi).mp c).2)
      cases ej : f j with
      | none => exact absurd z (fn_none z.1 ej)
      | some p => exact ⟨z.1, p, keep j p z.1 ej, by have := (I.sound j z.1 p ej).1; omega⟩
    · have e' : nextF g f r i = f i := if_neg c
      rw [e'] at e
      rcases I.low i hi q e with z | z
      · exact .inl z
      · exact .inr (jn_mono (fun j ⟨hj, p, ep, lt⟩ => ⟨hj, p, keep j p hj ep, lt⟩) z)
end
end Bo

namespace Bo
open PySem L2
local macro_rules | `(tactic| walk_at "wv1") => `(tactic| (first
  | ((with_reducible refine w_var (d := ?wd) ?wh ?wq); (case wh => exact rfl))
  | with_reducible refine w_cons ?_
  | with_reducible refine w_nil ?_
  | with_reducible refine w_op ?_
  | with_reducible refine w_c ?_
  | with_reducible refine w_aName ?_
  | with_reducible refine w_seq ?_
  | with_reducible refine w_asg ?_
  | with_reducible refine w_toB ?_
  | with_reducible refine w_callP ?_
  | with_reducible refine w_tst ?_
  | with_reducible refine w_gIxT ?_
  | with_reducible refine w_call ?_
  | with_reducible refine w_ret ?_
  | with_reducible refine w_ifS ?_
  | with_reducible refine w_next ?_
  | ((with_reducible refine w_own (ds := ?wd) ?wh ?wq); (case wh => exact rfl))
  | with_reducible refine w_for ?_
  | with_reducible refine w_fr ?_
  | with_reducible refine w_lc ?_
  | with_reducible refine w_tup ?_
  | with_reducible refine w_iter ?_
  | with_reducible refine w_itFT ?_
  | with_reducible refine w_aCons ?_
  | with_reducible refine w_gIxL ?_
  | with_reducible refine w_tnot ?_
  | with_reducible refine w_tor ?_
  | with_reducible refine w_range1 ?_
  | with_reducible refine w_yes ?_
  | with_reducible refine w_itTT ?_
  | with_reducible refine w_iterT ?_
  | with_reducible refine w_lst ?_
  | with_reducible refine w_toI ?_
  | with_reducible refine w_ownS ?_
  | with_reducible refine w_aTup rfl ?_
  | with_reducible refine w_aNil ?_
  | ((with_reducible refine w_frz (ds := ?wd) ?wh ?wq); (case wh => exact rfl))
  | with_reducible refine w_itT ?_
  | with_reducible refine w_tand ?_
  | with_reducible refine w_gEqI ?_
  | with_reducible refine w_gNeI ?_
  | with_reducible refine w_gLenT ?_
  | with_reducible refine w_lstF ?_
  | with_reducible refine w_callB ?_
  | with_reducible refine w_app ?_
  | with_reducible refine w_setI ?_
  | with_reducible refine w_gNeD ?_
  | with_reducible refine w_gEqD ?_
  | with_reducible refine w_drop ?_
  | with_reducible refine w_gIB ?_
  | with_reducible refine w_gBools ?_
  | with_reducible refine w_and ?_
  | with_reducible refine w_isN ?_
  | with_reducible refine w_or ?_
  | with_reducible refine w_ixO ?_
  | with_reducible refine w_gI ?_
  | with_reducible refine w_gLenL ?_
  | with_reducible refine w_gTuple ?_
  | with_reducible refine w_gInts ?_
  | with_reducible refine w_un ?_
  | with_reducible refine w_if ?_
  | with_reducible refine w_chain ?_
  | ((with_reducible refine w_callS (ns := ?wd) ?wh ?wq); (case wh => exact rfl))
  | with_reducible refine w_sl ?_
  | with_reducible refine w_noPart ?_
  | with_reducible refine w_part ?_
  | with_reducible refine w_listRg ?_
  | with_reducible refine w_enumK ?_
  | with_reducible refine w_repF ?_
  | with_reducible refine w_gIC ?_
  | with_reducible refine w_gCat ?_
  | with_reducible refine w_gCatT ?_
  | with_reducible refine w_notN ?_
  | with_reducible refine w_listF ?_
  | with_reducible refine w_neg ?_
  | with_reducible refine w_not ?_
  | with_reducible refine w_tru ?_
  | with_reducible refine w_callL ?_
  | with_reducible refine w_consO ?_
  | with_reducible refine w_lenO ?_
  | with_reducible refine w_tupleO ?_
  | with_reducible refine w_listO ?_
  | with_reducible refine w_inO ?_
  | with_reducible refine w_truO ?_
  | with_reducible refine w_zipK ?_
  | with_reducible refine w_retN ?_
  | ((with_reducible refine w_aug (a := ?wd) ?wh ?wq); (case wh => exact rfl))
  | with_reducible refine w_gInL ?_
  | with_reducible refine w_gIntI ?_
  | with_reducible refine w_gRevL ?_
  | with_reducible refine w_gSlL ?_
  | with_reducible refine w_gSlT ?_
  | with_reducible refine w_itF ?_
  | with_reducible refine w_gList ?_
  | with_reducible refine w_gSortI ?_
  | with_reducible refine w_range2 ?_
  | ((with_reducible refine w_lcO (ds := ?wd) ?wh ?wq ?wr); (case wh => exact rfl); (case wq => exact rfl))
  | with_reducible refine w_aUnl rfl ?_
  | with_reducible refine w_brk ?_
  | with_reducible refine w_cnt ?_
  | with_reducible refine w_gIntB ?_
  | simp only [wipeS, backS, List.set_cons_zero, List.set_cons_succ, List.getElem?_cons_zero, List.getElem?_cons_succ, Option.join_some, Option.join_none, Bool.not_true, Bool.not_false]))
local macro_rules | `(tactic| walk_at "wv") => `(tactic| ((repeat (walk_at "wv1"; try dsimp only)); try simp only [List.set_cons_zero, List.set_cons_succ]))
local macro_rules | `(tactic| walk_at "st") => `(tactic| simp only [startS, List.map_cons, List.map_nil, List.length_cons, List.length_nil, Nat.reduceAdd, Nat.reduceSub, List.replicate_succ, List.replicate_zero, List.cons_append, List.nil_append])

section
open PySem L2
local macro_rules | `(tactic| walk_at "ev0") => `(tactic| simp only [okTo_bind, okTo_ok, okTo_noErr, okTo_when, R.bind_ok, seqF, vAsg, vVar, vC, vOp, vUn, vCall, vCons, vNil, vTup, vLst, vFr, vLstF, vTst, toB, toI, gI, gIC, gIB, gNeg, gInt, gLen, gEq, gNe, eqF, vAnd, vOr, vNot, tNotF, vYes, gTuple, gList, gRevL, wipeS, backS, okS, vIfS, vIf, vNext, vRet, vRetN, vDrop, vOwn, vFrz, frzS, aName, aTup, aCons, aNil, vFor, vScr, vRange1, vApp, ownD, vIxO, vSetI, gIxL, gIxT, vInO, vCallP, vCallB, vCallL, vConsO, vTupleO, vListO, vLenO, vLc, vLcO, vIter, vIterT, vEnumK, kdD, listD, tupleD, vListRg, vRepF, vAug, List.getElem?_cons_zero, List.getElem?_cons_succ, List.set_cons_zero, List.set_cons_succ, List.length_cons, List.length_nil, startS, List.map_cons, List.map_nil, List.replicate_succ, List.replicate_zero, List.cons_append, List.nil_append, denP, denB, denS, endP, endB, Nat.sub_self, Nat.reduceSub, Nat.reduceAdd, List.all_cons, List.all_nil, Bool.and_true, SV.mine, Bool.not_false, Option.join_some, true_and, and_true])
/-! ### lists of data, levels -/
/-- numbers 0 .. m - 1 with p, in order -/
def idx (m : Nat) (p : Nat → Bool) : List Nat := (List.range m).filter p
/-! ### choices on the way -/
theorem inD_int {l : List Int} {i : Int} : inD (.int i) (l.map PyData.int) = decide (i ∈ l) := by
  induction l with
  | nil => rfl
  | cons a l ih =>
    show (eqP (.int a) (.int i) || inD (.int i) (l.map PyData.int)) = _
    rw [ih]
    show (decide (a = i) || decide (i ∈ l)) = _
    by_cases e : a = i
    · simp [e]
    · have : ¬ i = a := fun z => e z.symm
      simp [e, this]
def EndsIn (m : Nat) (c : Cho) : Prop := c.2.length ≤ 1000 ∧ ∀ e ∈ c.2, 0 ≤ e.1 ∧ e.1 < (m : Int)
/-! ### one joins what is found -/

end
section
/-! ### rounds of finding, as the program makes them -/
open PySem L2
section
variable {n : Nat} {f g : Nat → Option Nat} {i j : Nat}
end
structure YOk (y : List (List Cho)) : Prop where
  len : y.length ≤ 20
  st : ∀ s ∈ y, s.length ≤ 1000
  cho : ∀ s ∈ y, ∀ c ∈ s, EndsIn y.length c
structure UOk (y : List (List Cho)) (U : List (List Nat)) : Prop where
  len : U.length = y.length
  lt : ∀ (i : Nat) s u, y[i]? = some s → U[i]? = some u → u.length ≤ 1000 ∧ ∀ x ∈ u, x < s.length
section
variable {y : List (List Cho)} {U : List (List Nat)} {lv : List (Option Nat)} {i k : Nat} {s : List Cho} {u : List Nat} {c : Cho}
end

end
section
/-! ### the four sets -/
open PySem L2
structure TOk (y : List (List Cho)) (tg : List Int) : Prop where
  mem : ∀ x ∈ tg, 0 ≤ x ∧ x < (y.length : Int)
  len : tg.length ≤ 1000

end
section
/-! ### attainable: choices are given up -/
open PySem L2
section
variable {lv : List (Option Nat)} {y : List (List Cho)} {U : List (List Nat)}
end

end
end Bo
/-! ### of lists and systems -/
namespace Bo
open PySem L2
theorem w_listF {fa : VE} {S : SS} {kA : List PyData × SS → Prop} (h : (fa S).okTo fun p => ∃ ds, itemsD p.1 = some ds ∧ kA (ds, p.2)) : (vListF fa S).okTo kA := by
  unfold vListF
  rw [okTo_bind]
  refine h.mono fun p ⟨ds, e, q⟩ => ?_
  rw [e]
  exact q
end Bo

/-! ### walking texts; walking defs that raise -/
namespace Bo
open PySem L2
section
variable {S : SS} {fa fb : VE} {fr : VA} {fs fs' : VS} {ft : VT} {kE : PyData × SS → Prop} {kD : PyData → Prop} {kS : FL → Prop} {kA : List PyData × SS → Prop} {i m : Nat} {ds : List PyData}
theorem w_toS {b : Str} {k : Str → Prop} (q : k b) : (toS (.str b)).okTo k := q
theorem w_m0 {g : Str → R PyData} (h : (fa S).okTo fun p => (toS p.1).okTo fun a => (g a).okTo fun z => kE (z, p.2)) : (vM0 g fa S).okTo kE := by
  unfold vM0
  simp only [okTo_bind]
  exact h
theorem w_m1 {g : Str → Str → R PyData} (h : (fa S).okTo fun p => (toS p.1).okTo fun a => (fb p.2).okTo fun q => (toS q.1).okTo fun b => (g a b).okTo fun z => kE (z, q.2)) : (vM1 g fa fb S).okTo kE := by
  unfold vM1
  simp only [okTo_bind]
  exact h
theorem w_gIsdigit {a : Str} (q : kD (.bool (Txt.isdigit a))) : (gIsdigit a).okTo kD := q
theorem w_gIsascii {a : Str} (q : kD (.bool (Txt.isascii a))) : (gIsascii a).okTo kD := q
theorem w_gRemoveprefix {a b : Str} (q : a.length ≤ 100000 ∧ kD (.str (Txt.removeprefix a b))) : (gRemoveprefix a b).okTo kD := okTo_when.mpr q
theorem w_gPartition {a b : Str} (q : ((b.length == 0) = false ∧ a.length ≤ 100000) ∧ kD (.tuple [.str (Txt.partition a b).1, .str (Txt.partition a b).2.1, .str (Txt.partition a b).2.2])) : (gPartition a b).okTo kD := okTo_when.mpr q
theorem w_gSplit {a b : Str} (q : ((b.length == 0) = false ∧ a.length ≤ 100000) ∧ kD (.list ((Txt.split a b).map PyData.str))) : (gSplit a b).okTo kD := okTo_when.mpr q
theorem w_join (h : (fa S).okTo fun p => (toS p.1).okTo fun a => (fb p.2).okTo fun q => ∃ ds, itemsD q.1 = some ds ∧ (joinD a ds).okTo fun z => kE (z, q.2)) : (vJoin fa fb S).okTo kE := by
  unfold vJoin
  simp only [okTo_bind]
  refine h.mono fun p h1 => h1.mono fun a h2 => h2.mono fun q ⟨ds, e, h3⟩ => ?_
  rw [e]
  exact okTo_bind.mpr h3
theorem w_joinO (h : (fa S).okTo fun p => (toS p.1).okTo fun a => (ownD p.2 i).okTo fun ds => (joinD a ds).okTo fun z => kE (z, p.2)) : (vJoinO fa i S).okTo kE := by
  unfold vJoinO
  simp only [okTo_bind]
  exact h
theorem w_joinR (h : (fa S).okTo fun p => (toS p.1).okTo fun a => (ownD p.2 i).okTo fun ds => ∃ ys : List Str, ds = ys.map PyData.str ∧ (ys.map (·.length)).sum + ys.length * a.length ≤ 100000 ∧ kE (.str (Txt.join a ys.reverse), p.2)) : (vJoinR fa i S).okTo kE := by
  unfold vJoinR
  simp only [okTo_bind]
  refine h.mono fun p h1 => h1.mono fun a h2 => h2.mono fun ds ⟨ys, e, h3⟩ => ?_
  subst e
  rw [strs_map]
  exact okTo_when.mpr h3
theorem w_gInS {neg : Bool} {c : Nat} {z : Str} (q : kD (.bool (if neg then !decide (c ∈ z.cps.toList) else decide (c ∈ z.cps.toList)))) : (gInS neg (.str ⟨#[c]⟩) (.str z)).okTo kD := q
theorem w_gIxS {z : Str} {j : Int} (q : z.length ≤ 100000 ∧ ∃ c, atI z.cps.toList j = some c ∧ kD (.str ⟨#[c]⟩)) : (gIxS (.str z) (.int j)).okTo kD := by
  obtain ⟨h1, c, h2, h3⟩ := q
  refine okTo_when.mpr ⟨h1, ?_⟩
  rw [h2]
  exact h3
theorem w_gSlS {z : Str} {lo hi : Option Int} (q : z.length ≤ 100000 ∧ kD (.str (cutS z lo hi))) : (gSlS (.str z) lo hi).okTo kD := okTo_when.mpr q
theorem w_gIntS {a : Str} (q : ∃ n, PySem.intText? a = some n ∧ a.length ≤ 640 ∧ kD (.int n)) : (gIntS [.str a]).okTo kD := by
  obtain ⟨n, h1, h2⟩ := q
  unfold gIntS
  simp only
  rw [h1]
  exact okTo_when.mpr h2
theorem w_iterS (h : (fa S).okTo fun p => (toS p.1).okTo fun x => kA (signsD x, p.2)) : (vIterS fa S).okTo kA := by
  unfold vIterS
  simp only [okTo_bind]
  exact h
theorem w_gRepS {x : Str} {j : Int} (q : (2 ≤ j ∧ j ≤ 1000 ∧ x.length = 1) ∧ kD (.str (repS x j.toNat))) : (gRepS (.str x) (.int j)).okTo kD := okTo_when.mpr q
theorem w_gCatS {x y : Str} (q : x.length + y.length ≤ 100000 ∧ kD (.str (x ++ y))) : (gCatS (.str x) (.str y)).okTo kD := okTo_when.mpr q
theorem w_gLenS {x : Str} (q : x.length ≤ 100000 ∧ kD (.int x.length)) : (gLenS [.str x]).okTo kD := okTo_when.mpr q
theorem w_gStrI {j : Int} (q : j.natAbs < 2 ^ 1900 ∧ kD (.str (toString j))) : (gStrI [.int j]).okTo kD := okTo_when.mpr q
theorem w_fmt (h : (fa S).okTo fun p => (toFmt p.1).okTo fun y => kE (.str y, p.2)) : (vFmt fa S).okTo kE := by
  unfold vFmt
  simp only [okTo_bind]
  exact h
theorem w_toFmtS {y : Str} {k : Str → Prop} (q : y.length ≤ 100000 ∧ k y) : (toFmt (.str y)).okTo k := okTo_when.mpr q
theorem w_toFmtI {j : Int} {k : Str → Prop} (q : j.natAbs < 2 ^ 1900 ∧ k (toString j)) : (toFmt (.int j)).okTo k := okTo_when.mpr q
theorem w_joined {gs : List VE} (h : (vJs gs Str.empty S).okTo fun p => kE (.str p.1, p.2)) : (vJoined gs S).okTo kE := by
  unfold vJoined
  simp only [okTo_bind]
  exact h
theorem w_jsNil {acc : Str} {k : Str × SS → Prop} (q : k (acc, S)) : (vJs [] acc S).okTo k := q
theorem w_jsCons {f : VE} {gs : List VE} {acc : Str} {k : Str × SS → Prop} (h : (f S).okTo fun p => (toS p.1).okTo fun y => (acc ++ y).length ≤ 100000 ∧ (vJs gs (acc ++ y) p.2).okTo k) : (vJs (f :: gs) acc S).okTo k := by
  unfold vJs
  simp only [okTo_bind, okTo_when]
  exact h
theorem w_gMin2 {a b : Int} (q : kD (.int (if b < a then b else a))) : (gMin2 [.int a, .int b]).okTo kD := q
theorem w_gEqS {a b : Str} (q : kD (.bool (decide (a = b)))) : (gEq (.str a) (.str b)).okTo kD := q
theorem w_gNeS {a b : Str} (q : kD (.bool (!decide (a = b)))) : (gNe (.str a) (.str b)).okTo kD := q
/-! defs that raise -/
theorem endsBind {α β : Type} {x : R α} {f : α → R β} {k : β → Prop} {ke : Exc → Prop} : (x.bind f).ends k ke ↔ x.ends (fun a => (f a).ends k ke) ke := by
  cases x <;> exact Iff.rfl
theorem endsOk {α : Type} {x : R α} {k : α → Prop} {ke : Exc → Prop} (h : x.okTo k) : x.ends k ke := by
  cases x with
  | ok a => exact h
  | err e => exact h.elim
  | bad => exact h.elim
theorem endsWhen {α : Type} {c : Prop} [Decidable c] {x : R α} {k : α → Prop} {ke : Exc → Prop} (h : c ∧ x.ends k ke) : (R.when c x).ends k ke := by
  rw [R.when_pos h.1]
  exact h.2
variable {ke : Exc → Prop}
theorem e_seq (h : (fs S).ends (fun fl => match fl with
    | .nx S1 => (fs' S1).ends kS ke
    | f => kS f) ke) : (vSeq fs fs' S).ends kS ke := by
  unfold vSeq
  refine endsBind.mpr (h.mono (fun fl q => ?_) fun _ z => z)
  cases fl <;> exact q
theorem e_ifS (h : (ft S).okTo fun p => if p.1 = true then (fs p.2).ends kS ke else (fs' p.2).ends kS ke) : (vIfS ft fs fs' S).ends kS ke := by
  unfold vIfS
  refine endsBind.mpr (endsOk (h.mono fun p q => ?_))
  split at q
  · rename_i c
    rw [if_pos c]
    exact q
  · rename_i c
    rw [if_neg c]
    exact q
theorem e_raise0 {cls : String} (h : (fr S).okTo fun p => p.1.length ≤ 100000 ∧ ke ⟨cls, none⟩) : (vRaise0 cls fr S).ends kS ke := by
  unfold vRaise0
  exact endsBind.mpr (endsOk (h.mono fun p q => endsWhen (x := .err _) ⟨q.1, q.2⟩))
theorem e_denP {N : Nat} (h : (fs (startS N ds)).ends (fun fl => match fl with
    | .nx _ => kD .none
    | .rt d _ => kD d
    | _ => False) ke) : (denP N fs ds).ends kD ke := by
  unfold denP endP
  refine endsBind.mpr (h.mono (fun fl q => ?_) fun _ z => z)
  cases fl <;> exact q
end
end Bo

/-! ### an item of a list or a tuple -/
namespace Bo
open PySem L2
section
variable {K : PySem.W.Frag} {n : Nat} {C : Ct K n} {σ : L2.St} {H B : Hp} {S : SS}
def gIxQ : PyData → PyData → R PyData
  | .list ds, .int i => ixD ds i
  | .tuple ds, .int i => ixD ds i
  | _, _ => .bad
theorem w_gIxQL {ds : List PyData} {a : Int} {kD : PyData → Prop} (q : (ixD ds a).okTo kD) : (gIxQ (.list ds) (.int a)).okTo kD := q
theorem w_gIxQT {ds : List PyData} {a : Int} {kD : PyData → Prop} (q : (ixD ds a).okTo kD) : (gIxQ (.tuple ds) (.int a)).okTo kD := q
/-- the items of a list or a tuple of a policy -/
def IsPol (pd : PyData) (pol : List Int) : Prop := pd = .list (pol.map .int) ∨ pd = .tuple (pol.map .int)
theorem IsPol.ix {pd : PyData} {pol : List Int} (h : IsPol pd pol) {a : Int} : gIxQ pd (.int a) = ixD (pol.map .int) a := by
  rcases h with rfl | rfl <;> rfl
/-- a list or a tuple of these -/
def IsSeq (d : PyData) (ds : List PyData) : Prop := d = .list ds ∨ d = .tuple ds
theorem IsSeq.ix {d : PyData} {ds : List PyData} (h : IsSeq d ds) {a : Int} : gIxQ d (.int a) = ixD ds a := by
  rcases h with rfl | rfl <;> rfl
end
end Bo

/-! ### more rules: [*xs, y], reversed(xs) -/
namespace Bo
open PySem L2
section
variable {K : PySem.W.Frag} {n : Nat} {C : Ct K n} {B : Hp}
def smallI (i j : Int) : Prop := i.natAbs < 2 ^ 6000 ∧ j.natAbs < 2 ^ 6000
instance {i j : Int} : Decidable (smallI i j) := inferInstanceAs (Decidable (_ ∧ _))
open PySem.W in
/-! isinstance(x, T), T a built-in class -/
def kindN : PyData → Option String
  | .bool _ => some "bool"
  | .int _ => some "int"
  | .str _ => some "str"
  | .list _ => some "list"
  | .tuple _ => some "tuple"
  | .none => some "NoneType"
  | _ => none
theorem tyx_da {v : V} {d : PyData} {a : String} {H : Hp} (h : Da K B v d) (e : Same B H) (q : kindN d = some a) : TyX K H v (.type a) := by
  cases h with
  | non => cases q; exact .base .non
  | bl b => cases q; exact .base (.bl b)
  | int i => cases q; exact .base (.int i)
  | str x => cases q; exact .base (.str x)
  | lst s _ => cases q; exact tyx_l (SqL.of (e _ _ s))
  | tup s _ => cases q; exact tyx_t (sm_t e s)
def vIsi (c : String) (fa : VE) : VE := fun S => (fa S).bind fun p => match (kindN p.1).bind fun a => kitB a c with
  | some b => .ok (.bool b, p.2)
  | none => .bad
theorem s_isi {c : String} {ta : TE} {fa : VE} (ha : SE C ta fa) : SE C (tCB (rIsi K) (tCons ta (tCons (tC (.ty c)) tNil))) (vIsi c fa) := by
  intro σ H B S Q R h
  unfold vIsi at h
  rw [post_bind] at h
  refine ha σ H B S _ R (h.mono fun p h1 v H1 B1 R1 e1 d1 => ?_)
  split at h1
  · rename_i b q
    obtain ⟨a, k, kb⟩ := Option.bind_eq_some_iff.mp q
    exact r_isi b (tyx_da d1 R1.base.bh k) kb (h1 _ H1 B1 R1 e1 (.bl b))
  · exact h1.elim
end
end Bo

/-! ### more rules: xs.index(x) -/
namespace Bo
open PySem L2
section
variable {K : PySem.W.Frag} {n : Nat} {C : Ct K n} {B : Hp}
def fiD (d : PyData) : List PyData → Option Nat
  | [] => none
  | e :: ds => if eqP e d = true then some 0 else (fiD d ds).map (· + 1)
def gIndex : PyData → PyData → R PyData
  | .list ds, d => R.when (flatD d = true ∧ ds.all flatD = true) (match fiD d ds with
    | some j => .ok (.int (j : Nat))
    | none => .bad)
  | _, _ => .bad
theorem fi_v {y : V} {d : PyData} (h : Da K B y d) (f : flatD d = true) : ∀ {xs : List V} {ds : List PyData} {j : Nat}, DaAll K B xs ds → ds.all flatD = true → fiD d ds = some j → (∃ z, xs[j]? = some z ∧ eqV z y = true) ∧ ∀ (m : Nat) (z' : V), m < j → xs[m]? = some z' → eqV z' y = false
  | _, _, j, .nil, _, e => nomatch e
  | x :: xs, e :: ds, j, .cons g t, q, w => by
    rw [List.all_cons, Bool.and_eq_true] at q
    have ev := eq_v g h q.1 f
    unfold fiD at w
    by_cases c : eqP e d = true
    · rw [if_pos c] at w
      cases w
      exact ⟨⟨x, rfl, by rw [ev, c]⟩, fun m z hm => absurd hm (Nat.not_lt_zero m)⟩
    · rw [if_neg c] at w
      obtain ⟨j', e', rfl⟩ := Option.map_eq_some_iff.mp w
      obtain ⟨⟨z, z1, z2⟩, z3⟩ := fi_v h f t q.2 e'
      refine ⟨⟨z, z1, z2⟩, fun m z' hm hz => ?_⟩
      cases m with
      | zero =>
        cases hz
        rw [ev]
        simpa using c
      | succ m => exact z3 m z' (by omega) hz
def vIndex (fa fb : VE) : VE := fun S => (fa S).bind fun p => match p.1 with
  | .list ds => (fb p.2).bind fun q => (gIndex (.list ds) q.1).bind fun z => .ok (z, q.2)
  | _ => .bad
theorem s_index {ta tb : TE} {fa fb : VE} (ha : SE C ta fa) (hb : SE C tb fb) : SE C (tBM K "list" (rIndex K) ta (tCons tb tNil)) (vIndex fa fb) := by
  intro σ H B S Q R h
  unfold vIndex at h
  rw [post_bind] at h
  refine ha σ H B S _ R (h.mono fun p h1 v H1 B1 R1 e1 d1 => ?_)
  obtain ⟨dd, S1⟩ := p
  dsimp only at d1 h1 R1
  split at h1
  · rename_i ds
    cases d1 with
    | lst s a =>
    rename_i ad xs
    refine ⟨.inl ⟨rfl, _, SqL.of (R1.base.bh _ _ s)⟩, ?_⟩
    rw [post_bind] at h1
    refine hb σ H1 B1 S1 _ R1 (h1.mono fun q h2 w H2 B2 R2 e2 d2 => ?_)
    rw [post_bind] at h2
    obtain ⟨k, h2⟩ := post_when.mp h2
    split at h2
    · rename_i j fj
      obtain ⟨⟨z, z1, z2⟩, z3⟩ := fi_v d2 k.1 (daa_mono e2 a) k.2 fj
      exact ⟨_, xs, w, j, z, rfl, rfl, SqL.of (R2.base.bh _ _ (e2 _ _ s)), flat_v d2 k.1, flats_v (daa_mono e2 a) k.2, z1, z2, z3, h2 _ H2 B2 R2 (e1.trans e2) (.int _)⟩
    · exact h2.elim
  · exact h1.elim
/-! dict(xs), xs a list of pairs; d.get(k, x) -/
def valD (kvs : List (Key × PyData)) (k : Key) : Option PyData := (kvs.find? fun kv => decide (kv.1 = k)).map (·.2)
theorem dpks_val {k : Key} : ∀ {ws : List (Key × V)} {kvs : List (Key × PyData)}, DpKs K B ws kvs → (valV ws k = none ∧ valD kvs k = none) ∨ ∃ v d, valV ws k = some v ∧ valD kvs k = some d ∧ Da K B v d
  | _, _, .nil => .inl ⟨rfl, rfl⟩
  | w :: ws, kv :: kvs, .cons a t => by
    by_cases e : kv.1 = k
    · exact .inr ⟨w.2, kv.2, valV_pos (by rw [a.1, e]), by simp [valD, List.find?_cons, e], a.2⟩
    · have e' : ¬ w.1 = k := by rw [a.1]; exact e
      have ev : valD (kv :: kvs) k = valD kvs k := by simp [valD, List.find?_cons, e]
      rw [valV_neg e', ev]
      exact dpks_val t
def vGet2 (i : Nat) (fk fx : VE) : VE := fun S => (dicD S i).bind fun _ => (fk S).bind fun p => (keyD p.1).bind fun y => (fx p.2).bind fun q => (dicD q.2 i).bind fun kvs => .ok ((valD kvs y).getD q.1, q.2)
theorem s_get2 {i : Nat} {tk tx : TE} {fk fx : VE} (hk : SE C tk fk) (hx : SE C tx fx) : SE C (tDGet2 (tVar i) tk tx) (vGet2 i fk fx) := by
  intro σ H B S Q R h
  obtain ⟨ds0, a0, vs0, q1, q2, q3, q4, h⟩ := dic_of R (post_bind.mp h)
  refine ⟨_, q2, a0, rfl, .inl ⟨_, .inl q3⟩, ?_⟩
  replace h := post_bind.mp h
  refine hk σ H B S _ R (h.mono fun p h1 v H1 B1 R1 e1 d1 => ?_)
  obtain ⟨y, rfl, _, h1⟩ := key_of d1 (post_bind.mp h1)
  replace h1 := post_bind.mp h1
  refine hx σ H1 B1 p.2 _ R1 (h1.mono fun q h2 w H2 B2 R2 e2 d2 => ?_)
  obtain ⟨kvs, a, ws, p1, p2, p3, p4, h2⟩ := dic_of R2 (post_bind.mp h2)
  rw [q2] at p2
  cases p2
  refine ⟨_, DGet.k p3, ?_⟩
  rcases dpks_val (k := y) p4 with ⟨z1, z2⟩ | ⟨v', d', z1, z2, z3⟩
  · rw [z1]
    rw [z2] at h2
    exact h2 _ H2 B2 R2 (e1.trans e2) d2
  · rw [z1]
    rw [z2] at h2
    exact h2 _ H2 B2 R2 (e1.trans e2) z3
end
end Bo

/-! ### determinants by their first column, and what the elimination without rests needs of them -/
namespace Bo
abbrev Row := Nat → Rat
/-- the signed sum over the rows: the number of the row at c, times what f says of the others -/
def wlk (f : List Row → Rat) (c : Nat) : List Row → List Row → Rat
  | _, [] => 0
  | p, r :: q => r c * f (p ++ q) - wlk f c (p ++ [r]) q
def lap : List Nat → List Row → Rat
  | [], _ => 1
  | c :: cs, rs => wlk (lap cs) c [] rs
def rAdd (x y : Row) (a : Rat) : Row := fun j => x j + a * y j
/-- f of n rows is linear in each -/
def Lin (n : Nat) (f : List Row → Rat) : Prop := ∀ p q x y a, p.length + q.length + 1 = n → f (p ++ rAdd x y a :: q) = f (p ++ x :: q) + a * f (p ++ y :: q)
theorem wlk_left {f : List Row → Rat} {n c : Nat} {x y : Row} {a : Rat} (h : Lin n f) : ∀ (q p s : List Row), p.length + s.length + q.length = n → wlk f c (p ++ rAdd x y a :: s) q = wlk f c (p ++ x :: s) q + a * wlk f c (p ++ y :: s) q
  | [], p, s, _ => by simp only [wlk]; grind
  | r :: q, p, s, hn => by
    have hn' : p.length + s.length + (q.length + 1) = n := hn
    have ih := wlk_left (c := c) (x := x) (y := y) (a := a) h q p (s ++ [r]) (by rw [List.length_append, List.length_singleton]; omega)
    have e := h p (s ++ q) x y a (by rw [List.length_append]; omega)
    simp only [wlk, List.append_assoc, List.cons_append, List.singleton_append, List.nil_append] at ih e ⊢
    rw [ih, e]
    grind
theorem wlk_lin {f : List Row → Rat} {n c : Nat} {x y : Row} {a : Rat} (h : Lin n f) : ∀ (p s q : List Row), s.length + p.length + q.length = n → wlk f c s (p ++ rAdd x y a :: q) = wlk f c s (p ++ x :: q) + a * wlk f c s (p ++ y :: q)
  | [], s, q, hn => by
    have hn' : s.length + 0 + q.length = n := hn
    have e := wlk_left (c := c) (x := x) (y := y) (a := a) h q s [] (by rw [List.length_nil]; omega)
    simp only [wlk, List.nil_append]
    rw [e]
    simp only [rAdd]
    grind
  | r :: p, s, q, hn => by
    have hn' : s.length + (p.length + 1) + q.length = n := hn
    have ih := wlk_lin (c := c) (x := x) (y := y) (a := a) h p (s ++ [r]) q (by rw [List.length_append, List.length_singleton]; omega)
    have e := h (s ++ p) q x y a (by rw [List.length_append]; omega)
    simp only [wlk, List.cons_append, List.append_assoc] at ih e ⊢
    rw [ih, e]
    grind
theorem lap_lin : ∀ cs : List Nat, Lin cs.length (lap cs)
  | [] => fun p q x y a h => by simp only [List.length_nil] at h; omega
  | c :: cs => fun p q x y a h => wlk_lin (lap_lin cs) p [] q (by simp only [List.length_cons, List.length_nil] at h ⊢; omega)
/-- f of n rows is 0 where two neighbours are the same -/
def Alt (n : Nat) (f : List Row → Rat) : Prop := ∀ p q x, p.length + q.length + 2 = n → f (p ++ x :: x :: q) = 0
theorem wlk_pair {f : List Row → Rat} {n c : Nat} {x : Row} (h : Alt n f) : ∀ (q p s : List Row), p.length + s.length + q.length + 1 = n → wlk f c (p ++ x :: x :: s) q = 0
  | [], p, s, _ => rfl
  | r :: q, p, s, hn => by
    have hn' : p.length + s.length + (q.length + 1) + 1 = n := hn
    have ih := wlk_pair (c := c) (x := x) h q p (s ++ [r]) (by rw [List.length_append, List.length_singleton]; omega)
    have e := h p (s ++ q) x (by rw [List.length_append]; omega)
    simp only [wlk, List.append_assoc, List.cons_append, List.singleton_append, List.nil_append] at ih e ⊢
    rw [ih, e]
    grind
theorem wlk_alt {f : List Row → Rat} {n c : Nat} {x : Row} (h : Alt n f) : ∀ (p s q : List Row), s.length + p.length + q.length + 1 = n → wlk f c s (p ++ x :: x :: q) = 0
  | [], s, q, hn => by
    have hn' : s.length + 0 + q.length + 1 = n := hn
    have e := wlk_pair (c := c) (x := x) h q s [] (by rw [List.length_nil]; omega)
    simp only [wlk, List.nil_append, List.append_assoc, List.cons_append] at e ⊢
    rw [e]
    grind
  | r :: p, s, q, hn => by
    have hn' : s.length + (p.length + 1) + q.length + 1 = n := hn
    have ih := wlk_alt (c := c) (x := x) h p (s ++ [r]) q (by rw [List.length_append, List.length_singleton]; omega)
    have e := h (s ++ p) q x (by rw [List.length_append]; omega)
    simp only [wlk, List.cons_append, List.append_assoc] at ih e ⊢
    rw [ih, e]
    grind
theorem lap_alt : ∀ cs : List Nat, Alt cs.length (lap cs)
  | [] => fun p q x h => by simp only [List.length_nil] at h; omega
  | [c] => fun p q x h => by
    simp only [List.length_cons, List.length_nil] at h
    obtain rfl : p = [] := List.length_eq_zero_iff.mp (by omega)
    obtain rfl : q = [] := List.length_eq_zero_iff.mp (by omega)
    simp [lap, wlk]
    grind
  | c :: d :: cs => fun p q x h => wlk_alt (lap_alt (d :: cs)) p [] q (by simp only [List.length_cons, List.length_nil] at h ⊢; omega)
/-- neighbours changed round -/
theorem swap_ {n : Nat} {f : List Row → Rat} (l : Lin n f) (h : Alt n f) (p q : List Row) (x y : Row) (hn : p.length + q.length + 2 = n) : f (p ++ x :: y :: q) = - f (p ++ y :: x :: q) := by
  have e0 := h p q (rAdd x y 1) hn
  have e1 := l p (rAdd x y 1 :: q) x y 1 (by rw [List.length_cons]; omega)
  have e2 := l (p ++ [x]) q x y 1 (by rw [List.length_append, List.length_singleton]; omega)
  have e3 := l (p ++ [y]) q x y 1 (by rw [List.length_append, List.length_singleton]; omega)
  have e4 := h p q x hn
  have e5 := h p q y hn
  simp only [List.append_assoc, List.singleton_append, List.cons_append, List.nil_append] at e2 e3
  grind
/-- the same row at two places -/
theorem twice_ {n : Nat} {f : List Row → Rat} (l : Lin n f) (h : Alt n f) (x : Row) : ∀ (m p q : List Row), p.length + m.length + q.length + 2 = n → f (p ++ x :: (m ++ x :: q)) = 0
  | [], p, q, hn => h p q x (by rw [List.length_nil] at hn; omega)
  | y :: m, p, q, hn => by
    have hn' : p.length + (m.length + 1) + q.length + 2 = n := hn
    have e := swap_ l h p (m ++ x :: q) x y (by rw [List.length_append, List.length_cons]; omega)
    have ih := twice_ l h x m (p ++ [y]) q (by rw [List.length_append, List.length_singleton]; omega)
    simp only [List.append_assoc, List.singleton_append, List.cons_append, List.nil_append] at ih e ⊢
    rw [e, ih]
    grind
/-- what rows of rs add up to -/
inductive Spn (rs : List Row) : Row → Prop where
  | zero : Spn rs fun _ => 0
  | add {z r : Row} (a : Rat) : r ∈ rs → Spn rs z → Spn rs (rAdd z r a)
theorem Lin.nil_ {n : Nat} {f : List Row → Rat} (l : Lin n f) {p : List Row} (hn : p.length + 1 = n) : f (p ++ [fun _ => 0]) = 0 := by
  have e := l p [] (fun _ => 0) (fun _ => 0) 1 (by rw [List.length_nil]; omega)
  have z : rAdd (fun _ => 0) (fun _ => 0) 1 = fun _ => (0 : Rat) := by
    funext j
    simp only [rAdd]
    grind
  rw [z] at e
  grind
/-- a last row that is made of the others -/
theorem sp_zero {n : Nat} {f : List Row → Rat} (l : Lin n f) (h : Alt n f) {rs : List Row} {z : Row} (hn : rs.length + 1 = n) (s : Spn rs z) : f (rs ++ [z]) = 0 := by
  induction s with
  | zero => exact l.nil_ hn
  | @add z r a hr _ ih =>
    rw [l rs [] _ _ a (by rw [List.length_nil]; omega), ih]
    obtain ⟨p, q, rfl⟩ := List.append_of_mem hr
    have e := twice_ l h r q p [] (by rw [List.length_append, List.length_cons] at hn; rw [List.length_nil]; omega)
    rw [List.append_assoc, List.cons_append, e]
    grind
/-- made of rs, told of the last row: it may be taken off -/
theorem sp_off {n : Nat} {f : List Row → Rat} (l : Lin n f) (h : Alt n f) {rs : List Row} {x z : Row} (hn : rs.length + 1 = n) (s : Spn rs z) : f (rs ++ [rAdd x z 1]) = f (rs ++ [x]) := by
  rw [l rs [] x z 1 (by rw [List.length_nil]; omega), sp_zero l h hn s]
  grind
/-- a last row that is 0 in all but the last column -/
theorem wlk_last {f g : List Row → Rat} {c : Nat} {y : Row} {v : Rat} (h0 : y c = 0) : ∀ (q s : List Row), (∀ p, p.length + 1 = s.length + q.length → f (p ++ [y]) = g p * v) → wlk f c s (q ++ [y]) = wlk g c s q * v
  | [], s, _ => by
    simp only [wlk, List.nil_append, h0]
    grind
  | r :: q, s, h => by
    have ih := wlk_last (f := f) (g := g) (v := v) h0 q (s ++ [r]) fun p hp => h p (by rw [List.length_append, List.length_singleton] at hp; rw [List.length_cons]; omega)
    have e := h (s ++ q) (by rw [List.length_append, List.length_cons]; omega)
    simp only [wlk, List.cons_append, List.append_assoc] at ih e ⊢
    rw [ih, e]
    grind
theorem lap_last {j : Nat} {y : Row} : ∀ (cs : List Nat) (rs : List Row), rs.length = cs.length → (∀ c ∈ cs, y c = 0) → lap (cs ++ [j]) (rs ++ [y]) = lap cs rs * y j
  | [], rs, hl, _ => by
    obtain rfl := List.length_eq_zero_iff.mp hl
    simp only [lap, List.nil_append, wlk]
    grind
  | c :: cs, rs, hl, h => by
    show wlk (lap (cs ++ [j])) c [] (rs ++ [y]) = wlk (lap cs) c [] rs * y j
    refine wlk_last (h c List.mem_cons_self) rs [] fun p hp => lap_last cs p (by rw [List.length_cons] at hl; rw [List.length_nil] at hp; omega) fun d hd => h d (List.mem_cons_of_mem c hd)
/-- x, cleared of the columns cs by rs -/
structure Clr (cs : List Nat) (rs : List Row) (x y : Row) : Prop where
  sp : ∃ z, Spn rs z ∧ x = rAdd y z 1
  out : ∀ c ∈ cs, y c = 0
theorem Clr.val {cs : List Nat} {rs : List Row} {x y : Row} (k : Clr cs rs x y) (hl : rs.length = cs.length) (j : Nat) : lap (cs ++ [j]) (rs ++ [x]) = lap cs rs * y j := by
  obtain ⟨z, s, rfl⟩ := k.sp
  have n1 : rs.length + 1 = (cs ++ [j]).length := by rw [List.length_append, List.length_singleton, hl]
  rw [sp_off (lap_lin _) (lap_alt _) n1 s]
  exact lap_last cs rs hl k.out
theorem Spn.more {rs : List Row} {r z : Row} (s : Spn rs z) : Spn (rs ++ [r]) z := by
  induction s with
  | zero => exact .zero
  | add a h _ ih => exact .add a (List.mem_append_left _ h) ih
theorem Spn.plus {rs : List Row} {w z : Row} (a : Rat) (s : Spn rs w) (t : Spn rs z) : Spn rs (rAdd w z a) := by
  induction t with
  | zero =>
    have e : rAdd w (fun _ => 0) a = w := by
      funext j
      simp only [rAdd]
      grind
    rw [e]
    exact s
  | @add z r b h _ ih =>
    have e : rAdd w (rAdd z r b) a = rAdd (rAdd w z a) r (a * b) := by
      funext j
      simp only [rAdd]
      grind
    rw [e]
    exact .add _ h ih
/-- one more column cleared -/
theorem Clr.step {cs : List Nat} {rs : List Row} {x y r s : Row} {c : Nat} (k : Clr cs rs x y) (p : Clr cs rs r s) (h : s c ≠ 0) : Clr (cs ++ [c]) (rs ++ [r]) x (rAdd y s (-(y c / s c))) := by
  obtain ⟨⟨z, hz, ex⟩, hy⟩ := k
  obtain ⟨⟨w, hw, er⟩, hs⟩ := p
  refine ⟨⟨rAdd (rAdd z w (-(y c / s c))) r (y c / s c), .add _ (List.mem_append_right _ List.mem_cons_self) (.plus _ hz.more hw.more), ?_⟩, fun d hd => ?_⟩
  · funext j
    rw [ex, er]
    simp only [rAdd]
    grind
  · rcases List.mem_append.mp hd with q | q
    · simp only [rAdd, hy d q, hs d q]
      grind
    · obtain rfl := List.mem_singleton.mp q
      simp only [rAdd]
      grind
/-! whole numbers -/
abbrev RowZ := Nat → Int
def wlkZ (f : List RowZ → Int) (c : Nat) : List RowZ → List RowZ → Int
  | _, [] => 0
  | p, r :: q => r c * f (p ++ q) - wlkZ f c (p ++ [r]) q
def lapZ : List Nat → List RowZ → Int
  | [], _ => 1
  | c :: cs, rs => wlkZ (lapZ cs) c [] rs
def rQ (r : RowZ) : Row := fun j => (r j : Rat)
theorem wlkZ_cast {f : List RowZ → Int} {g : List Row → Rat} {c : Nat} (h : ∀ rs, g (rs.map rQ) = (f rs : Rat)) : ∀ (q p : List RowZ), wlk g c (p.map rQ) (q.map rQ) = (wlkZ f c p q : Rat)
  | [], p => rfl
  | r :: q, p => by
    have ih := wlkZ_cast (c := c) h q (p ++ [r])
    have e := h (p ++ q)
    simp only [List.map_append, List.map_cons, List.map_nil] at ih e
    show rQ r c * g (p.map rQ ++ q.map rQ) - wlk g c (p.map rQ ++ [rQ r]) (q.map rQ) = _
    rw [e, ih]
    simp only [wlkZ, rQ]
    rw [Rat.intCast_sub, Rat.intCast_mul]
theorem lapZ_cast : ∀ (cs : List Nat) (rs : List RowZ), lap cs (rs.map rQ) = (lapZ cs rs : Rat)
  | [], _ => rfl
  | c :: cs, rs => wlkZ_cast (lapZ_cast cs) rs []
end Bo

/-! ### what the elimination finds: pivots, solutions, that nothing rests -/
namespace Bo
/-- a sum over columns -/
def sm (u : Nat → Rat) (r : Row) : List Nat → Rat
  | [] => 0
  | c :: cs => u c * r c + sm u r cs
theorem sm_add {u : Nat → Rat} {x y : Row} {a : Rat} : ∀ cs : List Nat, sm u (rAdd x y a) cs = sm u x cs + a * sm u y cs
  | [] => by simp only [sm]; grind
  | c :: cs => by
    simp only [sm, sm_add cs, rAdd]
    grind
theorem sm_app {u : Nat → Rat} {x : Row} : ∀ cs ds : List Nat, sm u x (cs ++ ds) = sm u x cs + sm u x ds
  | [], ds => by simp only [sm, List.nil_append]; grind
  | c :: cs, ds => by
    simp only [sm, List.cons_append, sm_app cs ds]
    grind
theorem sm_zero {u : Nat → Rat} {x : Row} : ∀ cs : List Nat, (∀ c ∈ cs, x c = 0) → sm u x cs = 0
  | [], _ => rfl
  | c :: cs, h => by
    simp only [sm, h c List.mem_cons_self, sm_zero cs fun d hd => h d (List.mem_cons_of_mem c hd)]
    grind
theorem sm_mix {u v w : Nat → Rat} {t : Rat} {x : Row} : ∀ cs : List Nat, (∀ c ∈ cs, w c = u c - t * v c) → sm w x cs = sm u x cs - t * sm v x cs
  | [], _ => by simp only [sm]; grind
  | c :: cs, h => by
    simp only [sm, h c List.mem_cons_self, sm_mix (x := x) cs fun d hd => h d (List.mem_cons_of_mem c hd)]
    grind
/-- the number at j is what u makes of those at cs -/
def Is (cs : List Nat) (u : Nat → Rat) (j : Nat) (x : Row) : Prop := x j = sm u x cs
theorem Is.add {cs : List Nat} {u : Nat → Rat} {j : Nat} {x y : Row} (h : Is cs u j x) (g : Is cs u j y) (a : Rat) : Is cs u j (rAdd x y a) := by
  unfold Is at *
  rw [sm_add, ← h, ← g]
  rfl
theorem Is.sp {cs : List Nat} {u : Nat → Rat} {j : Nat} {rs : List Row} {z : Row} (h : ∀ r ∈ rs, Is cs u j r) (s : Spn rs z) : Is cs u j z := by
  induction s with
  | zero => exact (sm_zero cs fun _ _ => rfl).symm
  | add a hr _ ih => exact ih.add (h _ hr) a
/-- pivots, one after another -/
inductive Elim : List Nat → List Row → Prop where
  | nil : Elim [] []
  | step {cs : List Nat} {rs : List Row} {r s : Row} {c : Nat} : Elim cs rs → Clr cs rs r s → s c ≠ 0 → c ∉ cs → Elim (cs ++ [c]) (rs ++ [r])
theorem Elim.len {cs : List Nat} {rs : List Row} (e : Elim cs rs) : rs.length = cs.length := by
  induction e with
  | nil => rfl
  | step _ _ _ _ ih => rw [List.length_append, List.length_append, ih]; rfl
theorem Elim.ne {cs : List Nat} {rs : List Row} (e : Elim cs rs) : lap cs rs ≠ 0 := by
  induction e with
  | nil => exact (by decide : (1 : Rat) ≠ 0)
  | step e p h _ ih =>
    rw [p.val e.len]
    intro z
    rcases Rat.mul_eq_zero.mp z with q | q
    · exact ih q
    · exact h q
theorem Elim.sol {cs : List Nat} {rs : List Row} (e : Elim cs rs) : ∀ j : Nat, ∃ u, ∀ r ∈ rs, Is cs u j r := by
  induction e with
  | nil => exact fun j => ⟨fun _ => 0, fun _ h => nomatch h⟩
  | @step cs rs r s c e p h hc ih =>
    intro j
    obtain ⟨u, hu⟩ := ih j
    obtain ⟨v, hv⟩ := ih c
    refine ⟨fun d => if d = c then s j / s c else u d - s j / s c * v d, ?_⟩
    have mix : ∀ x : Row, sm (fun d => if d = c then s j / s c else u d - s j / s c * v d) x cs = sm u x cs - s j / s c * sm v x cs := fun x => sm_mix cs fun d hd => if_neg fun (z : d = c) => hc (z ▸ hd)
    have old : ∀ x ∈ rs, Is (cs ++ [c]) (fun d => if d = c then s j / s c else u d - s j / s c * v d) j x := fun x hx => by
      have e1 : x j = sm u x cs := hu x hx
      have e2 : x c = sm v x cs := hv x hx
      show x j = _
      rw [sm_app, mix, ← e1, ← e2]
      simp only [sm, if_true]
      grind
    intro x hx
    rcases List.mem_append.mp hx with q | q
    · exact old x q
    · obtain rfl := List.mem_singleton.mp q
      obtain ⟨⟨z, sz, ez⟩, out⟩ := p
      rw [ez]
      refine Is.add ?_ (Is.sp old sz) 1
      show s j = _
      rw [sm_app, sm_zero cs out]
      simp only [sm, if_true]
      grind
/-- a row cleared by rows for which u makes j: its number at j is that of the row, less what u makes -/
theorem Clr.gap {cs : List Nat} {rs : List Row} {x y : Row} {u : Nat → Rat} {j : Nat} (k : Clr cs rs x y) (h : ∀ r ∈ rs, Is cs u j r) : x j - sm u x cs = y j := by
  obtain ⟨⟨z, sz, ez⟩, out⟩ := k
  have e : z j = sm u z cs := Is.sp h sz
  rw [ez, sm_add, sm_zero cs out, ← e]
  simp only [rAdd]
  grind
end Bo

/-! ### the table of the elimination: each row of it is a row of determinants, so no division leaves a rest -/
namespace Bo
def bRow (s row : List Int) (b : Int) : List Int := (row.tail.zip s.tail).map fun p => Int.fdiv (s.headD 0 * p.1 - row.headD 0 * p.2) b
/-- the table's row of x behind k steps, with m columns in all -/
def tRow (m k : Nat) (rs : List RowZ) (x : RowZ) : List Int := (List.range' k (m - k)).map fun j => lapZ (List.range k ++ [j]) (rs ++ [x])
/-- the first row whose first number is not 0 -/
def pick : List (List Int) → Option Nat
  | [] => none
  | r :: t => if r.headD 0 ≠ 0 then some 0 else (pick t).map (· + 1)
/-- the steps that were kept -/
def stp (m : Nat) (rs : List RowZ) : List (List Int) := (List.range rs.length).map fun i => tRow m i (rs.take i) (rs.getD i fun _ => 0)
end Bo

/-! ### the values, from the last step back to the first -/
namespace Bo
def bBack (b : Int) : List (List Int) → List Int → List Int
  | [], acc => acc
  | s :: ss, acc => bBack b ss (Int.fdiv (b * s.getLastD 0 - ((s.tail.zip acc).map fun p => p.1 * p.2).sum) (s.headD 0) :: acc)
theorem Elim.snoc {cs : List Nat} {rs : List Row} {c : Nat} {r : Row} (e : Elim (cs ++ [c]) (rs ++ [r])) : Elim cs rs := by
  generalize hc : cs ++ [c] = cs' at e
  generalize hr : rs ++ [r] = rs' at e
  cases e with
  | nil => simp at hc
  | step e' _ _ _ =>
    obtain ⟨h1, _⟩ := List.append_inj' hc rfl
    obtain ⟨h2, _⟩ := List.append_inj' hr rfl
    rw [h1, h2]
    exact e'
theorem Elim.cut {qs : List RowZ} : ∀ (d : Nat) (k : Nat), k + d = qs.length → Elim (List.range qs.length) (qs.map rQ) → Elim (List.range k) ((qs.take k).map rQ)
  | 0, k, h, e => by
    rw [← Nat.add_zero k, h, List.take_length]
    exact e
  | d + 1, k, h, e => by
    have ih := Elim.cut d (k + 1) (by omega) e
    have lt : k < qs.length := by omega
    rw [List.range_succ, List.take_add_one, List.getElem?_eq_getElem lt, Option.toList_some, List.map_append] at ih
    exact ih.snoc
end Bo

/-! ### rows and columns: no one solution exactly where the determinant is 0 -/
namespace Bo
def only (cs : List Nat) (r : Row) : Row := fun c => if c ∈ cs then r c else 0
/-- the sum of the rows ahead, each times a number -/
def mix (u : Nat → Rat) : Nat → List Row → Row
  | _, [] => fun _ => 0
  | i, r :: rs => rAdd (mix u (i + 1) rs) r (u i)
end Bo

/-! ### the determinant by the first row, sizes, and when there is no one solution -/
namespace Bo
end Bo

/-! ### the mathematics of fractions (as in the older texts of ours) -/
namespace Bo
open PySem L2
/-! ### lowest terms -/
def rN (n d : Int) : Int := (if d < 0 then -n else n) / (Int.gcd n d : Int)
def rD (n d : Int) : Int := (d.natAbs : Int) / (Int.gcd n d : Int)
theorem gcd_pos {n d : Int} (h : d ≠ 0) : (0 : Int) < (Int.gcd n d : Int) := by
  have : 0 < Int.gcd n d := Int.gcd_pos_iff.mpr (.inr h)
  omega
theorem fdiv_of {n g m : Int} (hg : g ≠ 0) (e : n = g * m) : n.fdiv g = m := by
  rw [e]
  exact Int.mul_fdiv_cancel_left m hg
theorem ediv_of {n g m : Int} (hg : g ≠ 0) (e : n = g * m) : n / g = m := by
  rw [e]
  exact Int.mul_ediv_cancel_left m hg
theorem gcd_le {n d : Int} (h : d ≠ 0) : Int.gcd n d ≤ d.natAbs := Int.gcd_le_natAbs_right n h
theorem div_le_abs (a : Int) {g : Int} (hg : 0 < g) : (a / g).natAbs ≤ a.natAbs := by
  obtain ⟨k, rfl⟩ : ∃ k : Nat, g = k := ⟨g.toNat, by omega⟩
  exact Int.natAbs_ediv_le_natAbs a k
theorem rN_le {n d : Int} (h : d ≠ 0) : (rN n d).natAbs ≤ n.natAbs := by
  have hg := gcd_pos (n := n) h
  unfold rN
  refine Nat.le_trans (div_le_abs _ hg) ?_
  split <;> omega
theorem rD_le {n d : Int} (h : d ≠ 0) : (rD n d).natAbs ≤ d.natAbs := by
  have hg := gcd_pos (n := n) h
  unfold rD
  refine Nat.le_trans (div_le_abs _ hg) ?_
  omega
/-! ### Euclid's way as the law walks it -/
/-- behind i steps: the divisor is kept, the product falls -/
structure Eu (g : Nat) (P : Nat) (i : Nat) (a b : Int) : Prop where
  a0 : 0 ≤ a
  b0 : 0 < b
  gc : Int.gcd a b = g
  pr : 0 < i → a < b
  fall : a.toNat * b.toNat * 2 ^ (i - 1) ≤ P
theorem gcd_mod0 (a b : Int) : Int.gcd (b % a) a = Int.gcd a b := by
  have e : b % a = b - a * (b / a) := Int.emod_def b a
  refine Nat.dvd_antisymm ?_ ?_
  · have h1 := Int.gcd_dvd_left (a := b % a) (b := a)
    have h2 := Int.gcd_dvd_right (a := b % a) (b := a)
    have h3 : ((Int.gcd (b % a) a : Nat) : Int) ∣ b := by
      have h4 := Int.dvd_add h1 (Int.dvd_trans h2 (Int.dvd_mul_right a (b / a)))
      rw [Int.emod_add_mul_ediv] at h4
      exact h4
    exact Int.dvd_gcd h2 h3
  · have h1 := Int.gcd_dvd_left (a := a) (b := b)
    have h2 := Int.gcd_dvd_right (a := a) (b := b)
    have h3 : ((Int.gcd a b : Nat) : Int) ∣ b % a := by
      rw [e]
      exact Int.dvd_sub h2 (Int.dvd_trans h1 (Int.dvd_mul_right a _))
    exact Int.dvd_gcd h3 h1
theorem Eu.step {g P i : Nat} {a b : Int} (e : Eu g P i a b) (h : a ≠ 0) : Eu g P (i + 1) (b.fmod a) a := by
  obtain ⟨a0, b0, gc, pr, fall⟩ := e
  have ha : 0 < a := by omega
  have em : b.fmod a = b % a := Int.fmod_eq_emod_of_nonneg b (by omega)
  rw [em]
  have m0 := Int.emod_nonneg b h
  have m1 := Int.emod_lt_of_pos b ha
  refine ⟨m0, ha, ?_, fun _ => m1, ?_⟩
  · rw [← gc]
    exact gcd_mod0 a b
  · show (b % a).toNat * a.toNat * 2 ^ i ≤ P
    refine Nat.le_trans ?_ fall
    cases i with
    | zero =>
      show (b % a).toNat * a.toNat * 1 ≤ a.toNat * b.toNat * 1
      rw [Nat.mul_one, Nat.mul_one, Nat.mul_comm]
      have hle : b % a ≤ b := by
        by_cases hb : b < a
        · rw [Int.emod_eq_of_lt (by omega) hb]
          exact Int.le_refl _
        · omega
      exact Nat.mul_le_mul_left _ (by omega)
    | succ j =>
      have hab := pr (by omega)
      have hq : a + b % a ≤ b := by
        have h1 := Int.mul_ediv_add_emod b a
        have h2 : 1 ≤ b / a := Int.le_ediv_of_mul_le ha (by omega)
        have h3 : a * 1 ≤ a * (b / a) := Int.mul_le_mul_of_nonneg_left h2 (by omega)
        omega
      have h2 : 2 * (b % a).toNat ≤ b.toNat := by omega
      show (b % a).toNat * a.toNat * 2 ^ (j + 1) ≤ a.toNat * b.toNat * 2 ^ j
      rw [Nat.pow_succ, ← Nat.mul_assoc, Nat.mul_right_comm _ _ 2]
      refine Nat.mul_le_mul_right _ ?_
      rw [Nat.mul_comm ((b % a).toNat * a.toNat) 2, ← Nat.mul_assoc, Nat.mul_comm (2 * (b % a).toNat)]
      exact Nat.mul_le_mul_left _ h2
theorem Eu.done {g P i : Nat} {a b : Int} (e : Eu g P i a b) (h : P < 2 ^ (i - 1)) : a = 0 := by
  obtain ⟨a0, b0, gc, pr, fall⟩ := e
  by_cases ha : a = 0
  · exact ha
  · exfalso
    have h1 : 1 ≤ a.toNat * b.toNat := Nat.mul_pos (by omega) (by omega)
    have h2 := Nat.mul_le_mul_right (2 ^ (i - 1)) h1
    omega
theorem Eu.zero {g P i : Nat} {a b : Int} (e : Eu g P i a b) (h : a = 0) : b = (g : Int) := by
  obtain ⟨a0, b0, gc, pr, fall⟩ := e
  subst h
  rw [Int.gcd_zero_left] at gc
  omega

/-! ### fractions as rationals -/
theorem rN_rat {n d : Int} (h : d ≠ 0) : rN n d = (Rat.divInt n d).num := by
  rw [Rat.num_divInt, Int.gcd_comm]
  unfold rN
  by_cases c : d < 0
  · rw [if_pos c, Int.sign_eq_neg_one_of_neg c, Int.neg_one_mul]
  · rw [if_neg c, Int.sign_eq_one_of_pos (by omega), Int.one_mul]
theorem rD_rat {n d : Int} (h : d ≠ 0) : rD n d = ((Rat.divInt n d).den : Int) := by
  rw [Rat.den_divInt, if_neg h, Int.gcd_comm]
  unfold rD
  rw [Int.natCast_ediv]
theorem den_ne (q : Rat) : (q.den : Int) ≠ 0 := by
  have := q.den_nz
  omega
theorem divInt_eq {n d : Int} : Rat.divInt n d = (n : Rat) / (d : Rat) := Rat.divInt_eq_div n d
theorem num_den (q : Rat) : (q.num : Rat) / ((q.den : Int) : Rat) = q := by
  rw [← divInt_eq, Rat.num_divInt_den]
end Bo

/-! ### fractions: what their defs are worth -/
namespace Bo
open PySem L2
noncomputable section
def body_l_ratio : VS :=
    (vSeq (vIfS (vTst (vOp (gIB fun i j => decide (i < j)) (vVar 1) (vC (.int 0)))) (vSeq (vAsg (vOp (gI fun i j => i - j) (vC (.int 0)) (vVar 0)) (aName 0))
    (vAsg (vOp (gI fun i j => i - j) (vC (.int 0)) (vVar 1)) (aName 1))) vNext)
    (vSeq (vAsg (vCall gAbs (vCons (vVar 0) vNil)) (aName 2))
    (vSeq (vAsg (vVar 1) (aName 3))
    (vSeq (vFor (vRange1 (vCons (vC (.int 2000)) vNil)) (aName 4) (vSeq (vIfS (vTst (vOp gEq (vVar 2) (vC (.int 0)))) vBrk vNext)
    (vSeq (vAsg (vOp (gIC cMod Int.fmod) (vCall gInt (vCons (vVar 3) vNil)) (vVar 2)) (aName 5))
    (vSeq (vAsg (vVar 2) (aName 3))
    (vAsg (vVar 5) (aName 2))))))
    (vRet (vTup (vCons (vOp (gIC cFdiv Int.fdiv) (vVar 0) (vVar 3)) (vCons (vOp (gIC cFdiv Int.fdiv) (vVar 1) (vVar 3)) vNil))))))))
def den_l_ratio := denP 6 body_l_ratio
end
end Bo

/-! ### fractions: what their defs answer -/
namespace Bo
open PySem L2
theorem w_neg {a : Int} {kD : PyData → Prop} (q : kD (.int (-a))) : (gNeg (.int a)).okTo kD := q
theorem w_brk {S : SS} {kS : FL → Prop} (q : kS (.bk S)) : (vBrk S).okTo kS := q
theorem w_cnt {S : SS} {kS : FL → Prop} (q : kS (.ct S)) : (vCnt S).okTo kS := q
local macro_rules | `(tactic| walk_at "wv1") => `(tactic| (first
  | ((with_reducible refine w_var (d := ?wd) ?wh ?wq); (case wh => exact rfl))
  | with_reducible refine w_cons ?_
  | with_reducible refine w_nil ?_
  | with_reducible refine w_op ?_
  | with_reducible refine w_c ?_
  | with_reducible refine w_aName ?_
  | with_reducible refine w_seq ?_
  | with_reducible refine w_asg ?_
  | with_reducible refine w_toB ?_
  | with_reducible refine w_callP ?_
  | with_reducible refine w_tst ?_
  | with_reducible refine w_gIxT ?_
  | with_reducible refine w_call ?_
  | with_reducible refine w_ret ?_
  | with_reducible refine w_ifS ?_
  | with_reducible refine w_next ?_
  | ((with_reducible refine w_own (ds := ?wd) ?wh ?wq); (case wh => exact rfl))
  | with_reducible refine w_for ?_
  | with_reducible refine w_fr ?_
  | with_reducible refine w_lc ?_
  | with_reducible refine w_tup ?_
  | with_reducible refine w_iter ?_
  | with_reducible refine w_itFT ?_
  | with_reducible refine w_aCons ?_
  | with_reducible refine w_gIxL ?_
  | with_reducible refine w_tnot ?_
  | with_reducible refine w_tor ?_
  | with_reducible refine w_range1 ?_
  | with_reducible refine w_yes ?_
  | with_reducible refine w_itTT ?_
  | with_reducible refine w_iterT ?_
  | with_reducible refine w_lst ?_
  | with_reducible refine w_toI ?_
  | with_reducible refine w_ownS ?_
  | with_reducible refine w_aTup rfl ?_
  | with_reducible refine w_aNil ?_
  | ((with_reducible refine w_frz (ds := ?wd) ?wh ?wq); (case wh => exact rfl))
  | with_reducible refine w_itT ?_
  | with_reducible refine w_tand ?_
  | with_reducible refine w_gEqI ?_
  | with_reducible refine w_gNeI ?_
  | with_reducible refine w_gLenT ?_
  | with_reducible refine w_lstF ?_
  | with_reducible refine w_callB ?_
  | with_reducible refine w_app ?_
  | with_reducible refine w_setI ?_
  | with_reducible refine w_gNeD ?_
  | with_reducible refine w_gEqD ?_
  | with_reducible refine w_drop ?_
  | with_reducible refine w_gIB ?_
  | with_reducible refine w_gBools ?_
  | with_reducible refine w_and ?_
  | with_reducible refine w_isN ?_
  | with_reducible refine w_or ?_
  | with_reducible refine w_ixO ?_
  | with_reducible refine w_gI ?_
  | with_reducible refine w_gLenL ?_
  | with_reducible refine w_gTuple ?_
  | with_reducible refine w_gInts ?_
  | with_reducible refine w_un ?_
  | with_reducible refine w_if ?_
  | with_reducible refine w_chain ?_
  | ((with_reducible refine w_callS (ns := ?wd) ?wh ?wq); (case wh => exact rfl))
  | with_reducible refine w_sl ?_
  | with_reducible refine w_noPart ?_
  | with_reducible refine w_part ?_
  | with_reducible refine w_listRg ?_
  | with_reducible refine w_enumK ?_
  | with_reducible refine w_repF ?_
  | with_reducible refine w_gIC ?_
  | with_reducible refine w_gCat ?_
  | with_reducible refine w_gCatT ?_
  | with_reducible refine w_notN ?_
  | with_reducible refine w_listF ?_
  | with_reducible refine w_neg ?_
  | with_reducible refine w_not ?_
  | with_reducible refine w_tru ?_
  | with_reducible refine w_callL ?_
  | with_reducible refine w_consO ?_
  | with_reducible refine w_lenO ?_
  | with_reducible refine w_tupleO ?_
  | with_reducible refine w_listO ?_
  | with_reducible refine w_inO ?_
  | with_reducible refine w_truO ?_
  | with_reducible refine w_zipK ?_
  | with_reducible refine w_retN ?_
  | ((with_reducible refine w_aug (a := ?wd) ?wh ?wq); (case wh => exact rfl))
  | with_reducible refine w_gInL ?_
  | with_reducible refine w_gIntI ?_
  | with_reducible refine w_gRevL ?_
  | with_reducible refine w_gSlL ?_
  | with_reducible refine w_gSlT ?_
  | with_reducible refine w_itF ?_
  | with_reducible refine w_gList ?_
  | with_reducible refine w_gSortI ?_
  | with_reducible refine w_range2 ?_
  | ((with_reducible refine w_lcO (ds := ?wd) ?wh ?wq ?wr); (case wh => exact rfl); (case wq => exact rfl))
  | with_reducible refine w_aUnl rfl ?_
  | with_reducible refine w_brk ?_
  | with_reducible refine w_cnt ?_
  | with_reducible refine w_gIntB ?_
  | simp only [wipeS, backS, List.set_cons_zero, List.set_cons_succ, List.getElem?_cons_zero, List.getElem?_cons_succ, Option.join_some, Option.join_none, Bool.not_true, Bool.not_false]))
local macro_rules | `(tactic| walk_at "wv") => `(tactic| ((repeat (walk_at "wv1"; try dsimp only)); try simp only [List.set_cons_zero, List.set_cons_succ]))
local macro_rules | `(tactic| walk_at "st") => `(tactic| simp only [startS, List.map_cons, List.map_nil, List.length_cons, List.length_nil, Nat.reduceAdd, Nat.reduceSub, List.replicate_succ, List.replicate_zero, List.cons_append, List.nil_append])

@[irreducible] def dQ (q : Rat) : PyData := .tuple [.int q.num, .int (q.den : Int)]
theorem cFdiv_wide {n d g m : Int} (h : d ≠ 0) (hb : d.natAbs < 2 ^ 8000) (e : g.natAbs = Int.gcd n d) : cFdiv m g = true := by
  have hg := gcd_pos (n := n) h
  refine decide_eq_true ⟨by omega, Nat.lt_of_le_of_lt (by rw [e]; exact gcd_le h) (Nat.lt_of_lt_of_le hb (Nat.pow_le_pow_right (by decide) (by decide)))⟩
theorem dq_of {n d : Int} (h : d ≠ 0) : PyData.tuple [.int (rN n d), .int (rD n d)] = dQ (Rat.divInt n d) := by
  unfold dQ
  rw [rN_rat h, rD_rat h]
theorem big_prod {x y : Nat} (hx : x < 2 ^ 900) (hy : y < 2 ^ 900) : x * y < 2 ^ (1999 : Nat) := by
  have h1 : x * y < 2 ^ (900 + 900) := by
    rw [Nat.pow_add]
    exact Nat.mul_lt_mul'' hx hy
  exact Nat.lt_of_lt_of_le h1 (Nat.pow_le_pow_right (by decide) (by decide))
theorem l_ratio_ok {n d : Int} {k : PyData → Prop} (h : d ≠ 0) (hn : n.natAbs < 2 ^ 900) (hb : d.natAbs < 2 ^ 900) (q : k (dQ (Rat.divInt n d))) : (den_l_ratio [.int n, .int d]).okTo k := by
  rw [← dq_of h] at q
  have hb8 : d.natAbs < 2 ^ 8000 := Nat.lt_of_lt_of_le hb (Nat.pow_le_pow_right (by decide) (by decide))
  unfold den_l_ratio body_l_ratio
  refine w_denP ?_
  walk_at "st"
  walk_at "wv"
  have rest : ∀ (m e : Int), 0 < e → m.natAbs = n.natAbs → e.natAbs = d.natAbs → m / (Int.gcd n d : Int) = rN n d → e / (Int.gcd n d : Int) = rD n d →
      ((vSeq (vAsg (vCall gAbs (vCons (vVar 0) vNil)) (aName 2))
    (vSeq (vAsg (vVar 1) (aName 3))
    (vSeq (vFor (vRange1 (vCons (vC (.int 2000)) vNil)) (aName 4) (vSeq (vIfS (vTst (vOp gEq (vVar 2) (vC (.int 0)))) vBrk vNext)
    (vSeq (vAsg (vOp (gIC cMod Int.fmod) (vCall gInt (vCons (vVar 3) vNil)) (vVar 2)) (aName 5))
    (vSeq (vAsg (vVar 2) (aName 3))
    (vAsg (vVar 5) (aName 2))))))
    (vRet (vTup (vCons (vOp (gIC cFdiv Int.fdiv) (vVar 0) (vVar 3)) (vCons (vOp (gIC cFdiv Int.fdiv) (vVar 1) (vVar 3)) vNil))))))) [some (.dat (.int m)), some (.dat (.int e)), none, none, none, none]).okTo fun fl => match fl with
        | .nx _ => k .none
        | .rt d _ => k d
        | _ => False := fun m e he hm hed e1 e2 => by
    have eg : Int.gcd n d = Int.gcd m e := by
      show Nat.gcd n.natAbs d.natAbs = Nat.gcd m.natAbs e.natAbs
      rw [hm, hed]
    walk_at "wv"
    refine okTo_eq (a := .int (m.natAbs : Int)) (by
      show R.ok (PyData.int (if m < 0 then -m else m)) = _
      congr 2
      split <;> omega) ?_
    walk_at "wv"
    refine ⟨2000, rfl, by decide, ?_⟩
    refine loop_ok (fun i S => ∃ (a b : Int) (v4 v5 : Option SV), Eu (Int.gcd n d) (n.natAbs * d.natAbs) i a b ∧ S = [some (.dat (.int m)), some (.dat (.int e)), some (.dat (.int a)), some (.dat (.int b)), v4, v5]) ?_ ?_
      ⟨m.natAbs, e, none, none, ⟨by omega, he, by rw [eg]; show Nat.gcd (m.natAbs : Int).natAbs e.natAbs = _; rw [Int.natAbs_natCast]; rfl, fun z => absurd z (by decide), by
        show (m.natAbs : Int).toNat * e.toNat * 1 ≤ _
        rw [Nat.mul_one]
        have q1 : (m.natAbs : Int).toNat = n.natAbs := by omega
        have q2 : e.toNat = d.natAbs := by omega
        rw [q1, q2]
        exact Nat.le_refl _⟩, rfl⟩
    · rintro i di S hi ⟨a, b, v4, v5, hE, rfl⟩
      walk_at "wv"
      by_cases c : a = 0
      · rw [decide_eq_true c]
        have hb2 := hE.zero c
        subst hb2
        walk_at "wv"
        refine ⟨cFdiv_wide h hb8 (Int.natAbs_natCast _), ?_⟩
        walk_at "wv"
        refine ⟨cFdiv_wide h hb8 (Int.natAbs_natCast _), ?_⟩
        walk_at "wv"
        refine ⟨by simp, ?_⟩
        rw [Int.fdiv_eq_ediv_of_nonneg _ (by omega), Int.fdiv_eq_ediv_of_nonneg _ (by omega), e1, e2]
        exact q
      · rw [decide_eq_false c]
        walk_at "wv"
        refine ⟨cMod_ok c, ?_⟩
        walk_at "wv"
        exact ⟨_, _, _, _, hE.step c, rfl⟩
    · rintro S ⟨a, b, v4, v5, hE, rfl⟩
      rw [rangeD_len] at hE
      have c := hE.done (big_prod hn hb)
      have hb2 := hE.zero c
      subst hb2
      walk_at "wv"
      refine ⟨cFdiv_wide h hb8 (Int.natAbs_natCast _), ?_⟩
      walk_at "wv"
      refine ⟨cFdiv_wide h hb8 (Int.natAbs_natCast _), ?_⟩
      walk_at "wv"
      refine ⟨by simp, ?_⟩
      rw [Int.fdiv_eq_ediv_of_nonneg _ (by omega), Int.fdiv_eq_ediv_of_nonneg _ (by omega), e1, e2]
      exact q
  by_cases c : d < 0
  · rw [decide_eq_true c]
    walk_at "wv"
    refine rest (0 - n) (0 - d) (by omega) (by omega) (by omega) ?_ ?_
    · unfold rN
      rw [if_pos c, Int.zero_sub]
    · unfold rD
      have : (d.natAbs : Int) = 0 - d := by omega
      rw [this]
  · rw [decide_eq_false c]
    refine w_itFT ?_
    refine w_next ?_
    refine rest n d (by omega) rfl rfl ?_ ?_
    · unfold rN
      rw [if_neg c]
    · unfold rD
      have : (d.natAbs : Int) = d := by omega
      rw [this]
end Bo

namespace Bo
open PySem L2
local macro_rules | `(tactic| walk_at "wv1") => `(tactic| (first
  | ((with_reducible refine w_var (d := ?wd) ?wh ?wq); (case wh => exact rfl))
  | with_reducible refine w_cons ?_
  | with_reducible refine w_nil ?_
  | with_reducible refine w_op ?_
  | with_reducible refine w_c ?_
  | with_reducible refine w_aName ?_
  | with_reducible refine w_seq ?_
  | with_reducible refine w_asg ?_
  | with_reducible refine w_toB ?_
  | with_reducible refine w_callP ?_
  | with_reducible refine w_tst ?_
  | with_reducible refine w_gIxT ?_
  | with_reducible refine w_call ?_
  | with_reducible refine w_ret ?_
  | with_reducible refine w_ifS ?_
  | with_reducible refine w_next ?_
  | ((with_reducible refine w_own (ds := ?wd) ?wh ?wq); (case wh => exact rfl))
  | with_reducible refine w_for ?_
  | with_reducible refine w_fr ?_
  | with_reducible refine w_lc ?_
  | with_reducible refine w_tup ?_
  | with_reducible refine w_iter ?_
  | with_reducible refine w_itFT ?_
  | with_reducible refine w_aCons ?_
  | with_reducible refine w_gIxL ?_
  | with_reducible refine w_tnot ?_
  | with_reducible refine w_tor ?_
  | with_reducible refine w_range1 ?_
  | with_reducible refine w_yes ?_
  | with_reducible refine w_itTT ?_
  | with_reducible refine w_iterT ?_
  | with_reducible refine w_lst ?_
  | with_reducible refine w_toI ?_
  | with_reducible refine w_ownS ?_
  | with_reducible refine w_aTup rfl ?_
  | with_reducible refine w_aNil ?_
  | ((with_reducible refine w_frz (ds := ?wd) ?wh ?wq); (case wh => exact rfl))
  | with_reducible refine w_itT ?_
  | with_reducible refine w_tand ?_
  | with_reducible refine w_gEqI ?_
  | with_reducible refine w_gNeI ?_
  | with_reducible refine w_gLenT ?_
  | with_reducible refine w_lstF ?_
  | with_reducible refine w_callB ?_
  | with_reducible refine w_app ?_
  | with_reducible refine w_setI ?_
  | with_reducible refine w_gNeD ?_
  | with_reducible refine w_gEqD ?_
  | with_reducible refine w_drop ?_
  | with_reducible refine w_gIB ?_
  | with_reducible refine w_gBools ?_
  | with_reducible refine w_and ?_
  | with_reducible refine w_isN ?_
  | with_reducible refine w_or ?_
  | with_reducible refine w_ixO ?_
  | with_reducible refine w_gI ?_
  | with_reducible refine w_gLenL ?_
  | with_reducible refine w_gTuple ?_
  | with_reducible refine w_gInts ?_
  | with_reducible refine w_un ?_
  | with_reducible refine w_if ?_
  | with_reducible refine w_chain ?_
  | ((with_reducible refine w_callS (ns := ?wd) ?wh ?wq); (case wh => exact rfl))
  | with_reducible refine w_sl ?_
  | with_reducible refine w_noPart ?_
  | with_reducible refine w_part ?_
  | with_reducible refine w_listRg ?_
  | with_reducible refine w_enumK ?_
  | with_reducible refine w_repF ?_
  | with_reducible refine w_gIC ?_
  | with_reducible refine w_gCat ?_
  | with_reducible refine w_gCatT ?_
  | with_reducible refine w_notN ?_
  | with_reducible refine w_listF ?_
  | with_reducible refine w_neg ?_
  | with_reducible refine w_not ?_
  | with_reducible refine w_tru ?_
  | with_reducible refine w_callL ?_
  | with_reducible refine w_consO ?_
  | with_reducible refine w_lenO ?_
  | with_reducible refine w_tupleO ?_
  | with_reducible refine w_listO ?_
  | with_reducible refine w_inO ?_
  | with_reducible refine w_truO ?_
  | with_reducible refine w_zipK ?_
  | with_reducible refine w_retN ?_
  | ((with_reducible refine w_aug (a := ?wd) ?wh ?wq); (case wh => exact rfl))
  | with_reducible refine w_gInL ?_
  | with_reducible refine w_gIntI ?_
  | with_reducible refine w_gRevL ?_
  | with_reducible refine w_gSlL ?_
  | with_reducible refine w_gSlT ?_
  | with_reducible refine w_itF ?_
  | with_reducible refine w_gList ?_
  | with_reducible refine w_gSortI ?_
  | with_reducible refine w_range2 ?_
  | ((with_reducible refine w_lcO (ds := ?wd) ?wh ?wq ?wr); (case wh => exact rfl); (case wq => exact rfl))
  | with_reducible refine w_aUnl rfl ?_
  | with_reducible refine w_brk ?_
  | with_reducible refine w_cnt ?_
  | with_reducible refine w_gIntB ?_
  | simp only [wipeS, backS, List.set_cons_zero, List.set_cons_succ, List.getElem?_cons_zero, List.getElem?_cons_succ, Option.join_some, Option.join_none, Bool.not_true, Bool.not_false]))
local macro_rules | `(tactic| walk_at "wv") => `(tactic| ((repeat (walk_at "wv1"; try dsimp only)); try simp only [List.set_cons_zero, List.set_cons_succ]))
local macro_rules | `(tactic| walk_at "st") => `(tactic| simp only [startS, List.map_cons, List.map_nil, List.length_cons, List.length_nil, Nat.reduceAdd, Nat.reduceSub, List.replicate_succ, List.replicate_zero, List.cons_append, List.nil_append])

section
/-! ### the sum of fractions (as in VfE, without k04's own) -/
open PySem L2
def Bq4 (q : Rat) : Prop := q.num.natAbs < 2 ^ 3000 ∧ q.den < 2 ^ 3000

end
end Bo
/-! ### solve: the worth of its defs, as gen2 reads them -/
namespace Bo
open PySem L2
noncomputable section
end
end Bo

/-! ### chains: the worth of the program's defs, as gen2 reads them -/
namespace Bo
open PySem L2
noncomputable section
end
end Bo

/-! ### fractions over one denominator: how great they can be -/
namespace Bo
/-- s times q is whole, and no greater than b -/
def Pd (s b : Nat) (q : Rat) : Prop := ∃ m : Int, q * (s : Rat) = (m : Rat) ∧ m.natAbs ≤ b
theorem Pd.zero (s b : Nat) : Pd s b 0 := ⟨0, by rw [Rat.zero_mul]; rfl, Nat.zero_le b⟩
theorem Pd.one : Pd 1 1 1 := ⟨1, by rw [Rat.one_mul]; rfl, Nat.le_refl 1⟩
theorem Pd.mono {s b c : Nat} {q : Rat} (h : Pd s b q) (l : b ≤ c) : Pd s c q :=
  let ⟨m, e, n⟩ := h
  ⟨m, e, Nat.le_trans n l⟩
theorem Pd.neg {s b : Nat} {q : Rat} (h : Pd s b q) : Pd s b (-q) := by
  obtain ⟨m, e, n⟩ := h
  refine ⟨-m, ?_, by omega⟩
  rw [Rat.neg_mul, e, Rat.intCast_neg]
theorem Pd.add {s b c : Nat} {q r : Rat} (h : Pd s b q) (g : Pd s c r) : Pd s (b + c) (q + r) := by
  obtain ⟨m, e, n⟩ := h
  obtain ⟨k, f, l⟩ := g
  refine ⟨m + k, ?_, by omega⟩
  rw [Rat.add_mul, e, f, Rat.intCast_add]
theorem Pd.mul {s t b c : Nat} {q r : Rat} (h : Pd s b q) (g : Pd t c r) : Pd (s * t) (b * c) (q * r) := by
  obtain ⟨m, e, n⟩ := h
  obtain ⟨k, f, l⟩ := g
  refine ⟨m * k, ?_, by rw [Int.natAbs_mul]; exact Nat.mul_le_mul n l⟩
  rw [Rat.natCast_mul, Rat.intCast_mul, ← e, ← f]
  grind
theorem Pd.of {m : Int} {s b : Nat} (hs : s ≠ 0) (h : m.natAbs ≤ b) : Pd s b (Rat.divInt m s) := by
  refine ⟨m, ?_, h⟩
  rw [Rat.divInt_eq_div, Rat.intCast_natCast]
  have : (s : Rat) ≠ 0 := by exact_mod_cast hs
  grind
theorem Pd.eq {s b : Nat} {q : Rat} (hs : s ≠ 0) (h : Pd s b q) : ∃ m : Int, q = Rat.divInt m s ∧ m.natAbs ≤ b := by
  obtain ⟨m, e, n⟩ := h
  refine ⟨m, ?_, n⟩
  rw [Rat.divInt_eq_div, Rat.intCast_natCast, ← e]
  have : (s : Rat) ≠ 0 := by exact_mod_cast hs
  grind
end Bo

namespace Bo
open PySem L2
local macro_rules | `(tactic| walk_at "wv1") => `(tactic| (first
  | ((with_reducible refine w_var (d := ?wd) ?wh ?wq); (case wh => exact rfl))
  | with_reducible refine w_cons ?_
  | with_reducible refine w_nil ?_
  | with_reducible refine w_op ?_
  | with_reducible refine w_c ?_
  | with_reducible refine w_aName ?_
  | with_reducible refine w_seq ?_
  | with_reducible refine w_asg ?_
  | with_reducible refine w_toB ?_
  | with_reducible refine w_callP ?_
  | with_reducible refine w_tst ?_
  | with_reducible refine w_gIxT ?_
  | with_reducible refine w_call ?_
  | with_reducible refine w_ret ?_
  | with_reducible refine w_ifS ?_
  | with_reducible refine w_next ?_
  | ((with_reducible refine w_own (ds := ?wd) ?wh ?wq); (case wh => exact rfl))
  | with_reducible refine w_for ?_
  | with_reducible refine w_fr ?_
  | with_reducible refine w_lc ?_
  | with_reducible refine w_tup ?_
  | with_reducible refine w_iter ?_
  | with_reducible refine w_itFT ?_
  | with_reducible refine w_aCons ?_
  | with_reducible refine w_gIxL ?_
  | with_reducible refine w_tnot ?_
  | with_reducible refine w_tor ?_
  | with_reducible refine w_range1 ?_
  | with_reducible refine w_yes ?_
  | with_reducible refine w_itTT ?_
  | with_reducible refine w_iterT ?_
  | with_reducible refine w_lst ?_
  | with_reducible refine w_toI ?_
  | with_reducible refine w_ownS ?_
  | with_reducible refine w_aTup rfl ?_
  | with_reducible refine w_aNil ?_
  | ((with_reducible refine w_frz (ds := ?wd) ?wh ?wq); (case wh => exact rfl))
  | with_reducible refine w_itT ?_
  | with_reducible refine w_tand ?_
  | with_reducible refine w_gEqI ?_
  | with_reducible refine w_gNeI ?_
  | with_reducible refine w_gLenT ?_
  | with_reducible refine w_lstF ?_
  | with_reducible refine w_callB ?_
  | with_reducible refine w_app ?_
  | with_reducible refine w_setI ?_
  | with_reducible refine w_gNeD ?_
  | with_reducible refine w_gEqD ?_
  | with_reducible refine w_drop ?_
  | with_reducible refine w_gIB ?_
  | with_reducible refine w_gBools ?_
  | with_reducible refine w_and ?_
  | with_reducible refine w_isN ?_
  | with_reducible refine w_or ?_
  | with_reducible refine w_ixO ?_
  | with_reducible refine w_gI ?_
  | with_reducible refine w_gLenL ?_
  | with_reducible refine w_gTuple ?_
  | with_reducible refine w_gInts ?_
  | with_reducible refine w_un ?_
  | with_reducible refine w_if ?_
  | with_reducible refine w_chain ?_
  | ((with_reducible refine w_callS (ns := ?wd) ?wh ?wq); (case wh => exact rfl))
  | with_reducible refine w_sl ?_
  | with_reducible refine w_noPart ?_
  | with_reducible refine w_part ?_
  | with_reducible refine w_listRg ?_
  | with_reducible refine w_enumK ?_
  | with_reducible refine w_repF ?_
  | with_reducible refine w_gIC ?_
  | with_reducible refine w_gCat ?_
  | with_reducible refine w_gCatT ?_
  | with_reducible refine w_notN ?_
  | with_reducible refine w_listF ?_
  | with_reducible refine w_neg ?_
  | with_reducible refine w_not ?_
  | with_reducible refine w_tru ?_
  | with_reducible refine w_callL ?_
  | with_reducible refine w_consO ?_
  | with_reducible refine w_lenO ?_
  | with_reducible refine w_tupleO ?_
  | with_reducible refine w_listO ?_
  | with_reducible refine w_inO ?_
  | with_reducible refine w_truO ?_
  | with_reducible refine w_zipK ?_
  | with_reducible refine w_retN ?_
  | ((with_reducible refine w_aug (a := ?wd) ?wh ?wq); (case wh => exact rfl))
  | with_reducible refine w_gInL ?_
  | with_reducible refine w_gIntI ?_
  | with_reducible refine w_gRevL ?_
  | with_reducible refine w_gSlL ?_
  | with_reducible refine w_gSlT ?_
  | with_reducible refine w_itF ?_
  | with_reducible refine w_gList ?_
  | with_reducible refine w_gSortI ?_
  | with_reducible refine w_range2 ?_
  | ((with_reducible refine w_lcO (ds := ?wd) ?wh ?wq ?wr); (case wh => exact rfl); (case wq => exact rfl))
  | with_reducible refine w_aUnl rfl ?_
  | with_reducible refine w_brk ?_
  | with_reducible refine w_cnt ?_
  | with_reducible refine w_gIntB ?_
  | simp only [wipeS, backS, List.set_cons_zero, List.set_cons_succ, List.getElem?_cons_zero, List.getElem?_cons_succ, Option.join_some, Option.join_none, Bool.not_true, Bool.not_false]))
local macro_rules | `(tactic| walk_at "wv") => `(tactic| ((repeat (walk_at "wv1"; try dsimp only)); try simp only [List.set_cons_zero, List.set_cons_succ]))
local macro_rules | `(tactic| walk_at "st") => `(tactic| simp only [startS, List.map_cons, List.map_nil, List.length_cons, List.length_nil, Nat.reduceAdd, Nat.reduceSub, List.replicate_succ, List.replicate_zero, List.cons_append, List.nil_append])

section
/-! ### the law's products and sums of fractions -/
open PySem L2
def Bq3 (q : Rat) : Prop := q.num.natAbs < 2 ^ 400 ∧ q.den < 2 ^ 400
theorem Pd.small {s b : Nat} {q : Rat} (hs : s ≠ 0) (h : Pd s b q) : q.num.natAbs ≤ b ∧ q.den ≤ s := by
  obtain ⟨m, rfl, n⟩ := h.eq hs
  have hs' : (s : Int) ≠ 0 := by omega
  have h1 := rN_le (n := m) hs'
  have h2 := rD_le (n := m) hs'
  rw [rN_rat hs'] at h1
  rw [rD_rat hs', Int.natAbs_natCast, Int.natAbs_natCast] at h2
  exact ⟨by omega, h2⟩
theorem Pd.b3 {s b : Nat} {q : Rat} (hs : s ≠ 0) (h : Pd s b q) (h1 : b < 2 ^ 400) (h2 : s < 2 ^ 400) : Bq3 q :=
  let ⟨x, y⟩ := h.small hs
  ⟨Nat.lt_of_le_of_lt x h1, Nat.lt_of_le_of_lt y h2⟩
theorem Pd.dvd {s b : Nat} {q : Rat} (hs : s ≠ 0) (h : Pd s b q) : q.den ∣ s := by
  obtain ⟨m, rfl, n⟩ := h.eq hs
  have hs' : (s : Int) ≠ 0 := by omega
  have e := rD_rat (n := m) hs'
  have g : ((Int.gcd m s : Nat) : Int) ∣ (s : Int) := Int.gcd_dvd_right m s
  obtain ⟨c, hc⟩ := g
  have gp := gcd_pos (n := m) hs'
  have e2 : rD m s = c := by
    unfold rD
    rw [Int.natAbs_natCast]
    exact ediv_of (by omega) hc
  rw [e2] at e
  rw [e] at hc
  exact Int.natCast_dvd_natCast.mp ⟨((Int.gcd m s : Nat) : Int), hc.trans (Int.mul_comm _ _)⟩
/-! data that can be compared -/
def Shp (n : Nat) (d : PyData) : Prop := d.canLay0 = true ∧ d.depth ≤ n
theorem shp_all {n : Nat} : ∀ {ds : List PyData}, (∀ d ∈ ds, Shp n d) → PyData.canLayAll0 ds = true ∧ PyData.depthAll ds ≤ n
  | [], _ => ⟨rfl, Nat.zero_le n⟩
  | d :: ds, h => by
    obtain ⟨a, b⟩ := h d List.mem_cons_self
    obtain ⟨a2, b2⟩ := shp_all (ds := ds) fun x hx => h x (List.mem_cons_of_mem d hx)
    exact ⟨by rw [PyData.canLayAll0, a, a2]; rfl, by rw [PyData.depthAll]; exact Nat.max_le.mpr ⟨b, b2⟩⟩
theorem shp_list {n : Nat} {ds : List PyData} (h : ∀ d ∈ ds, Shp n d) : Shp (n + 1) (.list ds) := by
  obtain ⟨a, b⟩ := shp_all h
  exact ⟨by rw [PyData.canLay0, a], by rw [PyData.depth]; omega⟩
theorem shp_tuple {n : Nat} {ds : List PyData} (h : ∀ d ∈ ds, Shp n d) : Shp (n + 1) (.tuple ds) := by
  obtain ⟨a, b⟩ := shp_all h
  exact ⟨by rw [PyData.canLay0, a], by rw [PyData.depth]; omega⟩
theorem shp_int {n : Nat} (i : Int) : Shp n (.int i) := ⟨rfl, by rw [PyData.depth]; omega⟩
theorem Shp.ok {n : Nat} {d : PyData} (h : Shp n d) (hn : n ≤ 64) : SeqAt.shaped d = true := by
  unfold SeqAt.shaped
  rw [h.1, decide_eq_true (Nat.le_trans h.2 hn)]
  rfl
theorem Shp.same {n : Nat} {d : PyData} (h : Shp n d) : PyData.eqv d d = true := SeqAt.eqv_refl d h.1

end
end Bo
/-! ### lists by place; members -/
namespace Bo
open PySem L2
theorem gLen_y {y : List (List Cho)} : gLen [dY y] = .ok (.int (y.length : Nat)) := by
  show R.ok (PyData.int ((y.map dS).length : Nat)) = _
  rw [List.length_map]
end Bo

namespace Bo
open PySem L2
local macro_rules | `(tactic| walk_at "wv1") => `(tactic| (first
  | ((with_reducible refine w_var (d := ?wd) ?wh ?wq); (case wh => exact rfl))
  | with_reducible refine w_cons ?_
  | with_reducible refine w_nil ?_
  | with_reducible refine w_op ?_
  | with_reducible refine w_c ?_
  | with_reducible refine w_aName ?_
  | with_reducible refine w_seq ?_
  | with_reducible refine w_asg ?_
  | with_reducible refine w_toB ?_
  | with_reducible refine w_callP ?_
  | with_reducible refine w_tst ?_
  | with_reducible refine w_gIxT ?_
  | with_reducible refine w_call ?_
  | with_reducible refine w_ret ?_
  | with_reducible refine w_ifS ?_
  | with_reducible refine w_next ?_
  | ((with_reducible refine w_own (ds := ?wd) ?wh ?wq); (case wh => exact rfl))
  | with_reducible refine w_for ?_
  | with_reducible refine w_fr ?_
  | with_reducible refine w_lc ?_
  | with_reducible refine w_tup ?_
  | with_reducible refine w_iter ?_
  | with_reducible refine w_itFT ?_
  | with_reducible refine w_aCons ?_
  | with_reducible refine w_gIxL ?_
  | with_reducible refine w_tnot ?_
  | with_reducible refine w_tor ?_
  | with_reducible refine w_range1 ?_
  | with_reducible refine w_yes ?_
  | with_reducible refine w_itTT ?_
  | with_reducible refine w_iterT ?_
  | with_reducible refine w_lst ?_
  | with_reducible refine w_toI ?_
  | with_reducible refine w_ownS ?_
  | with_reducible refine w_aTup rfl ?_
  | with_reducible refine w_aNil ?_
  | ((with_reducible refine w_frz (ds := ?wd) ?wh ?wq); (case wh => exact rfl))
  | with_reducible refine w_itT ?_
  | with_reducible refine w_tand ?_
  | with_reducible refine w_gEqI ?_
  | with_reducible refine w_gNeI ?_
  | with_reducible refine w_gLenT ?_
  | with_reducible refine w_lstF ?_
  | with_reducible refine w_callB ?_
  | with_reducible refine w_app ?_
  | with_reducible refine w_setI ?_
  | with_reducible refine w_gNeD ?_
  | with_reducible refine w_gEqD ?_
  | with_reducible refine w_drop ?_
  | with_reducible refine w_gIB ?_
  | with_reducible refine w_gBools ?_
  | with_reducible refine w_and ?_
  | with_reducible refine w_isN ?_
  | with_reducible refine w_or ?_
  | with_reducible refine w_ixO ?_
  | with_reducible refine w_gI ?_
  | with_reducible refine w_gLenL ?_
  | with_reducible refine w_gTuple ?_
  | with_reducible refine w_gInts ?_
  | with_reducible refine w_un ?_
  | with_reducible refine w_if ?_
  | with_reducible refine w_chain ?_
  | ((with_reducible refine w_callS (ns := ?wd) ?wh ?wq); (case wh => exact rfl))
  | with_reducible refine w_sl ?_
  | with_reducible refine w_noPart ?_
  | with_reducible refine w_part ?_
  | with_reducible refine w_listRg ?_
  | with_reducible refine w_enumK ?_
  | with_reducible refine w_repF ?_
  | with_reducible refine w_gIC ?_
  | with_reducible refine w_gCat ?_
  | with_reducible refine w_gCatT ?_
  | with_reducible refine w_notN ?_
  | with_reducible refine w_listF ?_
  | with_reducible refine w_neg ?_
  | with_reducible refine w_not ?_
  | with_reducible refine w_tru ?_
  | with_reducible refine w_callL ?_
  | with_reducible refine w_consO ?_
  | with_reducible refine w_lenO ?_
  | with_reducible refine w_tupleO ?_
  | with_reducible refine w_listO ?_
  | with_reducible refine w_inO ?_
  | with_reducible refine w_truO ?_
  | with_reducible refine w_zipK ?_
  | with_reducible refine w_retN ?_
  | ((with_reducible refine w_aug (a := ?wd) ?wh ?wq); (case wh => exact rfl))
  | with_reducible refine w_gInL ?_
  | with_reducible refine w_gIntI ?_
  | with_reducible refine w_gRevL ?_
  | with_reducible refine w_gSlL ?_
  | with_reducible refine w_gSlT ?_
  | with_reducible refine w_itF ?_
  | with_reducible refine w_gList ?_
  | with_reducible refine w_gSortI ?_
  | with_reducible refine w_range2 ?_
  | ((with_reducible refine w_lcO (ds := ?wd) ?wh ?wq ?wr); (case wh => exact rfl); (case wq => exact rfl))
  | with_reducible refine w_aUnl rfl ?_
  | with_reducible refine w_brk ?_
  | with_reducible refine w_cnt ?_
  | with_reducible refine w_gIntB ?_
  | simp only [wipeS, backS, List.set_cons_zero, List.set_cons_succ, List.getElem?_cons_zero, List.getElem?_cons_succ, Option.join_some, Option.join_none, Bool.not_true, Bool.not_false]))
local macro_rules | `(tactic| walk_at "wv") => `(tactic| ((repeat (walk_at "wv1"; try dsimp only)); try simp only [List.set_cons_zero, List.set_cons_succ]))
local macro_rules | `(tactic| walk_at "st") => `(tactic| simp only [startS, List.map_cons, List.map_nil, List.length_cons, List.length_nil, Nat.reduceAdd, Nat.reduceSub, List.replicate_succ, List.replicate_zero, List.cons_append, List.nil_append])

section
/-! ### chains: what the program's defs answer -/
open PySem L2
def wsum (es : List (Int × Int)) : Int := (es.map (·.2)).sum
def cAt (y : List (List Cho)) (i b : Nat) : Cho := (y.getD i []).getD b (0, [])
def PolOk (y : List (List Cho)) (pol : List Int) : Prop := pol.length = y.length ∧ ∀ (i : Nat) s r, y[i]? = some s → pol[i]? = some r → 0 ≤ r ∧ r < (s.length : Int)
theorem PolOk.at_ {y : List (List Cho)} {pol : List Int} (h : PolOk y pol) {i : Nat} (hi : i < y.length) : ∃ b : Nat, pol[i]? = some (b : Int) ∧ y[i]? = some (y.getD i []) ∧ (y.getD i [])[b]? = some (cAt y i b) ∧ (pol.getD i 0).toNat = b := by
  have e1 : y[i]? = some (y.getD i []) := by rw [List.getD_eq_getElem?_getD, List.getElem?_eq_getElem hi]; rfl
  have e2 : pol[i]? = some (pol.getD i 0) := by rw [List.getD_eq_getElem?_getD, List.getElem?_eq_getElem (show i < pol.length by have := h.1; omega)]; rfl
  obtain ⟨h1, h2⟩ := h.2 i _ _ e1 e2
  refine ⟨(pol.getD i 0).toNat, by rw [e2]; congr 1; omega, e1, ?_, rfl⟩
  unfold cAt
  rw [List.getD_eq_getElem?_getD (l := y.getD i []), List.getElem?_eq_getElem (show (pol.getD i 0).toNat < (y.getD i []).length by omega)]
  rfl

end
section
/-! ### chains: the rows of the equations, as the program makes them -/
open PySem L2
theorem w_get2 {i : Nat} {fk fx : VE} {S : SS} {kE : PyData × SS → Prop} (h : (dicD S i).okTo fun _ => (fk S).okTo fun p => (keyD p.1).okTo fun y => (fx p.2).okTo fun q => (dicD q.2 i).okTo fun kvs => kE ((valD kvs y).getD q.1, q.2)) : (vGet2 i fk fx S).okTo kE := by
  unfold vGet2
  simp only [okTo_bind]
  exact h
theorem w_index {fa fb : VE} {S : SS} {kE : PyData × SS → Prop} (h : (fa S).okTo fun p => ∃ ds, p.1 = .list ds ∧ (fb p.2).okTo fun q => (gIndex (.list ds) q.1).okTo fun z => kE (z, q.2)) : (vIndex fa fb S).okTo kE := by
  unfold vIndex
  refine okTo_bind.mpr (h.mono fun p ⟨ds, e, q⟩ => ?_)
  rw [e]
  exact okTo_bind.mpr (q.mono fun q h => okTo_bind.mpr (h.mono fun z hz => hz))
theorem Pd.b4 {s b : Nat} {q : Rat} (hs : s ≠ 0) (h : Pd s b q) (h1 : b < 2 ^ 3000) (h2 : s < 2 ^ 3000) : Bq4 q :=
  let ⟨x, y⟩ := h.small hs
  ⟨Nat.lt_of_le_of_lt x h1, Nat.lt_of_le_of_lt y h2⟩
/-- the chance of going to o -/
def prE (W : Int) (es : List (Int × Int)) (o : Int) : Rat := ((es.find? fun e => decide (e.1 = o)).map fun e => Rat.divInt e.2 W).getD 0
def prob (es : List (Int × Int)) (o : Int) : Rat := prE (wsum es) es o
/-- ends that are looked at -/
structure EsOk (n : Nat) (es : List (Int × Int)) : Prop where
  ne : es ≠ []
  len : es.length ≤ 20
  ends : ∀ e ∈ es, (0 ≤ e.1 ∧ e.1 < (n : Int)) ∧ 1 ≤ e.2 ∧ e.2 ≤ 1000
  rise : es.Pairwise fun x y => x.1 < y.1
theorem wsum_bd : ∀ {es : List (Int × Int)}, (∀ e ∈ es, 1 ≤ e.2 ∧ e.2 ≤ 1000) → (es.length : Int) ≤ wsum es ∧ wsum es ≤ 1000 * (es.length : Int)
  | [], _ => ⟨Int.le_refl _, Int.le_refl _⟩
  | e :: es, h => by
    obtain ⟨h1, h2⟩ := wsum_bd (es := es) fun x hx => h x (List.mem_cons_of_mem _ hx)
    obtain ⟨g1, g2⟩ := h e List.mem_cons_self
    have : wsum (e :: es) = e.2 + wsum es := rfl
    rw [this, List.length_cons]
    omega
theorem EsOk.pos {n : Nat} {es : List (Int × Int)} (h : EsOk n es) : 1 ≤ wsum es ∧ wsum es ≤ 20000 := by
  have := wsum_bd fun e he => (h.ends e he).2
  have := List.length_pos_iff.mpr h.ne
  have := h.len
  omega
theorem EsOk.pd {n : Nat} {es : List (Int × Int)} (h : EsOk n es) {e : Int × Int} (he : e ∈ es) : Pd (wsum es).natAbs 1000 (Rat.divInt e.2 (wsum es)) := by
  have := h.pos
  have : Rat.divInt e.2 (wsum es) = Rat.divInt e.2 ((wsum es).natAbs : Int) := by congr 1; omega
  rw [this]
  have := (h.ends e he).2
  exact Pd.of (by omega) (by omega)
theorem EsOk.prob {n : Nat} {es : List (Int × Int)} (h : EsOk n es) (o : Int) : Pd (wsum es).natAbs 1000 (prob es o) := by
  unfold Bo.prob prE
  cases q : es.find? fun e => decide (e.1 = o) with
  | none => exact .mono (.zero _ 0) (Nat.zero_le _)
  | some e => exact h.pd (List.mem_of_find?_eq_some q)
/-- a row of the equations -/
def rowOf (hp : List Nat) (es : List (Int × Int)) (i : Nat) : List Rat := hp.map fun o => (if o = i then 1 else 0) - prob es (o : Nat)

end
end Bo
/-! ### dict comprehensions -/
namespace Bo
open PySem L2
section
variable {K : PySem.W.Frag} {n : Nat} {C : Ct K n} {σ : L2.St} {H B : Hp} {S : SS}
/-- an object that is held aside -/
def Ct.holdO (C : Ct K n) (D : Addr) (ob : HO) : Ct K n := { C with H0 := upd C.H0 D ob }
section
variable {D : Addr} {ob : HO}
theorem holdO_base (h0 : C.H0 D = none) (b : Base (C.holdO D ob) H B) : Base C H B := by
  refine ⟨fun a o n q => b.keep a o n (by show upd C.H0 D _ a = _; rw [upd_ne (ne_of_none q h0)]; exact q), b.b0, b.bh, fun a o q => ?_⟩
  rcases b.fr a o q with z | z
  · exact .inl z
  · refine .inr ?_
    have z' : upd C.H0 D ob a = none := z
    by_cases e : a = D
    · subst e
      exact h0
    · rw [upd_ne e] at z'
      exact z'
theorem holdO_out {e : Exc} (h0 : C.H0 D = none) (h : C.Out e) : (C.holdO D ob).Out e := fun H B v b d => h H B v (holdO_base h0 b) d
theorem holdO_post {α : Type} {x : R α} {k : α → Prop} (h0 : C.H0 D = none) (h : Post C x k) : Post (C.holdO D ob) x k := by
  cases x with
  | ok a => exact h
  | err e => exact holdO_out h0 h
  | bad => exact h
theorem Rep.holdO (R : Rep C σ H B S) (hD : H D = some ob) (L : Loose C σ S B D) : Rep (C.holdO D ob) σ H B S := by
  refine ⟨⟨fun a o n q => ?_, R.base.b0, R.base.bh, fun a o q => ?_⟩, R.len, fun i s h => ?_, R.dis, fun i s a h m e => ?_, R.box⟩
  · have q' : upd C.H0 D ob a = some o := q
    by_cases z : a = D
    · subst z
      rw [upd_same] at q'
      cases q'
      exact hD
    · rw [upd_ne z] at q'
      exact R.base.keep a o n q'
  · rcases R.base.fr a o q with z | z
    · exact .inl z
    · refine .inr ?_
      show upd C.H0 D ob a = none
      rw [upd_ne (ne_of_none q L.b)]
      exact z
  · obtain ⟨v, hv, r⟩ := R.slot i s h
    exact ⟨v, hv, by cases s <;> exact r⟩
  · rcases R.ownf i s a h m e with z | z
    · refine .inl ?_
      show upd C.H0 D ob a = none
      rw [upd_ne (fun q => L.no i s h m (by rw [← q]; exact e))]
      exact z
    · exact .inr z
theorem Rep.unholdO (h0 : C.H0 D = none) (hB : C.B0 D = none) (nb : some D ∉ C.bx) (R : Rep (C.holdO D ob) σ H B S) : Rep C σ H B S ∧ H D = some ob ∧ Loose C σ S B D := by
  have hH : (C.holdO D ob).H0 D = some ob := upd_same
  have bD : B D = none := by
    cases q : B D with
    | none => rfl
    | some o =>
      rcases R.base.fr D o q with z | z
      · exact nomatch (z.symm.trans hB)
      · exact nomatch (z.symm.trans hH)
  refine ⟨⟨holdO_base h0 R.base, R.len, fun i s h => ?_, R.dis, fun i s a h m e => ?_, R.box⟩, R.base.keep D _ nb hH, bD, h0, fun j u q m e => ?_⟩
  · obtain ⟨v, hv, r⟩ := R.slot i s h
    exact ⟨v, hv, by cases s <;> exact r⟩
  · rcases R.ownf i s a h m e with z | z
    · refine .inl ?_
      have z' : upd C.H0 D ob a = none := z
      by_cases q : a = D
      · subst q
        exact h0
      · rw [upd_ne q] at z'
        exact z'
    · exact .inr z
  · rcases R.ownf j u D q m e with z | z
    · exact nomatch (z.symm.trans hH)
    · exact nb (List.mem_of_getElem? z)
end
end
end Bo

/-! ### comprehensions over the values of a dict -/
namespace Bo
open PySem L2
section
variable {K : PySem.W.Frag} {n : Nat} {C : Ct K n} {σ : L2.St} {H B : Hp} {S : SS}
/-- a walk that the state vouches for -/
structure WalkR (C : Ct K n) (B0 : Hp) (J : It) (ds : List PyData) : Prop where
  go : ∀ (i : Nat) σ H B S, Rep C σ H B S → Same B0 B → i < ds.length → J.go i H
  stop : ∀ σ H B S, Rep C σ H B S → Same B0 B → J.stop ds.length H
  yld : ∀ (i : Nat) (H H' : Hp) (x : V) (d : PyData) σ B S, Rep C σ H B S → Same B0 B → ds[i]? = some d → J.yld i H x H' → H' = H ∧ Da K B x d
theorem Rep.forget (R : Rep C σ H B S) {i : Nat} (hi : n ≤ i) : Rep C σ H B (S.set i none) := by
  have at_ : ∀ {j : Nat} {s : SV}, (S.set i none)[j]? = some (some s) → S[j]? = some (some s) := fun {j s} e => by
    by_cases q : i = j
    · subst q
      rw [List.getElem?_set] at e
      split at e
      · split at e <;> cases e
      · exact e
    · rwa [List.getElem?_set_ne q] at e
  refine ⟨R.base, by rw [List.length_set]; exact R.len, fun j s e => R.slot j s (at_ e), fun j k s u a e1 e2 => R.dis j k s u a (at_ e1) (at_ e2), fun j s a e => R.ownf j s a (at_ e), fun j a e => ?_⟩
  obtain ⟨b1, s, b2, b3⟩ := R.box j a e
  refine ⟨b1, s, ?_, b3⟩
  have := (List.getElem?_eq_some_iff.mp e).1
  have h := C.hbx
  rw [List.getElem?_set_ne (by omega)]
  exact b2
theorem dpks_at {ws : List (Key × V)} {kvs : List (Key × PyData)} (h : DpKs K B ws kvs) {i : Nat} {k : Key} {v : V} (e : ws[i]? = some (k, v)) : ∃ d, (kvs.map (·.2))[i]? = some d ∧ Da K B v d := by
  induction h generalizing i with
  | nil => cases e
  | cons a t ih =>
    cases i with
    | zero =>
      cases e
      exact ⟨_, rfl, a.2⟩
    | succ i => exact ih e
end
end Bo

/-! ### more rules: xs.index(x) for lists of data -/
namespace Bo
open PySem L2
def shD (d : PyData) : Bool := d.canLay0 && decide (d.depth ≤ 32)
def rIndexD (K : PySem.W.Frag) : V → List V → Hp → VK → Prop := fun x xs H Q => ∃ (a : Addr) (ys : List V) (y : V) (ds : List PyData) (d : PyData) (j : Nat) (dj : PyData), x = V.ref a ∧ xs = [y] ∧ SqL K H a ys ∧ DpAll K H ys ds ∧ Dp K H y d ∧ ds.all shD = true ∧ shD d = true ∧ ds[j]? = some dj ∧ dj.eqv d = true ∧ (∀ (m : Nat) (d' : PyData), m < j → ds[m]? = some d' → d'.eqv d = false) ∧ Q (V.int (j : Int)) H
theorem lay_all : ∀ {ds : List PyData}, ds.all shD = true → PyData.canLayAll0 ds = true
  | [], _ => rfl
  | d :: ds, h => by
    rw [List.all_cons, Bool.and_eq_true] at h
    have h1 := h.1
    unfold shD at h1
    rw [Bool.and_eq_true] at h1
    show (d.canLay0 && PyData.canLayAll0 ds) = true
    rw [h1.1, lay_all h.2]
    rfl
theorem reads_at {h : Heap} : ∀ {us : List Value} {ds : List PyData} {as : List Addr}, ReadsAll h us ds as → us.length = ds.length ∧ ∀ (m : Nat) (u : Value) (d : PyData), us[m]? = some u → ds[m]? = some d → ∃ bs, Reads h u d bs
  | _, _, _, .nil => ⟨rfl, fun m u d e => by cases m <;> cases e⟩
  | _, _, _, .cons r rs => by
    obtain ⟨e, f⟩ := reads_at rs
    refine ⟨by rw [List.length_cons, List.length_cons, e], fun m u d h1 h2 => ?_⟩
    cases m with
    | zero =>
      cases h1
      cases h2
      exact ⟨_, r⟩
    | succ m => exact f m u d h1 h2
theorem mt_indexD {X : Cx} (hu : X.A.units + 64 < cLine) : MtR X "list.index" (rIndexD X.K) := by
  intro pins s σ H x xs v us Q I rv vs h
  obtain ⟨a, ys, y, ds, d, j, dj, rfl, rfl, hq, da, dy, sh, sd, hj, ej, bef, q⟩ := h
  cases rv
  cases vs with
  | cons ry rest =>
    cases rest
    obtain ⟨its, vals, pl, hz⟩ := I.list hq
    obtain ⟨as, ra⟩ := Dp.readsAll I ds ys its da vals
    obtain ⟨bs, rd⟩ := Dp.reads I d y _ dy ry
    have il := pl.isList
    obtain ⟨o, n, ho, oc, od, odt⟩ := pl
    obtain ⟨cls, dict, data, slots⟩ := o
    cases oc
    cases od
    cases odt
    obtain ⟨ul, rat⟩ := reads_at ra
    have vl := vals.length
    have jl := (List.getElem?_eq_some_iff.mp hj).1
    have sd2 := sd
    unfold shD at sd2
    rw [Bool.and_eq_true, decide_eq_true_eq] at sd2
    have shm : ∀ {m : Nat} {d' : PyData}, ds[m]? = some d' → d'.canLay0 = true := fun {m d'} e => by
      have := List.all_eq_true.mp sh d' (List.mem_of_getElem? e)
      unfold shD at this
      rw [Bool.and_eq_true] at this
      exact this.1
    have rdm : ∀ (m : Nat) (hm : m < its.toArray.size), ∃ d', ds[m]? = some d' ∧ SeqAt.readOf s.heap its.toArray[m] = d' := fun m hm => by
      have hm' : m < its.length := by simpa using hm
      have e1 : ds[m]? = some (ds[m]'(by omega)) := List.getElem?_eq_getElem _
      have e2 : its[m]? = some (its[m]'hm') := List.getElem?_eq_getElem _
      obtain ⟨cs, rc⟩ := rat m _ _ e2 e1
      exact ⟨_, e1, SeqAt.readOf_eq (shm e1) rc⟩
    have line : sizeLine < 2 ^ 63 - 1 := by decide +kernel
    have jt : j < its.toArray.size := by simpa using (show j < its.length by omega)
    refine call_meets PySem.F.slot_list_index il.typeIs PySem.F.entry_list_index (PySem.F.args_list_index_2 _ _) (SeqAt.list_indexAt a its.toArray n none slots _ (fun y => (SeqAt.readOf s.heap y).eqv d) j jt (by omega) ?_ fun m hm lt => ?_) ⟨ho, ?_, ?_⟩
    · obtain ⟨d', e1, e2⟩ := rdm j jt
      rw [hj] at e1
      cases e1
      show (SeqAt.readOf s.heap (its.toArray[j]'jt)).eqv d = true
      rw [e2]
      exact ej
    · obtain ⟨d', e1, e2⟩ := rdm m hm
      show (SeqAt.readOf s.heap its.toArray[m]).eqv d = false
      rw [e2]
      exact bef m d' lt e1
    · exact SeqAt.items_eqAt (by simpa using ra) rd (lay_all sh) sd2.1 (by omega)
    · exact ⟨V.int (j : Int), H, I.kept (fun _ _ e => e), ⟨_, rfl⟩, q⟩
section
variable {K : PySem.W.Frag} {n : Nat} {C : Ct K n} {B : Hp}
def fiX (d : PyData) : List PyData → Option Nat
  | [] => none
  | e :: ds => if e.eqv d = true then some 0 else (fiX d ds).map (· + 1)
theorem fiX_v {d : PyData} : ∀ {ds : List PyData} {j : Nat}, fiX d ds = some j → (∃ dj, ds[j]? = some dj ∧ dj.eqv d = true) ∧ ∀ (m : Nat) (d' : PyData), m < j → ds[m]? = some d' → d'.eqv d = false
  | [], _, e => nomatch e
  | e :: ds, j, w => by
    unfold fiX at w
    by_cases c : e.eqv d = true
    · rw [if_pos c] at w
      cases w
      exact ⟨⟨e, rfl, c⟩, fun m d' hm => absurd hm (Nat.not_lt_zero m)⟩
    · rw [if_neg c] at w
      obtain ⟨j', e', rfl⟩ := Option.map_eq_some_iff.mp w
      obtain ⟨⟨z, z1, z2⟩, z3⟩ := fiX_v e'
      refine ⟨⟨z, z1, z2⟩, fun m d' hm hz => ?_⟩
      cases m with
      | zero =>
        cases hz
        simpa using c
      | succ m => exact z3 m d' (by omega) hz
def gIndexD : PyData → PyData → R PyData
  | .list ds, d => R.when (shD d = true ∧ ds.all shD = true) (match fiX d ds with
    | some j => .ok (.int (j : Nat))
    | none => .bad)
  | _, _ => .bad
def vIndexD (fa fb : VE) : VE := fun S => (fa S).bind fun p => match p.1 with
  | .list ds => (fb p.2).bind fun q => (gIndexD (.list ds) q.1).bind fun z => .ok (z, q.2)
  | _ => .bad
theorem s_indexD {ta tb : TE} {fa fb : VE} (ha : SE C ta fa) (hb : SE C tb fb) : SE C (tBM K "list" (rIndexD K) ta (tCons tb tNil)) (vIndexD fa fb) := by
  intro σ H B S Q R h
  unfold vIndexD at h
  rw [post_bind] at h
  refine ha σ H B S _ R (h.mono fun p h1 v H1 B1 R1 e1 d1 => ?_)
  obtain ⟨dd, S1⟩ := p
  dsimp only at d1 h1 R1
  split at h1
  · rename_i ds
    cases d1 with
    | lst s a =>
    rename_i ad xs
    refine ⟨.inl ⟨rfl, _, SqL.of (R1.base.bh _ _ s)⟩, ?_⟩
    rw [post_bind] at h1
    refine hb σ H1 B1 S1 _ R1 (h1.mono fun q h2 w H2 B2 R2 e2 d2 => ?_)
    rw [post_bind] at h2
    obtain ⟨k, h2⟩ := post_when.mp h2
    split at h2
    · rename_i j fj
      obtain ⟨⟨dj, z1, z2⟩, z3⟩ := fiX_v fj
      exact ⟨_, xs, w, ds, q.1, j, dj, rfl, rfl, SqL.of (R2.base.bh _ _ (e2 _ _ s)), daa_dp (daa_mono R2.base.bh (daa_mono e2 a)), da_dp (da_mono R2.base.bh d2), k.2, k.1, z1, z2, z3, h2 _ H2 B2 R2 (e1.trans e2) (.int _)⟩
    · exact h2.elim
  · exact h1.elim
end
theorem w_indexD {fa fb : VE} {S : SS} {kE : PyData × SS → Prop} (h : (fa S).okTo fun p => ∃ ds, p.1 = .list ds ∧ (fb p.2).okTo fun q => (gIndexD (.list ds) q.1).okTo fun z => kE (z, q.2)) : (vIndexD fa fb S).okTo kE := by
  unfold vIndexD
  refine okTo_bind.mpr (h.mono fun p hp => ?_)
  obtain ⟨a, S1⟩ := p
  obtain ⟨ds, rfl, q⟩ := hp
  refine okTo_bind.mpr (q.mono fun z hz => ?_)
  exact okTo_bind.mpr (hz.mono fun w hw => okTo_ok.mpr hw)
end Bo

/-! ### list(range(a, b)) as a new list; a walk over a dict's values -/
namespace Bo
open PySem PySem.Spec PyProof.Rows L2
variable {K : PySem.W.Frag} {n : Nat} {C : Ct K n} {B : Hp}
def vListRg2 (fa fb : VE) : VF := fun S => (fa S).bind fun p => (fb p.2).bind fun q => (toI p.1).bind fun i => (toI q.1).bind fun j => R.when ((-1000000 ≤ i ∧ i ≤ 1000000) ∧ -1000000 ≤ j ∧ j ≤ 1000000) (.ok (rangeD i (j - i).toNat, q.2))
theorem f_listRg2 {ta tb : TE} {fa fb : VE} (ha : SE C ta fa) (hb : SE C tb fb) : SEF C (tLstRg (tRg2 ta tb)) (vListRg2 fa fb) := by
  intro σ H B S Q Re h
  replace h := post_bind.mp h
  refine ha σ H B S _ Re (h.mono fun p h1 v H1 B1 R1 e1 d1 => ?_)
  replace h1 := post_bind.mp h1
  refine hb σ H1 B1 p.2 _ R1 (h1.mono fun q h2 u H2 B2 R2 e2 d2 => ?_)
  obtain ⟨i, rfl, _, h2⟩ := int_of (da_mono e2 d1) (post_bind.mp h2)
  obtain ⟨j, rfl, _, h3⟩ := int_of d2 (post_bind.mp h2)
  obtain ⟨⟨⟨k1, k2⟩, k3, k4⟩, h3⟩ := post_when.mp h3
  refine ⟨i, j, rfl, rfl, ⟨by omega, by omega, by omega, by omega, by omega⟩, fun a ha => ?_⟩
  obtain ⟨R3, L⟩ := R2.newLoose (o := .lst (rgV i j)) ha
  refine h3 a _ _ B2 R3 (e1.trans e2) upd_same L ?_
  unfold rgV rangeD
  exact daa_range i _
theorem w_listRg2 {S : SS} {fa fb : VE} {kA : List PyData × SS → Prop} (h : (fa S).okTo fun p => (fb p.2).okTo fun q => (toI p.1).okTo fun i => (toI q.1).okTo fun j => ((-1000000 ≤ i ∧ i ≤ 1000000) ∧ -1000000 ≤ j ∧ j ≤ 1000000) ∧ kA (rangeD i (j - i).toNat, q.2)) : (vListRg2 fa fb S).okTo kA := by
  unfold vListRg2
  simp only [okTo_bind, okTo_when]
  exact h
/-- for x in d.values(): y = e -/
def foldVA (fg : PyData → SS → R SS) (fe : VE) (fg2 : PyData → SS → R SS) : List PyData → SS → R SS
  | [], S => .ok S
  | d :: ds, S => (fg d S).bind fun S1 => (fe S1).bind fun p => (fg2 p.1 p.2).bind fun S2 => foldVA fg fe fg2 ds S2
def vForVA (i : Nat) (fg : PyData → SS → R SS) (fe : VE) (fg2 : PyData → SS → R SS) : VS := fun S => (dicD S i).bind fun kvs => (foldVA fg fe fg2 (kvs.map (·.2)) (S.set i none)).bind fun S' => .ok (.nx (S'.set i (some (.dic kvs))))
theorem st_forVA {i : Nat} {g g2 : TG} {te : TE} {ts ts2 : List Nat} {fg fg2 : PyData → SS → R SS} {fe : VE} (hi : n ≤ i) (t1 : i ∉ ts) (t2 : i ∉ ts2)
    (hg : ∀ C' : Ct K n, SG C' g fg ts) (he : ∀ C' : Ct K n, SE C' te fe) (hg2 : ∀ C' : Ct K n, SG C' g2 fg2 ts2) : SSt C (tLock (tFor (iVals (tVar i)) g (tAsg te g2))) (vForVA i fg fe fg2) := by
  intro σ H B S D Re h
  obtain ⟨kvs, a, ws, q1, q2, q3, q4, h⟩ := dic_of Re (post_bind.mp h)
  have bN : B a = none := by
    obtain ⟨v, z1, a', ws', rfl, _, z, _⟩ := Re.slot i _ q1
    rw [q2] at z1
    cases z1
    exact z
  have h0 : C.H0 a = none := by
    rcases Re.ownf i _ a q1 rfl q2 with z | z
    · exact z
    · have := (List.getElem?_eq_some_iff.mp z).1
      have := C.hbx
      omega
  have nb : some a ∉ C.bx := fun z => by
    obtain ⟨j, hj⟩ := List.mem_iff_getElem?.mp z
    obtain ⟨b1, s, b2, b3⟩ := Re.box j a hj
    have := Re.dis i j _ s a q1 b2 rfl b3 q2 b1
    have := (List.getElem?_eq_some_iff.mp hj).1
    have := C.hbx
    omega
  refine ⟨a, .dK ws, q3, trivial, fun od => ?_⟩
  have R0 := Re.forget hi
  have no : ∀ (j : Nat) (u : SV), (S.set i none)[j]? = some (some u) → u.mine = true → σ[j]? ≠ some (some (.ref a)) := fun j u e m z => by
    by_cases q : i = j
    · subst q
      rw [List.getElem?_set] at e
      split at e
      · split at e <;> cases e
      · rename_i z
        exact z rfl
    · rw [List.getElem?_set_ne q] at e
      exact q (Re.dis i j _ u a q1 e rfl m q2 z)
  have R1 : Rep C σ (upd H a (.frz od (.dK ws))) B (S.set i none) := by
    refine R0.grow ⟨fun b o na z => ?_, Re.base.b0, fun b o z => ?_, Re.base.fr⟩ (Same.refl _) fun b o z1 z2 ⟨j, u, z3, z4, z5⟩ => ⟨?_, z2⟩
    · rw [upd_ne (ne_of_none z h0)]
      exact Re.base.keep b o na z
    · rw [upd_ne (ne_of_none z bN)]
      exact Re.base.bh b o z
    · rw [upd_ne]
      · exact z1
      · rintro rfl
        exact no j u z3 z4 z5
  have R2 := R1.holdO (D := a) (ob := .frz od (.dK ws)) upd_same ⟨bN, h0, no⟩
  have hl := dpks_len q4
  have hB0 : C.B0 a = none := by
    cases q : C.B0 a with
    | none => rfl
    | some o =>
      rw [Re.base.b0 a o q] at bN
      cases bN
  have hh : ∀ {σ' H' B' S'}, Rep (C.holdO a (.frz od (.dK ws))) σ' H' B' S' → H' a = some (.frz od (.dK ws)) := fun R' => R'.base.keep a _ nb upd_same
  refine ⟨_, q2, a, od, ws, rfl, upd_same, ?_⟩
  have h' := holdO_post (D := a) (ob := .frz od (.dK ws)) h0 (post_bind.mp h)
  generalize hds : kvs.map (·.2) = ds at h'
  have dl : ds.length = ws.length := by rw [← hds, List.length_map]; omega
  refine ⟨fun j m σ' H' => m = ds.length - j ∧ j ≤ ds.length ∧ σ'[i]? = some (some (.ref a)) ∧ ∃ B' S', Rep (C.holdO a (.frz od (.dK ws))) σ' H' B' S' ∧ Same B B' ∧ Post (C.holdO a (.frz od (.dK ws))) (foldVA fg fe fg2 (ds.drop j) S') (fun S' => Post C (R.ok (FL.nx (S'.set i (some (SV.dic kvs))))) (FlPost C B D)),
    ⟨ds.length, by simp, Nat.zero_le _, q2, B, _, R2, Same.refl _, h'⟩, ?_⟩
  rintro j m σ' H' ⟨rfl, hj, qi, B', S', R', e', q⟩
  rcases Nat.lt_or_ge j ds.length with hlt | hge
  · refine .inr ⟨⟨hh R', by omega⟩, fun σ2 H2 => σ2[i]? = some (some (.ref a)) ∧ ∃ B2 S2, Rep (C.holdO a (.frz od (.dK ws))) σ2 H2 B2 S2 ∧ Same B B2 ∧ Post (C.holdO a (.frz od (.dK ws))) (foldVA fg fe fg2 (ds.drop (j + 1)) S2) (fun S' => Post C (R.ok (FL.nx (S'.set i (some (SV.dic kvs))))) (FlPost C B D)), ?_, ?_⟩
    · rintro σ2 H2 ⟨qi2, B2, S2, R2, e2, q2⟩
      exact ⟨ds.length - (j + 1), by omega, rfl, hlt, qi2, B2, S2, R2, e2, q2⟩
    · intro x H2 y
      obtain ⟨rfl, k, y⟩ := y
      obtain ⟨d, e1, e2⟩ := dpks_at q4 y
      rw [hds] at e1
      have ed : ds[j] = d := by
        obtain ⟨_, z⟩ := List.getElem?_eq_some_iff.mp e1
        exact z
      rw [List.drop_eq_getElem_cons hlt, ed] at q
      replace q := post_bind.mp q
      refine hg _ σ' _ B' S' x d _ R' (da_mono e' e2) (q.mono fun S3 q σ3 R3 _ k3 => ?_)
      replace q := post_bind.mp q
      refine he _ σ3 _ B' S3 _ R3 (q.mono fun p q v H4 B4 R4 e4 d4 => ?_)
      replace q := post_bind.mp q
      refine hg2 _ σ3 H4 B4 p.2 v p.1 _ R4 d4 (q.mono fun S5 q σ5 R5 _ k5 => ?_)
      exact ⟨by rw [k5 i t2, k3 i t1]; exact qi, B4, S5, R5, e'.trans e4, q⟩
  · have ei : j = ds.length := by omega
    subst ei
    rw [List.drop_length] at q
    obtain ⟨R4, ha, L4⟩ := R'.unholdO h0 hB0 nb
    refine .inl ⟨⟨hh R', by omega⟩, ha, ?_⟩
    have R5 : Rep C σ' (upd H' a (.dK ws)) B' S' := by
      refine R4.grow ⟨fun b o na z => ?_, R4.base.b0, fun b o z => ?_, R4.base.fr⟩ (Same.refl _) fun b o z1 z2 ⟨j, u, z3, z4, z5⟩ => ⟨?_, z2⟩
      · rw [upd_ne (ne_of_none z h0)]
        exact R4.base.keep b o na z
      · rw [upd_ne (ne_of_none z L4.b)]
        exact R4.base.bh b o z
      · rw [upd_ne]
        · exact z1
        · rintro rfl
          exact L4.no j u z3 z4 z5
    have R6 := R5.take (s := .dic kvs) hi rfl ⟨a, ws, rfl, upd_same, L4.b, dpks_mono e' q4⟩ h0 L4.no
    have es : σ'.set i (some (.ref a)) = σ' := by
      obtain ⟨z1, z2⟩ := List.getElem?_eq_some_iff.mp qi
      rw [← z2]
      exact List.set_getElem_self z1
    rw [es] at R6
    exact q _ _ B' R6 e'
/-! sorted(d), where the keys and what they hold are ints -/
def rSortKs : List V → Hp → VK → Prop := fun xs H Q => ∃ (a : Addr) (kvs : List (Key × V)) (ks : List Int), xs = [.ref a] ∧ Rd H a (.dK kvs) ∧ kvs.map (·.1) = ks.map Sum.inl ∧ ks.length < 64 ∧
    ∀ (ys : List Int) (p : Addr), ys.Perm ks → ys.Pairwise (· ≤ ·) → H p = none → Q (.ref p) (upd H p (.lst (ys.map V.int)))
theorem cr_sortKs {X : Cx} (hc : X.calm = true) : CallR X (.builtin "sorted") rSortKs := call_sortedDI hc
def sortI (ks : List Int) : List Int := ks.mergeSort fun a b => decide (a ≤ b)
def vSortKs (i : Nat) : VF := fun S => (dicD S i).bind fun kvs => match intKs kvs with
  | some ps => R.when (ps.length < 64) (.ok ((sortI (ps.map (·.1))).map PyData.int, S))
  | none => .bad
theorem sortI_perm (ks : List Int) : (sortI ks).Perm ks := List.mergeSort_perm _ _
theorem sortI_rise (ks : List Int) : (sortI ks).Pairwise (· ≤ ·) := by
  have := List.pairwise_mergeSort (le := fun a b : Int => decide (a ≤ b)) (fun a b c h1 h2 => by simp only [decide_eq_true_iff] at *; omega) (fun a b => by simp only [Bool.or_eq_true, decide_eq_true_iff]; omega) ks
  exact this.imp fun h => of_decide_eq_true h
theorem daa_is : ∀ ys : List Int, DaAll K B (ys.map V.int) (ys.map PyData.int)
  | [] => .nil
  | _ :: r => .cons (.int _) (daa_is r)
theorem f_sortKs {i : Nat} : SEF C (tCB rSortKs (tCons (tVar i) tNil)) (vSortKs i) := by
  intro σ H B S Q Re h
  obtain ⟨kvs, a, ws, q1, q2, q3, q4, h⟩ := dic_of Re (post_bind.mp h)
  split at h
  · rename_i ps e
    obtain ⟨hl, h⟩ := post_when.mp h
    have ew := intKs_v q4 e
    refine ⟨_, q2, a, ws, ps.map (·.1), rfl, .inl q3, by rw [ew, List.map_map, List.map_map]; rfl, by rw [List.length_map]; exact hl, fun ys p perm so hp => ?_⟩
    have ey : ys = sortI (ps.map (·.1)) := ints_uniq (perm.trans (sortI_perm _).symm) so (sortI_rise _)
    obtain ⟨R2, L⟩ := Re.newLoose (o := .lst (ys.map V.int)) hp
    refine h p _ _ B R2 (Same.refl _) upd_same L ?_
    rw [← ey]
    exact daa_is ys
  · exact h.elim
/-! xs[::-1] of a slot's own list -/
def vRevN (i : Nat) : VF := fun S => (ownD S i).bind fun ds => .ok (ds.reverse, S)
theorem daa_revN : ∀ {vs : List V} {ds : List PyData}, DaAll K B vs ds → DaAll K B vs.reverse ds.reverse
  | _, _, .nil => .nil
  | _, _, .cons h t => by
    rw [List.reverse_cons, List.reverse_cons]
    exact daa_app (daa_revN t) (.cons h .nil)
theorem f_revN {i : Nat} : SEF C (tRevL K (tVar i)) (vRevN i) := by
  intro σ H B S Q Re h
  obtain ⟨ds, a, vs, q1, q2, q3, q4, h⟩ := own_of Re (post_bind.mp h)
  refine ⟨_, q2, a, vs, rfl, SqL.of q3, fun p hp => ?_⟩
  obtain ⟨R2, L⟩ := Re.newLoose (o := .lst vs.reverse) hp
  exact h p _ _ B R2 (Same.refl _) upd_same L (daa_revN q4)
/-! xs.index(x) on data, inside a comprehension -/
theorem pe_indexDK {X : Cx} (K : PySem.W.Frag) {o e : Expr} {to t1 : TE} {apos cpos : Pos} (hk : X.K = K) (hu : X.A.units + 64 < cLine) (ho : PE X o to) (he : PE X e t1)
    (h1 : attributeBase o "index" X.env (eval o X.env) = eval o X.env := by rfl)
    (h2 : (((backTo cpos (starEach [e] X.env)).all fun x => !x.fst) && ((backToKw cpos (keywordEach [] X.env)).all fun x => x.fst.isSome) && decide ([e].length + ([] : List Expr).length + (if ([] : List Expr).isEmpty = true then 0 else 1) < 30)) = true := by rfl)
    (h3 : (apos.endLine == cpos.line) = true := by rfl)
    (h4 : starEach [e] X.env = (false, eval e X.env) :: starEach [] X.env := by rfl)
    (h5 : ((backTo cpos (starEach [] X.env)).any fun x => x.fst) = false := by rfl) :
    PE X ((o.Attribute "index" apos).Call [e] [] cpos) (tBM K "list" (rIndexD K) to (tCons t1 tNil)) := by
  subst hk
  exact pe_bm PySem.F.plainAttrs_list PySem.F.slot_list_index PySem.F.type_list_index (mt_indexD hu) ho (pa_cons (hs := h4) he pa_nil) h1 h2 h3 h4 h5
end Bo

/-! ### d not in xs, xs a slot's own list of data of any depth -/
namespace Bo
open PySem L2
section
variable {K : PySem.W.Frag} {n : Nat} {C : Ct K n}
open Classical in
noncomputable def vNotInO (fa : VE) (i : Nat) : VE := fun S => (fa S).bind fun p => (ownD p.2 i).bind fun ds => R.when (SeqAt.shaped p.1 = true ∧ SeqAt.shaped (.list ds) = true) (.ok (.bool (!ds.any fun z => PyData.eqv z p.1), p.2))
theorem s_notInO {i : Nat} {ta : TE} {fa : VE} (ha : SE C ta fa) : SE C (tOp (rNotInD K) ta (tVar i)) (vNotInO fa i) := by
  intro σ H B S Q Re h
  replace h := post_bind.mp h
  refine ha σ H B S _ Re (h.mono fun p h1 v H1 B1 R1 e1 d1 => ?_)
  obtain ⟨ds, a, vs, q1, q2, q3, q4, h1⟩ := own_of R1 (post_bind.mp h1)
  obtain ⟨⟨k1, k2⟩, h1⟩ := post_when.mp h1
  exact ⟨_, q2, p.1, ds, da_dp (da_mono R1.base.bh d1), .lst (SqL.of q3) (daa_dp (daa_mono R1.base.bh q4)), k1, k2, h1 _ H1 B1 R1 e1 (.bl _)⟩
theorem w_notInO {S : SS} {i : Nat} {fa : VE} {kE : PyData × SS → Prop} (h : (fa S).okTo fun p => (ownD p.2 i).okTo fun ds => (SeqAt.shaped p.1 = true ∧ SeqAt.shaped (.list ds) = true) ∧ kE (.bool (!ds.any fun z => PyData.eqv z p.1), p.2)) : (vNotInO fa i S).okTo kE := by
  unfold vNotInO
  refine okTo_bind.mpr (h.mono fun p hp => okTo_bind.mpr (hp.mono fun ds hd => ?_))
  exact okTo_when.mpr hd
end
theorem k_notInD {X : Cx} (K : PySem.W.Frag) (h : X.K = K) (hu : X.A.units + 65 < cLine) : OpR X (compareOp .NotIn) (rNotInD K) := h ▸ op_notInD hu
theorem units65 {k : Nat} {A : Around} (r : Room k A) : A.units + 65 < cLine := by
  have := r.un
  omega
end Bo

/-! ### sorted(xs), any alike data -/
namespace Bo
open PySem L2 PySem.W
/-- the new list: the items and what they are worth, put in order together -/
def rSortD (K : PySem.W.Frag) : List V → Hp → VK → Prop := fun vs H Q => ∃ (a : Addr) (zs : List (V × PyData)), vs = [.ref a] ∧ SqL K H a (zs.map (·.1)) ∧ (∀ z ∈ zs, Dp K H z.1 z.2) ∧ AllAlike (zs.map (·.2)) ∧ Sortable (zs.map (·.2)) ∧ (∀ z ∈ zs, z.2.depth ≤ 60) ∧
  ∀ (p : Addr), H p = none → Q (.ref p) (upd H p (.lst ((zs.mergeSort (dataLe false (·.2))).map (·.1))))
theorem vals_each : ∀ {zs : List (V × PyData)} {us : List Value}, Vals (zs.map (·.1)) us → EachIs (fun (u : Value) (z : V × PyData) => RelV z.1 u) us zs
  | [], _, .nil => .nil
  | _ :: _, _, .cons h t => .cons h (vals_each t)
theorem each_vals : ∀ {zs : List (V × PyData)} {us : List Value}, EachIs (fun (u : Value) (z : V × PyData) => RelV z.1 u) us zs → Vals (zs.map (·.1)) us
  | _, _, .nil => .nil
  | _, _, .cons h t => .cons h (each_vals t)
theorem each_and {α β : Type} {R S : α → β → Prop} : ∀ {as : List α} {bs : List β}, EachIs R as bs → (∀ a b, b ∈ bs → R a b → S a b) → EachIs S as bs
  | _, _, .nil, _ => .nil
  | _, _, .cons h t, f => .cons (f _ _ List.mem_cons_self h) (each_and t fun a b hb => f a b (List.mem_cons_of_mem _ hb))
section
variable {X : Cx}
theorem cr_sortD (hu : X.A.units + 64 < cLine) : CallR X (.builtin "sorted") (rSortD X.K) := by
  intro pins s σ H vs us Q I r h
  obtain ⟨a, zs, rfl, hs, hz, hal, hso, hd, q⟩ := h
  obtain ⟨its, rv, hl, hlen⟩ := I.list hs
  rw [Vals.ref1 r]
  have e := vals_each rv
  refine sorted_data (bs := zs) (enc := (·.2)) (R := fun u z => RelV z.1 u) hl.isList e (each_and e fun u z hm hr => Dp.reads I z.2 z.1 u (hz z hm) hr) hal hso (by rw [List.length_map] at hlen; exact hlen) (fun z hm => by have := hd z hm; omega) fun out lo eo => ?_
  obtain ⟨ep, he'⟩ := PyProof.Rows.sortedAll_at s.heap its out.toArray
  have hl2 : ((zs.mergeSort (dataLe false (·.2))).map (·.1)).length ≤ sizeLine := by
    rw [List.length_map, List.length_mergeSort]
    rw [List.length_map] at hlen
    exact hlen
  exact ⟨.ref _, upd H (s.heap.objs.size + 1) (.lst ((zs.mergeSort (dataLe false (·.2))).map (·.1))), I.laid (t' := s.toks) (fun _ _ => PyProof.Rows.sortedAll_old) (Nat.le_succ _) ⟨hl2, out, ep, each_vals eo, he'⟩, rfl, q _ (I.hok.fresh (Nat.le_succ _))⟩
end
section
variable (K : PySem.W.Frag) {X : Cx} (h : X.K = K := by rfl)
include h
theorem k_sortD (hu : X.A.units + 64 < cLine) : CallR X (.builtin "sorted") (rSortD K) := h ▸ cr_sortD hu
end
section
variable {K : PySem.W.Frag} {n : Nat} {C : Ct K n} {σ : L2.St} {H B : Hp} {S : SS}
open Classical in
noncomputable def gSortD : List PyData → R PyData
  | [.list ds] => R.when ((AllAlike ds ∧ Sortable ds) ∧ ∀ d ∈ ds, d.depth ≤ 60) (.ok (.list (ds.mergeSort (dataLe false id))))
  | _ => .bad
theorem daa_pairs : ∀ {xs : List V} {ds : List PyData}, DaAll K B xs ds → ∃ zs : List (V × PyData), xs = zs.map (·.1) ∧ ds = zs.map (·.2) ∧ ∀ z ∈ zs, Da K B z.1 z.2
  | _, _, .nil => ⟨[], rfl, rfl, fun z h => nomatch h⟩
  | _, _, .cons (v := v) (d := d) h t => by
    obtain ⟨zs, e1, e2, e3⟩ := daa_pairs t
    exact ⟨(v, d) :: zs, by rw [e1]; rfl, by rw [e2]; rfl, fun z hz => by
      rcases List.mem_cons.mp hz with rfl | hz
      · exact h
      · exact e3 z hz⟩
theorem pairs_daa : ∀ {zs : List (V × PyData)}, (∀ z ∈ zs, Da K B z.1 z.2) → DaAll K B (zs.map (·.1)) (zs.map (·.2))
  | [], _ => .nil
  | z :: zs, h => .cons (h z List.mem_cons_self) (pairs_daa fun y hy => h y (List.mem_cons_of_mem _ hy))
theorem c_sortD : SCR C (rSortD K) gSortD := by
  intro σ H B S xs ds Q R d h
  cases d with
  | nil => exact h.elim
  | cons h1 t =>
    cases t with
    | cons h2 t => cases h1 <;> exact h.elim
    | nil =>
      cases h1 with
      | lst s a =>
        classical
        unfold gSortD at h
        simp only at h
        obtain ⟨⟨⟨c1, c2⟩, c3⟩, h⟩ := post_when.mp h
        obtain ⟨zs, e1, e2, e3⟩ := daa_pairs a
        subst e2
        have e3' : ∀ z ∈ zs, Dp K H z.1 z.2 := fun z hz => da_dp (da_mono R.base.bh (e3 z hz))
        rw [e1] at s
        refine ⟨_, zs, rfl, SqL.of (R.base.bh _ _ s), e3', c1, c2, fun z hz => c3 _ (List.mem_map.mpr ⟨z, hz, rfl⟩), fun p hp => ?_⟩
        have em : (zs.mergeSort (dataLe false (·.2))).map (·.2) = (zs.map (·.2)).mergeSort (dataLe false id) := List.map_mergeSort (r := dataLe false fun z : V × PyData => z.2) (s := dataLe false id) fun a _ b _ => rfl
        have da := pairs_daa (K := K) (B := B) (zs := zs.mergeSort (dataLe false (·.2))) fun z hz => e3 z ((List.mergeSort_perm zs _).mem_iff.mp hz)
        rw [em] at da
        obtain ⟨B', R1, e1, d1⟩ := R.lst hp da
        exact h _ _ B' R1 e1 d1
      | _ => exact h.elim
end
end Bo

/-! ### sorted(t), t a tuple of alike data -/
namespace Bo
open PySem PySem.W PyProof.Rows PySem.Calls
section
variable {prog : Program} {w : World} {A : Around} {E : Value → Shared → Prop} {s : Shared} {β : Type} {R : Value → β → Prop} {enc : β → PyData} {vs : List Value} {bs : List β}
theorem sorted_dataT {l : Addr} {Q : Value → Shared → Prop} (hl : IsTup s.heap l vs.toArray) (e : EachIs R vs bs) (er : EachIs (fun v b => ∃ as, Reads s.heap v (enc b) as) vs bs) (hal : AllAlike (bs.map enc)) (hk : Sortable (bs.map enc)) (hL : bs.length ≤ sizeLine)
    (hu : ∀ b, b ∈ bs → A.units + 2 + (enc b).depth < cLine) (h : ∀ (out : List Value) (h1 h' : Heap) (ep : Nat), (∀ b o, s.heap.get? b = some o → h1.get? b = some o) → (∀ b o, h1.get? b = some o → h'.get? b = some o) → h'.get? h1.objs.size = some (seqObj "list" out.toArray ep) → out.length = bs.length → EachIs R out (bs.mergeSort (dataLe false enc)) → Q (.ref h1.objs.size) { s with heap := h' }) :
    wpAny (model prog w) A (call (.builtin "sorted") [.ref l]) Q E s := by
  obtain ⟨o, ho, hc, n, hd⟩ := hl
  have hL' : vs.length ≤ sizeLine := by rw [e.length]; exact hL
  refine call_function_entry_kw kind_sorted plain_sorted entry_sorted (args_sorted1 _) ?_
  unfold Builtin.«sorted»
  refine wpAny_bind (m := checkCount "sorted" 1 1 _) (wpAny_pure ?_)
  refine wpAny_bind (wpAny_collect_seq (hsz := by rw [List.size_toArray]; exact hL') l (.inr rfl) ho hc hd fun h1 k1 => ?_)
  refine wpAny_bind (wpAny_newList ?_ hL')
  have ho1 : (h1.push (seqObj "list" vs.toArray 0)).get? h1.objs.size = some (seqObj "list" vs.toArray 0) := Heap.get?_push_size _ rfl
  have er' : EachIs (fun v b => ∃ as, Reads (sortingHeap (h1.push (seqObj "list" vs.toArray 0)) h1.objs.size vs) v (enc b) as) vs bs := er.mono fun _ _ ⟨as, r⟩ => ⟨as, PyProof.Rows.Reads.keeps (fun b o q => sortingHeap_old (Nat.ne_of_lt (Heap.lt_size (k1 _ _ q))) (Heap.get?_push_of_some _ (k1 _ _ q))) r⟩
  show wpAny _ _ _ _ _ { s with heap := h1.push (seqObj "list" vs.toArray 0) }
  refine wpAny_bind (wpAny_holding (wpAny_call_entry_kw slot_list_sort ⟨_, ho1, rfl⟩ entry_list_sort ?_ (args_list_sort _)))
  show wpAny (model prog w) A.in1.in1 (Builtin.«list.sort» ⟨[.ref h1.objs.size], []⟩) _ _ _
  refine list_sort_vals (s := { s with heap := h1.push (seqObj "list" vs.toArray 0) }) ho1 (SortsAt.data (s := { s with heap := sortingHeap (h1.push (seqObj "list" vs.toArray 0)) h1.objs.size vs }) (each_map (R := fun v d => ∃ as, Reads (sortingHeap (h1.push (seqObj "list" vs.toArray 0)) h1.objs.size vs) v d as) enc er') hal hk (bound_map hu)) hL' ?_
  obtain ⟨ep, g⟩ := sortedHeap_at (out := (sortVals (dataKind (sortingHeap (h1.push (seqObj "list" vs.toArray 0)) h1.objs.size vs) (bs.map enc)) false vs vs).toArray) ho1
  refine ⟨_, rfl, wpAny_pure ⟨_, rfl, h (sortVals (dataKind (sortingHeap (h1.push (seqObj "list" vs.toArray 0)) h1.objs.size vs) (bs.map enc)) false vs vs) h1 _ ep k1 (fun b o q => ?_) g (by rw [sortVals_length false rfl]; exact e.length) (sortVals_data false e er' hal)⟩⟩
  have lb := Heap.lt_size q
  rw [sortedHeap_old (Nat.ne_of_lt lb) (by rw [size_push']; exact Nat.lt_succ_of_lt lb)]
  exact Heap.get?_push_of_some _ q
end
section
variable {X : Cx}
open L2
/-- the new list: the items of a tuple and what they are worth, put in order together -/
def rSortT (K : PySem.W.Frag) : List V → Hp → VK → Prop := fun vs H Q => ∃ (a : Addr) (zs : List (V × PyData)), vs = [.ref a] ∧ SqT K H a (zs.map (·.1)) ∧ (∀ z ∈ zs, Dp K H z.1 z.2) ∧ AllAlike (zs.map (·.2)) ∧ Sortable (zs.map (·.2)) ∧ (∀ z ∈ zs, z.2.depth ≤ 60) ∧
  ∀ (p : Addr), H p = none → Q (.ref p) (upd H p (.lst ((zs.mergeSort (dataLe false (·.2))).map (·.1))))
theorem cr_sortT (hu : X.A.units + 64 < cLine) : CallR X (.builtin "sorted") (rSortT X.K) := by
  intro pins s σ H vs us Q I r h
  obtain ⟨a, zs, rfl, hs, hz, hal, hso, hd, q⟩ := h
  obtain ⟨its, rv, hl, hlen⟩ := I.tuple hs
  rw [Vals.ref1 r]
  have e := vals_each rv
  refine sorted_dataT (bs := zs) (enc := (·.2)) (R := fun u z => RelV z.1 u) hl e (each_and e fun u z hm hr => Dp.reads I z.2 z.1 u (hz z hm) hr) hal hso (by rw [List.length_map] at hlen; exact hlen) (fun z hm => by have := hd z hm; omega) fun out h1 h' ep k1 k2 g lo eo => ?_
  have hl2 : ((zs.mergeSort (dataLe false (·.2))).map (·.1)).length ≤ sizeLine := by
    rw [List.length_map, List.length_mergeSort]
    rw [List.length_map] at hlen
    exact hlen
  have I1 : Inv X pins σ H { s with heap := h1 } := I.kept (t' := s.toks) k1
  exact ⟨.ref _, upd H h1.objs.size (.lst ((zs.mergeSort (dataLe false (·.2))).map (·.1))), I1.laid (t' := s.toks) k2 (Nat.le_refl _) ⟨hl2, out, ep, each_vals eo, g⟩, rfl, q _ (I1.hok.fresh (Nat.le_refl _))⟩
theorem k_sortT (K : PySem.W.Frag) (h : X.K = K) (hu : X.A.units + 64 < cLine) : CallR X (.builtin "sorted") (rSortT K) := h ▸ cr_sortT hu
end
section
variable {K : PySem.W.Frag} {n : Nat} {C : Ct K n} {σ : L2.St} {H B : Hp} {S : SS}
open L2
open Classical in
noncomputable def gSortT : List PyData → R PyData
  | [.tuple ds] => R.when ((AllAlike ds ∧ Sortable ds) ∧ ∀ d ∈ ds, d.depth ≤ 60) (.ok (.list (ds.mergeSort (dataLe false id))))
  | _ => .bad
theorem c_sortT : SCR C (rSortT K) gSortT := by
  intro σ H B S xs ds Q R d h
  cases d with
  | nil => exact h.elim
  | cons h1 t =>
    cases t with
    | cons h2 t => cases h1 <;> exact h.elim
    | nil =>
      cases h1 with
      | tup s a =>
        classical
        unfold gSortT at h
        simp only at h
        obtain ⟨⟨⟨c1, c2⟩, c3⟩, h⟩ := post_when.mp h
        obtain ⟨zs, e1, e2, e3⟩ := daa_pairs a
        subst e2
        have e3' : ∀ z ∈ zs, Dp K H z.1 z.2 := fun z hz => da_dp (da_mono R.base.bh (e3 z hz))
        rw [e1] at s
        refine ⟨_, zs, rfl, sm_t R.base.bh s, e3', c1, c2, fun z hz => c3 _ (List.mem_map.mpr ⟨z, hz, rfl⟩), fun p hp => ?_⟩
        have em : (zs.mergeSort (dataLe false (·.2))).map (·.2) = (zs.map (·.2)).mergeSort (dataLe false id) := List.map_mergeSort (r := dataLe false fun z : V × PyData => z.2) (s := dataLe false id) fun a _ b _ => rfl
        have da := pairs_daa (K := K) (B := B) (zs := zs.mergeSort (dataLe false (·.2))) fun z hz => e3 z ((List.mergeSort_perm zs _).mem_iff.mp hz)
        rw [em] at da
        obtain ⟨B', R1, e1, d1⟩ := R.lst hp da
        exact h _ _ B' R1 e1 d1
      | _ => exact h.elim
end
end Bo

/-! ### pop at a place; the greatest of a list -/
namespace Bo
open PySem L2
section
variable {K : PySem.W.Frag} {n : Nat} {C : Ct K n}
def maxI : List Int → Int
  | [] => 0
  | [a] => a
  | a :: b :: l => max a (maxI (b :: l))
theorem maxI_mem : ∀ {l : List Int}, l ≠ [] → maxI l ∈ l ∧ ∀ x ∈ l, x ≤ maxI l
  | [], h => absurd rfl h
  | [a], _ => ⟨List.mem_singleton.mpr rfl, fun x hx => by rw [List.mem_singleton.mp hx]; exact Int.le_refl _⟩
  | a :: b :: l, _ => by
    obtain ⟨h1, h2⟩ := maxI_mem (l := b :: l) (by simp)
    show max a (maxI (b :: l)) ∈ _ ∧ ∀ x ∈ _, x ≤ max a (maxI (b :: l))
    refine ⟨?_, fun x hx => ?_⟩
    · by_cases c : a ≤ maxI (b :: l)
      · rw [Int.max_eq_right c]
        exact List.mem_cons_of_mem _ h1
      · rw [Int.max_eq_left (by omega)]
        exact List.mem_cons_self
    · rcases List.mem_cons.mp hx with rfl | hx
      · exact Int.le_max_left _ _
      · exact Int.le_trans (h2 x hx) (Int.le_max_right _ _)
def gMax : List PyData → R PyData
  | [.list ds] => match intsD ds with
    | some ns => R.when (ns ≠ []) (.ok (.int (maxI ns)))
    | none => .bad
  | _ => .bad
theorem c_max : SCR C (rMax K) gMax := by
  intro σ H B S xs ds Q R d h
  cases d with
  | nil => exact h.elim
  | cons h1 t =>
    cases t with
    | cons h2 t => cases h1 <;> exact h.elim
    | nil =>
      cases h1 with
      | lst s a =>
        unfold gMax at h
        simp only at h
        split at h
        · rename_i ns q
          obtain ⟨rfl, rfl⟩ := ints_v a q
          obtain ⟨ne, h⟩ := post_when.mp h
          refine ⟨_, ns, rfl, SqL.of (R.base.bh _ _ s), List.length_pos_iff.mpr ne, fun m hm hx => ?_⟩
          obtain ⟨z1, z2⟩ := maxI_mem ne
          have : m = maxI ns := by
            have := hx _ z1
            have := z2 m hm
            omega
          rw [this]
          exact h _ H B R (Same.refl _) (.int _)
        · exact h.elim
      | _ => exact h.elim
end
section
variable {X : Cx} (K : PySem.W.Frag) (h : X.K = K)
include h
theorem k_max (hc : X.calm = true) : CallR X (.builtin "max") (rMax K) := h ▸ cr_max hc
end
theorem w_gMax {ns : List Int} {kD : PyData → Prop} (ne : ns ≠ []) (q : kD (.int (maxI ns))) : (gMax [.list (ns.map .int)]).okTo kD := by
  unfold gMax
  dsimp only
  rw [ints_map]
  exact okTo_when.mpr ⟨ne, okTo_ok.mpr q⟩
end Bo

/-! ### list.index inside a comprehension -/
namespace Bo
open PySem L2
theorem pe_indexK {X : Cx} (K : PySem.W.Frag) {o e : Expr} {to t1 : TE} {apos cpos : Pos} (hk : X.K = K) (ho : PE X o to) (he : PE X e t1)
    (h1 : attributeBase o "index" X.env (eval o X.env) = eval o X.env := by rfl)
    (h2 : (((backTo cpos (starEach [e] X.env)).all fun x => !x.fst) && ((backToKw cpos (keywordEach [] X.env)).all fun x => x.fst.isSome) && decide ([e].length + ([] : List Expr).length + (if ([] : List Expr).isEmpty = true then 0 else 1) < 30)) = true := by rfl)
    (h3 : (apos.endLine == cpos.line) = true := by rfl)
    (h4 : starEach [e] X.env = (false, eval e X.env) :: starEach [] X.env := by rfl)
    (h5 : ((backTo cpos (starEach [] X.env)).any fun x => x.fst) = false := by rfl) :
    PE X ((o.Attribute "index" apos).Call [e] [] cpos) (tBM K "list" (rIndex K) to (tCons t1 tNil)) := by
  subst hk
  exact pe_bm PySem.F.plainAttrs_list PySem.F.slot_list_index PySem.F.type_list_index mt_index ho (pa_cons (hs := h4) he pa_nil) h1 h2 h3 h4 h5
end Bo

/-! ### lists within a list that are changed in place: by hand, between pieces that are read as functions -/
namespace Bo
open PySem L2
section
variable {K : PySem.W.Frag} {H B H1 B1 H2 B2 : Hp} {er : Exc → V → Hp → Prop}
/-- what a piece of code did: what stood stands, and what is told of as staying is new or was so -/
structure Stp (H B H1 B1 : Hp) : Prop where
  sH : Same H H1
  sB : Same B B1
  bh : Same B1 H1
  fz : Frz H B B1
theorem Stp.refl (bh : Same B H) : Stp H B H B := ⟨Same.refl _, Same.refl _, bh, fun _ _ z => .inl z⟩
theorem Stp.trans (a : Stp H B H1 B1) (b : Stp H1 B1 H2 B2) : Stp H B H2 B2 := ⟨a.sH.trans b.sH, a.sB.trans b.sB, b.bh, fun x o z => by
  rcases b.fz x o z with q | q
  · exact a.fz x o q
  · refine .inr ?_
    cases e : H x with
    | none => rfl
    | some u =>
      rw [a.sH x u e] at q
      cases q⟩
/-- what is changed stays changed: not told of as staying -/
theorem Stp.gone (s : Stp H B H1 B1) {a : Addr} {o : HO} (h : H a = some o) (b : B a = none) : B1 a = none := by
  cases e : B1 a with
  | none => rfl
  | some u =>
    rcases s.fz a u e with q | q
    · rw [b] at q
      cases q
    · rw [h] at q
      cases q
/-- slots that hold data alone -/
def Flats (K : PySem.W.Frag) (B : Hp) (σ : L2.St) (S : SS) : Prop := S.length = σ.length ∧ ∀ (i : Nat) s, S[i]? = some (some s) → ∃ d v, s = .dat d ∧ σ[i]? = some (some v) ∧ Da K B v d
theorem Flats.rep {σ : L2.St} {S : SS} (f : Flats K B σ S) (bh : Same B H) : Rep (ct0 (K := K) H B er) σ H B S := by
  have no : ∀ (i : Nat) s, S[i]? = some (some s) → s.mine = true → False := fun i s h m => by
    obtain ⟨d, _, rfl, _⟩ := f.2 i s h
    cases m
  refine ⟨⟨fun a o _ q => q, Same.refl _, bh, fun a o q => .inl q⟩, f.1, fun i s h => ?_, fun i j s u a h1 h2 m1 m2 e1 e2 => (no i s h1 m1).elim, fun i s a h m e => (no i s h m).elim, fun i a h => nomatch (show (none : Option (Option Addr)) = some (some a) from h)⟩
  obtain ⟨d, v, rfl, h1, h2⟩ := f.2 i s h
  exact ⟨v, h1, h2⟩
theorem Flats.mono {σ : L2.St} {S : SS} (f : Flats K B σ S) (e : Same B B1) : Flats K B1 σ S := ⟨f.1, fun i s h => by
  obtain ⟨d, v, rfl, h1, h2⟩ := f.2 i s h
  exact ⟨d, v, rfl, h1, da_mono e h2⟩⟩
theorem Flats.put {σ : L2.St} {S : SS} {i : Nat} {v : V} {d : PyData} (f : Flats K B σ S) (h : Da K B v d) : Flats K B (σ.set i (some v)) (S.set i (some (.dat d))) := ⟨by simp [f.1], fun j s q => by
  by_cases e : j = i
  · subst e
    have hl : j < S.length := by
      have := (List.getElem?_eq_some_iff.mp q).1
      simpa using this
    rw [List.getElem?_set_self hl] at q
    cases q
    exact ⟨d, v, rfl, List.getElem?_set_self (by rw [← f.1]; exact hl), h⟩
  · rw [List.getElem?_set_ne (Ne.symm e)] at q
    obtain ⟨d, v, rfl, h1, h2⟩ := f.2 j s q
    exact ⟨d, v, rfl, by rw [List.getElem?_set_ne (Ne.symm e)]; exact h1, h2⟩⟩
theorem Rep.stp {σ : L2.St} {S : SS} (R : Rep (ct0 (K := K) H B er) σ H1 B1 S) : Stp H B H1 B1 := ⟨fun a o z => R.base.keep a o (by simp [ct0]) z, R.base.b0, R.base.bh, R.base.fr⟩
/-! ### a list of lists -/
/-- at a a list of lists, each one's own -/
structure NL (K : PySem.W.Frag) (H B : Hp) (a : Addr) (bs : List Addr) (css : List (List PyData)) : Prop where
  top : H a = some (.lst (bs.map V.ref))
  nb : B a = none
  nd : (a :: bs).Nodup
  len : bs.length = css.length
  each : ∀ (i : Nat) b cs, bs[i]? = some b → css[i]? = some cs → ∃ vs, H b = some (.lst vs) ∧ B b = none ∧ DaAll K B vs cs
variable {a : Addr} {bs : List Addr} {css : List (List PyData)}
theorem NL.step (h : NL K H B a bs css) (s : Stp H B H1 B1) : NL K H1 B1 a bs css := ⟨s.sH _ _ h.top, s.gone h.top h.nb, h.nd, h.len, fun i b cs h1 h2 => by
  obtain ⟨vs, q1, q2, q3⟩ := h.each i b cs h1 h2
  exact ⟨vs, s.sH _ _ q1, s.gone q1 q2, daa_mono s.sB q3⟩⟩
/-- everything of the list of lists -/
theorem NL.mem (h : NL K H B a bs css) {x : Addr} (hx : x ∈ a :: bs) : (∃ o, H x = some o) ∧ B x = none := by
  rcases List.mem_cons.mp hx with rfl | hx
  · exact ⟨⟨_, h.top⟩, h.nb⟩
  · obtain ⟨i, hi⟩ := List.getElem?_of_mem hx
    have hl : i < css.length := by
      have := (List.getElem?_eq_some_iff.mp hi).1
      rw [← h.len]
      exact this
    obtain ⟨vs, q1, q2, _⟩ := h.each i x css[i] hi (List.getElem?_eq_getElem hl)
    exact ⟨⟨_, q1⟩, q2⟩
/-- one list more, empty -/
theorem NL.push (h : NL K H B a bs css) {b : Addr} (hb : H b = none) (bh : Same B H) : NL K (upd (upd H b (.lst [])) a (.lst (bs.map V.ref ++ [V.ref b]))) B a (bs ++ [b]) (css ++ [[]]) := by
  have nbm : b ∉ a :: bs := fun hm => by
    obtain ⟨⟨o, ho⟩, _⟩ := h.mem hm
    rw [hb] at ho
    cases ho
  have nba : b ≠ a := fun e => nbm (by rw [e]; exact List.mem_cons_self)
  have nb2 : b ∉ bs := fun e => nbm (List.mem_cons_of_mem _ e)
  have nd := h.nd
  rw [List.nodup_cons] at nd
  refine ⟨by rw [upd_same, List.map_append]; rfl, h.nb, ?_, by rw [List.length_append, List.length_append, h.len]; rfl, fun i c cs h1 h2 => ?_⟩
  · rw [List.nodup_cons]
    refine ⟨fun hm => ?_, ?_⟩
    · rcases List.mem_append.mp hm with q | q
      · exact nd.1 q
      · exact nba (List.mem_singleton.mp q).symm
    · refine List.nodup_append.mpr ⟨nd.2, by simp, fun x hx y hy => ?_⟩
      rw [List.mem_singleton.mp hy]
      rintro rfl
      exact nb2 hx
  · by_cases hi : i < bs.length
    · rw [List.getElem?_append_left hi] at h1
      rw [List.getElem?_append_left (by rw [← h.len]; exact hi)] at h2
      obtain ⟨vs, q1, q2, q3⟩ := h.each i c cs h1 h2
      have n1 : c ≠ a := fun e => nd.1 (by rw [← e]; exact List.mem_of_getElem? h1)
      have n2 : c ≠ b := fun e => nb2 (by rw [← e]; exact List.mem_of_getElem? h1)
      exact ⟨vs, by rw [upd_ne n1, upd_ne n2]; exact q1, q2, q3⟩
    · have e : i = bs.length := by
        have := (List.getElem?_eq_some_iff.mp h1).1
        rw [List.length_append, List.length_singleton] at this
        omega
      subst e
      rw [List.getElem?_append_right (Nat.le_refl _), Nat.sub_self] at h1
      rw [List.getElem?_append_right (by rw [h.len]; exact Nat.le_refl _), h.len, Nat.sub_self] at h2
      cases h1
      cases h2
      refine ⟨[], by rw [upd_ne nba, upd_same], ?_, .nil⟩
      cases q : B b with
      | none => rfl
      | some o =>
        rw [bh b o q] at hb
        cases hb
/-- one of the lists is changed -/
theorem NL.write (h : NL K H B a bs css) {i : Nat} {b : Addr} {vs : List V} {cs : List PyData} (hb : bs[i]? = some b) (d : DaAll K B vs cs) : NL K (upd H b (.lst vs)) B a bs (css.set i cs) := by
  have nd := h.nd
  rw [List.nodup_cons] at nd
  have nba : a ≠ b := fun e => nd.1 (by rw [e]; exact List.mem_of_getElem? hb)
  refine ⟨by rw [upd_ne nba]; exact h.top, h.nb, h.nd, by rw [List.length_set]; exact h.len, fun j c ds h1 h2 => ?_⟩
  by_cases e : j = i
  · subst e
    rw [hb] at h1
    cases h1
    have hl : j < css.length := by
      have := (List.getElem?_eq_some_iff.mp h2).1
      simpa using this
    rw [List.getElem?_set_self hl] at h2
    cases h2
    exact ⟨vs, upd_same, (h.mem (List.mem_cons_of_mem _ (List.mem_of_getElem? hb))).2, d⟩
  · rw [List.getElem?_set_ne (Ne.symm e)] at h2
    obtain ⟨ws, q1, q2, q3⟩ := h.each j c ds h1 h2
    have n : c ≠ b := fun z => by
      subst z
      have l1 := (List.getElem?_eq_some_iff.mp h1)
      have l2 := (List.getElem?_eq_some_iff.mp hb)
      exact e ((List.getElem_inj nd.2).mp (l1.2.trans l2.2.symm))
    exact ⟨ws, by rw [upd_ne n]; exact q1, q2, q3⟩
/-- from here on it stays -/
def frzAll (H B : Hp) (xs : List Addr) : Hp := fun x => if x ∈ xs then H x else B x
theorem NL.rest (h : NL K H B a bs css) (bh : Same B H) : Same B (frzAll H B (a :: bs)) ∧ Same (frzAll H B (a :: bs)) H ∧ Da K (frzAll H B (a :: bs)) (.ref a) (.list (css.map PyData.list)) := by
  have sB : Same B (frzAll H B (a :: bs)) := fun x o q => by
    unfold frzAll
    by_cases e : x ∈ a :: bs
    · have := (h.mem e).2
      rw [this] at q
      cases q
    · rw [if_neg e]
      exact q
  refine ⟨sB, fun x o q => ?_, .lst (xs := bs.map V.ref) ?_ ?_⟩
  · unfold frzAll at q
    by_cases e : x ∈ a :: bs
    · rw [if_pos e] at q
      exact q
    · rw [if_neg e] at q
      exact bh x o q
  · unfold frzAll
    rw [if_pos List.mem_cons_self]
    exact h.top
  · have go : ∀ (m : Nat) (bs' : List Addr) (css' : List (List PyData)), bs'.length = css'.length → (∀ (i : Nat) b cs, bs'[i]? = some b → css'[i]? = some cs → b ∈ a :: bs ∧ ∃ vs, H b = some (.lst vs) ∧ DaAll K (frzAll H B (a :: bs)) vs cs) → DaAll K (frzAll H B (a :: bs)) (bs'.map V.ref) (css'.map PyData.list) := by
      intro m bs'
      induction bs' with
      | nil =>
        intro css' l _
        cases css' with
        | nil => exact .nil
        | cons c r => simp at l
      | cons b r ih =>
        intro css' l hh
        cases css' with
        | nil => simp at l
        | cons c s =>
          obtain ⟨m1, vs, q1, q2⟩ := hh 0 b c rfl rfl
          refine .cons (.lst (xs := vs) ?_ q2) (ih s (by simpa using l) fun i b' cs h1 h2 => hh (i + 1) b' cs h1 h2)
          unfold frzAll
          rw [if_pos m1]
          exact q1
    refine go 0 bs css h.len fun i b cs h1 h2 => ?_
    obtain ⟨vs, q1, q2, q3⟩ := h.each i b cs h1 h2
    exact ⟨List.mem_cons_of_mem _ (List.mem_of_getElem? h1), vs, q1, daa_mono sB q3⟩
/-! ### a loop by hand -/
theorem for_hand {C : Ct K 0} {J : It} {ds : List PyData} (W : Walks C B J ds) {g : TG} {tb : TS} {D : Ends} (Pv : Nat → L2.St → Hp → Hp → Prop)
    (hB : ∀ i σ H1 B1, Pv i σ H1 B1 → Same B B1 ∧ Same B1 H1)
    (step : ∀ (i : Nat) d σ H1 B1 v H2 B2, ds[i]? = some d → Pv i σ H1 B1 → Stp H1 B1 H2 B2 → Da K B2 v d →
      g v σ H2 fun σ2 H3 => tb { D with nx := fun σ3 H4 => ∃ B4, Pv (i + 1) σ3 H4 B4, ct := fun σ3 H4 => ∃ B4, Pv (i + 1) σ3 H4 B4, bk := D.nx } σ2 H3)
    (done : ∀ σ H1 B1, Pv ds.length σ H1 B1 → D.nx σ H1) {σ : L2.St} {H1 B1 : Hp} (h0 : Pv 0 σ H1 B1) :
    ∃ W' : Nat → Nat → L2.St → Hp → Prop, (∃ m, W' 0 m σ H1) ∧ ∀ i m σ H, W' i m σ H → (J.stop i H ∧ D.nx σ H) ∨ (J.go i H ∧ ∃ N : L2.St → Hp → Prop, (∀ σ' H', N σ' H' → ∃ m', m' < m ∧ W' (i + 1) m' σ' H') ∧
      ∀ v H', J.yld i H v H' → g v σ H' fun σ2 H2 => tb { D with nx := N, ct := N, bk := D.nx } σ2 H2) := by
  refine ⟨fun i m σ H => m = ds.length - i ∧ i ≤ ds.length ∧ ∃ B1, Pv i σ H B1, ⟨ds.length, by simp, Nat.zero_le _, B1, h0⟩, ?_⟩
  rintro i m σ H2 ⟨rfl, hi, B2, p⟩
  obtain ⟨e1, e2⟩ := hB i σ H2 B2 p
  rcases Nat.lt_or_ge i ds.length with hlt | hge
  · refine .inr ⟨W.go i H2 hlt (e1.trans e2), fun σ3 H4 => ∃ B4, Pv (i + 1) σ3 H4 B4, ?_, ?_⟩
    · rintro σ3 H4 ⟨B4, p4⟩
      exact ⟨ds.length - (i + 1), by omega, rfl, hlt, B4, p4⟩
    · intro v H3 y
      have R : Rep (ct0 (K := K) H2 B2 fun _ _ _ => True) ([] : L2.St) H2 B2 [] := (Flats.rep ⟨rfl, fun i s h => nomatch h⟩ e2)
      obtain ⟨B3, R3, e3, dv, k⟩ := W.yld i H2 H3 v ds[i] (List.getElem?_eq_getElem hlt) y (ct0 H2 B2 fun _ _ _ => True) [] B2 [] R e1
      exact step i ds[i] σ H2 B2 v H3 B3 (List.getElem?_eq_getElem hlt) p R3.stp dv
  · have ei : i = ds.length := by omega
    subst ei
    exact .inl ⟨W.stop H2 (e1.trans e2), done σ H2 B2 p⟩
end
end Bo

/-! ### parse_system's walk over its lines -/
namespace Bo
open PySem L2
section
variable {K : PySem.W.Frag} {C : Ct K 0} {H B H1 B1 : Hp}
/-- stores at places that are new since -/
theorem Stp.new {H2 : Hp} (s : Stp H B H1 B1) (h : ∀ x, H2 x ≠ H1 x → H x = none ∧ B1 x = none) : Stp H B H2 B1 := by
  refine ⟨fun x o q => ?_, s.sB, fun x o q => ?_, s.fz⟩
  · by_cases e : H2 x = H1 x
    · rw [e]
      exact s.sH x o q
    · rw [(h x e).1] at q
      cases q
  · by_cases e : H2 x = H1 x
    · rw [e]
      exact s.bh x o q
    · rw [(h x e).2] at q
      cases q
theorem Stp.back (s : Stp H B H1 B1) {x : Addr} (h : H1 x = none) : H x = none := by
  cases e : H x with
  | none => rfl
  | some o =>
    rw [s.sH x o e] at h
    cases h
end
end Bo

/-! ### dicts that tell the number of a nested tuple -/
namespace Bo
open PySem PySem.Spec PyProof.Rows L2
mutual
/-- data as a key -/
def toK : PyData → NestedKey
  | .int i => .num i
  | .tuple ds => .tup (toKs ds)
  | _ => .none
def toKs : List PyData → List NestedKey
  | [] => []
  | d :: ds => toK d :: toKs ds
end
mutual
def okK : PyData → Bool
  | .int _ => true
  | .tuple ds => okKs ds
  | _ => false
def okKs : List PyData → Bool
  | [] => true
  | d :: ds => okK d && okKs ds
end
mutual
theorem toK_inj : ∀ {c d : PyData}, okK c = true → okK d = true → toK c = toK d → c = d
  | .int i, .int j, _, _, h => by
    unfold toK at h
    injection h with h
    rw [h]
  | .int i, .tuple ds, _, _, h => by
    unfold toK at h
    cases h
  | .tuple cs, .int j, _, _, h => by
    unfold toK at h
    cases h
  | .tuple cs, .tuple ds, hc, hd, h => by
    unfold toK at h
    unfold okK at hc hd
    injection h with h
    rw [toKs_inj hc hd h]
theorem toKs_inj : ∀ {cs ds : List PyData}, okKs cs = true → okKs ds = true → toKs cs = toKs ds → cs = ds
  | [], [], _, _, _ => rfl
  | [], d :: ds, _, _, h => by
    unfold toKs at h
    cases h
  | c :: cs, [], _, _, h => by
    unfold toKs at h
    cases h
  | c :: cs, d :: ds, hc, hd, h => by
    unfold toKs at h
    unfold okKs at hc hd
    rw [Bool.and_eq_true] at hc hd
    injection h with h1 h2
    rw [toK_inj hc.1 hd.1 h1, toKs_inj hc.2 hd.2 h2]
end
section
variable {X : Cx} {pins : List (Addr × Obj)} {σ : L2.St} {H B : Hp} {s : Shared}
mutual
theorem nest_da (I : Inv X pins σ H s) (bh : Same B H) : ∀ {v : V} {d : PyData} {u : Value}, Da X.K B v d → okK d = true → RelV v u → NestedIs s.heap (toK d) u
  | _, _, u, .non, ok, _ => by unfold okK at ok; cases ok
  | _, _, u, .bl b, ok, _ => by unfold okK at ok; cases ok
  | _, _, u, .str x, ok, _ => by unfold okK at ok; cases ok
  | _, _, u, .lst q h, ok, _ => by unfold okK at ok; cases ok
  | _, _, u, .int i, ok, r => by
    obtain ⟨t, rfl⟩ := r
    unfold toK
    exact .int i t
  | _, _, u, .tup (a := a) (ds := ds) q h, ok, r => by
    cases r
    obtain ⟨its, rv, ⟨o, ho, hc, n, hd⟩, _⟩ := I.tuple (sm_t bh q)
    unfold okK at ok
    unfold toK
    exact .tup ho hc hd (nest_all I bh h ok (by simpa using rv))
theorem nest_all (I : Inv X pins σ H s) (bh : Same B H) : ∀ {vs : List V} {ds : List PyData} {us : List Value}, DaAll X.K B vs ds → okKs ds = true → Vals vs us → NestedAll s.heap (toKs ds) us
  | _, _, _, .nil, _, r => by
    cases r
    unfold toKs
    exact .nil
  | _, _, _, .cons h t, ok, r => by
    cases r with
    | cons r1 r2 =>
      unfold okKs at ok
      rw [Bool.and_eq_true] at ok
      unfold toKs
      exact .cons (nest_da I bh h ok.1 r1) (nest_all I bh t ok.2 r2)
end
end
abbrev KX := List (NestedKey × Addr × Int)
def kdR (p : NestedKey × Addr × Int) (q : NestedKey × Addr × Value) : Prop := q.1 = p.1 ∧ q.2.1 = p.2.1 ∧ ∃ t, q.2.2 = .int p.2.2 t
def kdP (P : Program) (w : World) (d : Addr) (xs : KX) (h : Heap) : Prop := (d == sysModules) = false ∧ ∃ (vs : List (NestedKey × Addr × Value)) (o : Obj) (es : Array DictEntry) (ep : Nat),
  Paired kdR xs vs ∧ h.get? d = some o ∧ o.ExactDict ∧ o.data = .dict es ep ∧ es.toList = vs.map (entryOfKey (nestedKind P w)) ∧ (vs.map (·.1)).Nodup
/-- a dict that tells the numbers of nested tuples -/
def kdO (P : Program) (w : World) (d : Addr) (xs : KX) : HO := .ext (kdP P w d xs)
theorem kd_ok {P : Program} {w : World} {H : Hp} {h : Heap} {d : Addr} {xs : KX} (k : kdP P w d xs h) : ObjOk P w H h d (kdO P w d xs) := by
  obtain ⟨z, vs, o, es, ep, r, e, c⟩ := id k
  refine ⟨k, ⟨o, e⟩, fun h1 h2 k1 st => ?_⟩
  obtain ⟨z, vs, o, es, ep, r, e, c⟩ := k1
  exact ⟨z, vs, o, es, ep, r, st _ e, c⟩
theorem kd_keys {xs : KX} {vs : List (NestedKey × Addr × Value)} (r : Paired kdR xs vs) : vs.map (·.1) = xs.map (·.1) := by
  induction r with
  | nil => rfl
  | cons h t ih => rw [List.map_cons, List.map_cons, ih, h.1]
theorem kd_mem {xs : KX} {vs : List (NestedKey × Addr × Value)} (r : Paired kdR xs vs) {x : NestedKey × Addr × Value} (hx : x ∈ vs) : ∃ p ∈ xs, kdR p x := by
  induction r with
  | nil => cases hx
  | cons h t ih =>
    rcases List.mem_cons.mp hx with rfl | hx
    · exact ⟨_, List.mem_cons_self, h⟩
    · obtain ⟨p, hp, q⟩ := ih hx
      exact ⟨p, List.mem_cons_of_mem _ hp, q⟩
theorem kd_app {xs : KX} {vs : List (NestedKey × Addr × Value)} (r : Paired kdR xs vs) {k : NestedKey} {a : Addr} {j : Int} {t : Tok} : Paired kdR (xs ++ [(k, a, j)]) (vs ++ [(k, a, .int j t)]) := by
  induction r with
  | nil => exact .cons ⟨rfl, rfl, t, rfl⟩ .nil
  | cons h t ih => exact .cons h ih
/-- what a key is known by -/
structure KeyD (K : PySem.W.Frag) (B : Hp) (y : V) (dk : PyData) : Prop where
  ok : okK dk = true
  deep : (toK dk).depth ≤ 8
  da : Da K B y dk
def KeyB (K : PySem.W.Frag) (B : Hp) (xs : KX) : Prop := ∀ x ∈ xs, ∃ dk, x.1 = toK dk ∧ KeyD K B (.ref x.2.1) dk
section
variable {X : Cx} {pins : List (Addr × Obj)} {σ : L2.St} {H B : Hp} {s : Shared} {d : Addr} {xs : KX}
theorem key_is (I : Inv X pins σ H s) (bh : Same B H) {a : Addr} {dk : PyData} (k : KeyD X.K B (.ref a) dk) : (nestedKind X.prog X.w).is s.heap (toK dk) a := ⟨nest_da I bh k.da k.ok rfl, k.deep⟩
theorem kd_dict (I : Inv X pins σ H s) (bh : Same B H) (e : H d = some (kdO X.prog X.w d xs)) (kb : KeyB X.K B xs) : (d == sysModules) = false ∧ ∃ vs, Paired kdR xs vs ∧ s.heap.DictOfH (nestedKind X.prog X.w) d vs := by
  obtain ⟨⟨z, vs, o, es, ep, r, h1, h2, h3, h4, h5⟩, _⟩ := (show ObjOk X.prog X.w H s.heap d (kdO X.prog X.w d xs) from I.hok d _ e)
  refine ⟨z, vs, r, o, es, ep, h1, h2, h3, h4, fun x hx => ?_, h5⟩
  obtain ⟨p, hp, h6, h7, _⟩ := kd_mem r hx
  obtain ⟨dk, e1, e2⟩ := kb p hp
  rw [h6, h7, e1]
  exact key_is I bh e2
theorem kd_none {vs : List (NestedKey × Addr × Value)} (r : Paired kdR xs vs) {k : NestedKey} (h : k ∉ xs.map (·.1)) : atKey vs k = none := by
  refine atKey_none_of_get fun j p e => h ?_
  rw [← kd_keys r]
  exact List.mem_map.mpr ⟨_, List.mem_of_getElem? e, rfl⟩
theorem kd_some {vs : List (NestedKey × Addr × Value)} (r : Paired kdR xs vs) (nd : (vs.map (·.1)).Nodup) {k : NestedKey} {a : Addr} {j : Int} (h : (k, a, j) ∈ xs) : ∃ t, atKey vs k = some (a, .int j t) := by
  obtain ⟨i, hi⟩ := List.getElem?_of_mem h
  obtain ⟨q, hq, e1, e2, t, e3⟩ : ∃ q, vs[i]? = some q ∧ kdR (k, a, j) q := by
    clear nd h
    induction r generalizing i with
    | nil => cases hi
    | cons h t ih =>
      cases i with
      | zero =>
        cases hi
        exact ⟨_, rfl, h⟩
      | succ i => exact ih i hi
  obtain ⟨q1, q2, q3⟩ := q
  dsimp only at e1 e2 e3
  subst e1 e2 e3
  exact ⟨t, atKey_of_get nd hq⟩
end
/-! the rules -/
def tKNot (P : Program) (w : World) (K : PySem.W.Frag) (ty td : TE) : TE := fun σ H Q => ty σ H fun y H1 => td σ H1 fun x H2 => ∃ (d a : Addr) (xs : KX) (B : Hp) (dk : PyData), x = .ref d ∧ y = .ref a ∧ H2 d = some (kdO P w d xs) ∧ Same B H2 ∧ KeyB K B xs ∧ KeyD K B y dk ∧
  (toK dk ∉ xs.map (·.1) → Q (.bl true) H2) ∧ (toK dk ∈ xs.map (·.1) → Q (.bl false) H2)
def tKGet (P : Program) (w : World) (K : PySem.W.Frag) (td ty : TE) : TE := fun σ H Q => td σ H fun x H1 => ty σ H1 fun y H2 => ∃ (d a b : Addr) (xs : KX) (B : Hp) (dk : PyData) (j : Int), x = .ref d ∧ y = .ref a ∧ H2 d = some (kdO P w d xs) ∧ Same B H2 ∧ KeyB K B xs ∧ KeyD K B y dk ∧ (toK dk, b, j) ∈ xs ∧ Q (.int j) H2
def sKPut (P : Program) (w : World) (K : PySem.W.Frag) (td ty tv : TE) : TS := fun D σ H => tv σ H fun v H1 => td σ H1 fun x H2 => ty σ H2 fun y H3 => ∃ (d a : Addr) (xs : KX) (B : Hp) (dk : PyData) (j : Int), x = .ref d ∧ y = .ref a ∧ v = .int j ∧ H3 d = some (kdO P w d xs) ∧ Same B H3 ∧ KeyB K B xs ∧ KeyD K B y dk ∧
  toK dk ∉ xs.map (·.1) ∧ xs.length ≤ 100000 ∧ D.nx σ (upd H3 d (kdO P w d (xs ++ [(toK dk, a, j)])))
def rKLen (P : Program) (w : World) (K : PySem.W.Frag) : List V → Hp → VK → Prop := fun vs H Q => ∃ (d : Addr) (xs : KX) (B : Hp), vs = [.ref d] ∧ H d = some (kdO P w d xs) ∧ Same B H ∧ KeyB K B xs ∧ xs.length ≤ 100000 ∧ Q (.int (xs.length : Nat)) H
def tKNew (P : Program) (w : World) : TE := fun _ H Q => ∀ p, H p = none → Q (.ref p) (upd H p (kdO P w p []))
section
variable {X : Cx} {o i e value : Expr} {pos pos' tpos : Pos} {td ty tv : TE}
theorem pe_knew : PE X (.Dict [] [] pos) (tKNew X.prog X.w) := ⟨fun pins s σ H Q I h =>
  wpAny_Dict_empty ⟨.ref s.heap.objs.size, _, I.laid (a := s.heap.objs.size) (o := kdO X.prog X.w s.heap.objs.size []) (t' := s.toks) (fun _ _ q => Heap.get?_push_of_some _ q) (Nat.le_refl _)
    (kd_ok ⟨beq_eq_false_iff_ne.mpr (Ne.symm (Nat.ne_of_lt I.big)), [], _, #[], 0, .nil, Heap.get?_push_size _ rfl, ⟨rfl, rfl, rfl⟩, rfl, rfl, List.nodup_nil⟩), rfl, h _ (I.hok.fresh (Nat.le_refl _))⟩⟩
theorem pc_knot (hu : X.A.units + 64 < cLine) (hi : PE X i ty) (ho : PE X o td) : PC X .NotIn i o (tKNot X.prog X.w X.K ty td) := by
  refine ⟨fun pins s σ H Q I h => ?_⟩
  refine thn (hi.run pins s σ H _ I h) fun iv s1 ⟨y, H1, I1, ry, q1⟩ => thn (ho.run pins s1 σ H1 _ I1 q1) fun u s2 ⟨x, H2, I2, rx, d, a, xs, B, dk, ex, ey, ed, bh, kb, kd, q2, q3⟩ => ?_
  subst ex ey
  obtain rfl : u = Value.ref d := rx
  obtain rfl : iv = Value.ref a := ry
  obtain ⟨z, vs, r, dd⟩ := kd_dict I2 bh ed kb
  refine wpAny_notIn_heap (by show _ + 8 < cLine; exact Nat.lt_of_le_of_lt (by show X.A.units + 1 + 8 ≤ X.A.units + 64; omega) hu) (key_is I2 bh kd) z dd ?_
  by_cases c : toK dk ∈ xs.map (·.1)
  · obtain ⟨⟨k, b, j⟩, hx, e1⟩ := List.mem_map.mp c
    dsimp only at e1
    subst e1
    obtain ⟨t, e2⟩ := kd_some r (by obtain ⟨_, _, _, _, _, _, _, _, nd⟩ := dd; exact nd) hx
    rw [e2]
    exact ⟨.bl false, H2, I2.tok _, rfl, q3 c⟩
  · rw [kd_none r c]
    exact ⟨.bl true, H2, I2.tok _, rfl, q2 c⟩
theorem pe_kget (hu : X.A.units + 64 < cLine) (ho : PE X o td) (hi : PE X i ty) (hs : NoSl i) : PE X (.Subscript o i pos) (tKGet X.prog X.w X.K td ty) := by
  refine ⟨fun pins s σ H Q I h => ?_⟩
  refine subD_of PySem.F.slot_dict_getitem.lookup hs (thn (ho.run pins s σ H _ I h) fun u s1 ⟨x, H1, I1, rx, q1⟩ => thn (hi.run pins s1 σ H1 _ I1 q1) fun iv s2 ⟨y, H2, I2, ry, d, a, b, xs, B, dk, j, ex, ey, ed, bh, kb, kd, m, q2⟩ => ?_)
  subst ex ey
  obtain rfl : u = Value.ref d := rx
  obtain rfl : iv = Value.ref a := ry
  obtain ⟨z, vs, r, dd⟩ := kd_dict I2 bh ed kb
  obtain ⟨t, e2⟩ := kd_some r (by obtain ⟨_, _, _, _, _, _, _, _, nd⟩ := dd; exact nd) m
  exact ⟨dd.typeIs, wpAny_getItem_heap (by show _ + 8 < cLine; exact Nat.lt_of_le_of_lt (by show X.A.units + 1 + 8 ≤ X.A.units + 64; omega) hu) (key_is I2 bh kd) dd e2 ⟨.int j, H2, I2.tok _, ⟨t, rfl⟩, q2⟩⟩
theorem pe_kgetK (P : Program) (w : World) (K : PySem.W.Frag) (h1 : X.prog = P) (h2 : X.w = w) (h3 : X.K = K) (hu : X.A.units + 64 < cLine) (ho : PE X o td) (hi : PE X i ty) (hs : NoSl i) : PE X (.Subscript o i pos) (tKGet P w K td ty) := by
  subst h1 h2 h3
  exact pe_kget hu ho hi hs
theorem ps_kput (hu : X.A.units + 64 < cLine) (ho : PE X o td) (hi : PE X i ty) (hv : PE X value tv) (hs : swapsWith value (some (.Subscript o i pos')) pos.line X.env = pure false) :
    PS X (.Assign [.Subscript o i pos'] value pos) (sKPut X.prog X.w X.K td ty tv) := by
  refine ⟨fun pins s σ H D I h => ?_⟩
  refine wpAny_Assign_Subscript (thn (hv.run pins s σ H _ I h) fun r s1 ⟨v, H1, I1, rv, q1⟩ => thn (ho.run pins s1 σ H1 _ I1 q1) fun u s2 ⟨x, H2, I2, rx, q2⟩ => thn (hi.run pins s2 σ H2 _ I2 q2) fun iv s3 ⟨y, H3, I3, ry, d, a, xs, B, dk, j, ex, ey, ev, ed, bh, kb, kd, c, hl, q3⟩ => ?_) hs
  subst ex ey ev
  obtain rfl : u = Value.ref d := rx
  obtain rfl : iv = Value.ref a := ry
  obtain ⟨t, rfl⟩ := rv
  obtain ⟨z, vs, rr, dd⟩ := kd_dict I3 bh ed kb
  have hl2 : vs.length = xs.length := (Paired.length rr).symm
  refine wpAny_setItem_heap (hsz := by rw [hl2]; exact line_le hl) (by show _ + 8 < cLine; exact Nat.lt_of_le_of_lt (by show X.A.units + 1 + 8 ≤ X.A.units + 64; omega) hu) (key_is I3 bh kd) dd fun h' hd' hs' => ?_
  rw [storedH_new (kd_none rr c)] at hd'
  obtain ⟨o', es, ep, g1, g2, g3, g4, _, g6⟩ := hd'
  have J := I3.write (t' := s3.toks + (nestedKind X.prog X.w).draws (toK dk)) (x := d) (e := d) (o := kdO X.prog X.w d (xs ++ [(toK dk, a, j)])) (by rw [ed]; exact True.intro) (.inl rfl) (fun b u nb e => ?_) ⟨_, g1⟩ (kd_ok ⟨z, _, o', es, ep, kd_app rr, g1, g2, g3, g4, g6⟩)
  · exact ⟨σ, _, J, q3⟩
  · exact (hs'.2 b nb).trans e
theorem call_klen : CallR X (.builtin "len") (rKLen X.prog X.w X.K) := by
  intro pins s σ H xs us Q I r h
  obtain ⟨d, ks, B, rfl, ed, bh, kb, hl, q⟩ := h
  obtain ⟨u, rfl, rx⟩ := vals1 r
  obtain rfl : u = .ref d := rx
  obtain ⟨z, vs, rr, dd⟩ := kd_dict I bh ed kb
  have hl2 : vs.length = ks.length := (Paired.length rr).symm
  refine call_len_dictH z dd (by omega) ?_
  rw [hl2]
  exact ⟨.int (ks.length : Nat), H, I.tok _, ⟨_, rfl⟩, q⟩
end
end Bo

/-! ### x, *ys = a list -/
namespace Bo
open PySem L2
/-- what a list with a first item comes apart into: the item, and a new list of the others -/
theorem apart {X : Cx} {pins : List (Addr × Obj)} {σ : L2.St} {H : Hp} {s : Shared} {a : Addr} {x : V} {xs : List V} {Q : List Value → Shared → Prop} (hc : X.calm = true) (I : Inv X pins σ H s) (hq : SqL X.K H a (x :: xs))
    (h : ∀ b s' u, H b = none → Inv X pins σ (upd H b (.lst xs)) s' → RelV x u → Q [u, .ref b] s') : wpAny (model X.prog X.w) X.A (unpackItems (.ref a) 2 (some 1)) Q X.xe s := by
  obtain ⟨its, rv, pl, hz⟩ := I.list hq
  cases rv with
  | @cons _ u _ us r rr =>
    have il := pl.isList
    have big : (u :: us).toArray.size ≤ sizeLine := by
      have := rr.length
      rw [List.size_toArray]
      rw [List.length_cons] at hz ⊢
      omega
    have one : 1 ≤ (u :: us).toArray.size := by rw [List.size_toArray, List.length_cons]; omega
    have old := il
    obtain ⟨_, ho, _⟩ := old
    have away : a ≠ s.heap.objs.size := Nat.ne_of_lt (Heap.lt_size ho)
    unfold unpackItems notIterableAtAll
    refine wpAny_bind (wpAny_bind (wpAny_specialOf il.typeIs PySem.F.slot_list_iter.lookup (wpAny_pure ?_)))
    rw [if_neg Bool.false_ne_true]
    refine wpAny_bind (wpAny_holding (wpAny_pyIter_list il (wpAny_bind (wpAny_holding (PySem.W.kun_draw away 1 0 _ _ ⟨_, Heap.get?_push_size _ rfl, rfl, rfl⟩ (il.push _) (by omega) fun g it sb => ?_)))))
    have il2 : g.IsList a (u :: us).toArray := (il.push _).extBut sb.extBut away
    have l1 := il2
    obtain ⟨_, hg, _⟩ := l1
    have l2 := it
    obtain ⟨_, hi, _⟩ := l2
    rw [if_neg (show ¬ (((u :: us).toArray.toList.drop 0).take 1).length < 1 by simp)]
    refine wpAny_bind (wpAny_holding (PySem.W.kun_collect (s := { s with heap := g }) (T := "list_iterator") (.inr (.inr (.inl rfl))) (Walks.list (A := X.A.in1) (I.ok.hd hc) s.heap.objs.size a away (u :: us).toArray) (fun j v st => st.1.typeIs) (k := 1) one ⟨it, il2⟩ (Heap.lt_size hi) (Heap.lt_size hg) (fun g2 tk kept => ?_) big))
    have e : ((u :: us).toArray.toList.drop 1) = us := by simp
    rw [e]
    have old : ∀ b o, s.heap.get? b = some o → g2.get? b = some o := fun b o q => by
      have ne : b ≠ s.heap.objs.size := Nat.ne_of_lt (Heap.lt_size q)
      exact kept b o ne (sb.extBut b o ne (Heap.get?_push_of_some _ q))
    have lt : ¬ us.length < 2 - 1 - 1 := by omega
    rw [if_neg lt]
    have I2 : Inv X pins σ H { s with heap := g2, toks := tk } := I.kept old
    have fit : us.length ≤ sizeLine := by
      have := big
      rw [List.size_toArray, List.length_cons] at this
      omega
    refine wpAny_bind (wpAny_newList (wpAny_pure ?_) (by simpa using fit))
    have hn : H g2.objs.size = none := I2.hok.fresh (Nat.le_refl _)
    have fin := h g2.objs.size { s with heap := g2.push { cls := .type "list", data := .seq us.toArray }, toks := tk } u hn (I2.laid (t' := tk) (fun b o q => Heap.get?_push_of_some _ q) (Nat.le_refl _) ⟨by rw [rr.length]; exact fit, us, _, rr, Heap.get?_push_size _ rfl⟩) r
    simpa using fin
section
variable {K : PySem.W.Frag} {n : Nat} {C : Ct K n}
end
end Bo

/-! ### slots that nobody reads any more are let go; is of bools; new dicts that a def tells -/
namespace Bo
open PySem L2
section
variable {K : PySem.W.Frag} {n : Nat} {C : Ct K n} {σ : L2.St} {H B : Hp} {S : SS}
theorem wipeS_out {i : Nat} : ∀ {vs : List Nat}, i ∉ vs → (wipeS S vs)[i]? = S[i]?
  | [], _ => rfl
  | u :: us, h => by
    unfold wipeS
    rw [List.getElem?_set_ne (fun e => h (by simp [e]))]
    exact wipeS_out fun z => h (List.mem_cons_of_mem _ z)
theorem Rep.killed (R : Rep C σ H B S) {vs : List Nat} (hv : ∀ v ∈ vs, n ≤ v) : Rep C σ H B (wipeS S vs) := by
  refine ⟨R.base, by rw [wipeS_len]; exact R.len, fun i s h => R.slot i s (wipeS_some h).2, fun i j s u a h1 h2 m1 m2 e1 e2 => R.dis i j s u a (wipeS_some h1).2 (wipeS_some h2).2 m1 m2 e1 e2, fun i s a h m e => R.ownf i s a (wipeS_some h).2 m e, fun i a h => ?_⟩
  have hn : i ∉ vs := fun z => by
    have := hv i z
    have := (List.getElem?_eq_some_iff.mp h).1
    have := C.hbx
    omega
  obtain ⟨q1, s, q2, q3⟩ := R.box i a h
  exact ⟨q1, s, by rw [wipeS_out hn]; exact q2, q3⟩
def vPre (vs : List Nat) (f : VS) : VS := fun S => f (wipeS S vs)
def thenF (vs : List Nat) : FL → FL
  | .nx S => .nx (wipeS S vs)
  | f => f
def vThen (vs : List Nat) (f : VS) : VS := fun S => (f S).bind fun fl => .ok (thenF vs fl)
theorem st_pre {t : TS} {f : VS} {vs : List Nat} (hv : vs.all (fun v => decide (n ≤ v)) = true) (h : SSt C t f) : SSt C t (vPre vs f) := by
  intro σ H B S D R q
  exact h σ H B _ D (R.killed fun v m => of_decide_eq_true (List.all_eq_true.mp hv v m)) q
theorem st_then {t : TS} {f : VS} {vs : List Nat} (hv : vs.all (fun v => decide (n ≤ v)) = true) (h : SSt C t f) : SSt C t (vThen vs f) := by
  intro σ H B S D R q
  refine h σ H B S D R ((post_bind.mp q).mono fun fl q => ?_)
  cases fl with
  | nx S1 => exact fun σ' H' B' R1 e1 => q σ' H' B' (R1.killed fun v m => of_decide_eq_true (List.all_eq_true.mp hv v m)) e1
  | rt d S1 => exact q
  | bk S1 => exact q
  | ct S1 => exact q
theorem w_pre {f : VS} {vs : List Nat} {kS : FL → Prop} (h : (f (wipeS S vs)).okTo kS) : (vPre vs f S).okTo kS := h
theorem w_then {f : VS} {vs : List Nat} {kS : FL → Prop} (h : (f S).okTo fun fl => match fl with
    | .nx S1 => kS (.nx (wipeS S1 vs))
    | fl => kS fl) : (vThen vs f S).okTo kS := by
  unfold vThen
  refine okTo_bind.mpr (h.mono fun fl q => ?_)
  cases fl <;> exact q
/-! is of bools -/
def gIsB (neg : Bool) : PyData → PyData → R PyData
  | .bool a, .bool b => .ok (.bool (if neg then !decide (a = b) else decide (a = b)))
  | _, _ => .bad
theorem w_gIsB {neg a b : Bool} {kD : PyData → Prop} (q : kD (.bool (if neg then !decide (a = b) else decide (a = b)))) : (gIsB neg (.bool a) (.bool b)).okTo kD := q
/-! == of bools and ints (True == 1) stays out; == of bools is eqF's -/
/-! a def of the script that tells a new dict -/
/-- a value that needs no step -/
def SPu (C : Ct K n) (t : TE) (f : SS → Option PyData) : Prop := ∀ (σ : L2.St) (H B : Hp) (S : SS) (d : PyData), Rep C σ H B S → f S = some d → ∃ v, Da K B v d ∧ ∀ (H' : Hp) (Q : VK), Q v H' → t σ H' Q
inductive Prs (C : Ct K n) : List (TE × TE) → List (Str × (SS → Option PyData)) → Prop
  | nil : Prs C [] []
  | cons {x : Str} {t : TE} {f : SS → Option PyData} {ts : List (TE × TE)} {fs : List (Str × (SS → Option PyData))} (h : SPu C t f) (r : Prs C ts fs) : Prs C ((tC (.str x), t) :: ts) ((x, f) :: fs)
def vNewS (i j : Nat) (den : List Int → R (List (Key × PyData))) : VS := fun S => match S[j]? with
  | some (some (.scr ns)) => ((den ns).noErr).bind fun kvs => .ok (.nx (S.set i (some (.dic kvs))))
  | _ => .bad
theorem w_newS {i j : Nat} {den : List Int → R (List (Key × PyData))} {ns : List Int} {kS : FL → Prop} (h : S[j]? = some (some (.scr ns))) (q : (den ns).okTo fun kvs => kS (.nx (S.set i (some (.dic kvs))))) : (vNewS i j den S).okTo kS := by
  unfold vNewS
  rw [h]
  exact okTo_bind.mpr (okTo_noErr.mpr q)
/-! d[k] -/
def vGetD (i : Nat) (fk : VE) : VE := fun S => (dicD S i).bind fun _ => (fk S).bind fun p => (keyD p.1).bind fun y => (dicD p.2 i).bind fun kvs => match valD kvs y with
  | some d => .ok (d, p.2)
  | none => .bad
theorem s_getD {i : Nat} {tk : TE} {fk : VE} (hk : SE C tk fk) : SE C (tDGet (tVar i) tk) (vGetD i fk) := by
  intro σ H B S Q R h
  obtain ⟨ds0, a0, vs0, q1, q2, q3, q4, h⟩ := dic_of R (post_bind.mp h)
  refine ⟨_, q2, ?_⟩
  replace h := post_bind.mp h
  refine hk σ H B S _ R (h.mono fun p h1 v H1 B1 R1 e1 d1 => ?_)
  obtain ⟨y, rfl, _, h1⟩ := key_of d1 (post_bind.mp h1)
  obtain ⟨kvs, a, ws, p1, p2, p3, p4, h1⟩ := dic_of R1 (post_bind.mp h1)
  rw [q2] at p2
  cases p2
  split at h1
  · rename_i d e
    rcases dpks_val (k := y) p4 with ⟨z1, z2⟩ | ⟨v', d', z1, z2, z3⟩
    · rw [e] at z2
      cases z2
    · rw [e] at z2
      cases z2
      refine ⟨_, v', rfl, ?_, h1 v' H1 B1 R1 e1 z3⟩
      rw [← z1]
      exact DGet.k p3
  · exact h1.elim
theorem w_dic {i : Nat} {kvs : List (Key × PyData)} {k : List (Key × PyData) → Prop} (h : S[i]? = some (some (.dic kvs))) (q : k kvs) : (dicD S i).okTo k := by
  unfold dicD
  rw [h]
  exact q
theorem w_keyS {x : Str} {k : Key → Prop} (q : k (.inr x)) : (keyD (.str x)).okTo k := q
theorem w_keyI {x : Int} {k : Key → Prop} (q : k (.inl x)) : (keyD (.int x)).okTo k := q
theorem w_getD {i : Nat} {fk : VE} {kE : PyData × SS → Prop} (h : (dicD S i).okTo fun _ => (fk S).okTo fun p => (keyD p.1).okTo fun y => (dicD p.2 i).okTo fun kvs => ∃ d, valD kvs y = some d ∧ kE (d, p.2)) : (vGetD i fk S).okTo kE := by
  unfold vGetD
  refine okTo_bind.mpr (h.mono fun _ h => okTo_bind.mpr (h.mono fun p h => okTo_bind.mpr (h.mono fun y h => okTo_bind.mpr (h.mono fun kvs ⟨d, e, q⟩ => ?_))))
  rw [e]
  exact q
theorem w_putD {i : Nat} {fk fe : VE} {kS : FL → Prop} (h : (fe S).okTo fun p => (dicD p.2 i).okTo fun _ => (fk p.2).okTo fun q => (keyD q.1).okTo fun y => (dicD q.2 i).okTo fun kvs => kvs.length < 100000 ∧ kS (.nx (q.2.set i (some (.dic (putD kvs y p.1)))))) : (vPutD i fk fe S).okTo kS := by
  unfold vPutD
  simp only [okTo_bind, okTo_when]
  exact h
theorem w_callD {m i : Nat} {fr : VA} {g : List (Key × PyData) → List PyData → R (PyData × List (Key × PyData))} {kE : PyData × SS → Prop} (h : (dicD S i).okTo fun _ => (fr S).okTo fun p => (dicD p.2 i).okTo fun bs => p.1.length = m ∧ (g bs p.1).okTo fun z => kE (z.1, p.2.set i (some (.dic z.2)))) : (vCallD m g i fr S).okTo kE := by
  unfold vCallD
  simp only [okTo_bind, okTo_when, okTo_noErr]
  exact h
/-! x is None, x a slot's list at times -/
def vIsNO (neg : Bool) (i : Nat) : VE := fun S => match S[i]? with
  | some (some (.dat d)) => .ok (.bool (if neg then !isNone d else isNone d), S)
  | some (some (.own _)) => .ok (.bool neg, S)
  | _ => .bad
theorem w_isNOd {neg : Bool} {i : Nat} {d : PyData} {kE : PyData × SS → Prop} (h : S[i]? = some (some (.dat d))) (q : kE (.bool (if neg then !isNone d else isNone d), S)) : (vIsNO neg i S).okTo kE := by
  unfold vIsNO
  rw [h]
  exact q
theorem w_isNOo {neg : Bool} {i : Nat} {ds : List PyData} {kE : PyData × SS → Prop} (h : S[i]? = some (some (.own ds))) (q : kE (.bool neg, S)) : (vIsNO neg i S).okTo kE := by
  unfold vIsNO
  rw [h]
  exact q
/-! a slot's list is turned round -/
def vRevO (i : Nat) : VE := fun S => (ownD S i).bind fun ds => .ok (.none, S.set i (some (.own ds.reverse)))
theorem w_revO {i : Nat} {ds : List PyData} {kE : PyData × SS → Prop} (h : S[i]? = some (some (.own ds))) (q : kE (.none, S.set i (some (.own ds.reverse)))) : (vRevO i S).okTo kE := by
  unfold vRevO ownD
  rw [h]
  exact q
end
end Bo
namespace Bo
open PySem L2
end Bo

/-! ### defs that tell a new list, which the caller may change; their first argument is a dict or a list that they change -/
namespace Bo
open PySem L2
section
variable {K : PySem.W.Frag} {n : Nat} {C : Ct K n} {σ : L2.St} {H B : Hp} {S : SS}
/-- taken by a slot -/
def vOwnCallD (j : Nat) (m : Nat) (den : List (Key × PyData) → List PyData → R (List PyData × List (Key × PyData))) (i : Nat) (fa : VA) : VS := fun S => (dicD S i).bind fun _ => (fa S).bind fun p => (dicD p.2 i).bind fun bs => R.when (p.1.length = m) (((den bs p.1).noErr).bind fun z => .ok (.nx ((p.2.set i (some (.dic z.2))).set j (some (.own z.1)))))
/-- as a value -/
def vCallDF (m : Nat) (den : List (Key × PyData) → List PyData → R (List PyData × List (Key × PyData))) (i : Nat) (fa : VA) : VE := fun S => (dicD S i).bind fun _ => (fa S).bind fun p => (dicD p.2 i).bind fun bs => R.when (p.1.length = m) (((den bs p.1).noErr).bind fun z => .ok (.list z.1, p.2.set i (some (.dic z.2))))
theorem w_ownCallD {j m i : Nat} {den : List (Key × PyData) → List PyData → R (List PyData × List (Key × PyData))} {fa : VA} {kS : FL → Prop} (h : (dicD S i).okTo fun _ => (fa S).okTo fun p => (dicD p.2 i).okTo fun bs => p.1.length = m ∧ (den bs p.1).okTo fun z => kS (.nx ((p.2.set i (some (.dic z.2))).set j (some (.own z.1))))) : (vOwnCallD j m den i fa S).okTo kS := by
  unfold vOwnCallD
  simp only [okTo_bind, okTo_when, okTo_noErr]
  exact h
theorem w_callDF {m i : Nat} {den : List (Key × PyData) → List PyData → R (List PyData × List (Key × PyData))} {fa : VA} {kE : PyData × SS → Prop} (h : (dicD S i).okTo fun _ => (fa S).okTo fun p => (dicD p.2 i).okTo fun bs => p.1.length = m ∧ (den bs p.1).okTo fun z => kE (.list z.1, p.2.set i (some (.dic z.2)))) : (vCallDF m den i fa S).okTo kE := by
  unfold vCallDF
  simp only [okTo_bind, okTo_when, okTo_noErr]
  exact h
end
end Bo

namespace Bo
open PySem L2
/-- the place of a key among keys -/
noncomputable def posD : List PyData → PyData → Nat
  | [], _ => 0
  | d :: ds, k => @ite _ (d = k) (Classical.propDecidable _) 0 (posD ds k + 1)
/-- the keys by their first places -/
noncomputable def seenD (found : List PyData) : List PyData → List PyData
  | [] => found
  | k :: ks => seenD (@ite _ (k ∈ found) (Classical.propDecidable _) found (found ++ [k])) ks
/-- the number of each key: how many keys stood ahead of its first place -/
noncomputable def numD (ks : List PyData) : List Nat := ks.map fun k => posD (seenD [] ks) k
def isInt : PyData → Bool
  | .int _ => true
  | _ => false
open Classical in
noncomputable def den_numbered : List PyData → R PyData
  | [.list ks] => R.when (ks.length ≤ 1000 ∧ ((∀ k ∈ ks, isInt k = true) ∨ ∀ k ∈ ks, (∃ ds, k = .tuple ds) ∧ okK k = true ∧ (toK k).depth ≤ 8)) (.ok (.list ((numD ks).map fun j => .int (j : Nat))))
  | _ => .bad
open Classical in
theorem num_of40 {ks : List PyData} {k : PyData → Prop} (h : (den_numbered [.list ks]).okTo k) : (ks.length ≤ 1000 ∧ ((∀ k ∈ ks, isInt k = true) ∨ ∀ k ∈ ks, (∃ ds, k = .tuple ds) ∧ okK k = true ∧ (toK k).depth ≤ 8)) ∧ k (.list ((numD ks).map fun j => .int (j : Nat))) := by
  unfold den_numbered at h
  exact okTo_when.mp h
open Classical in
theorem num_ok40 {ks : List PyData} {k : PyData → Prop} (h : (ks.length ≤ 1000 ∧ ((∀ k ∈ ks, isInt k = true) ∨ ∀ k ∈ ks, (∃ ds, k = .tuple ds) ∧ okK k = true ∧ (toK k).depth ≤ 8)) ∧ k (.list ((numD ks).map fun j => .int (j : Nat)))) : (den_numbered [.list ks]).okTo k := by
  unfold den_numbered
  exact okTo_when.mpr h
def memD (ns : List Nat) (m : Nat) : PyData := .list ((List.range m).map fun b => .list (((List.range ns.length).filter fun s => decide (ns[s]? = some b)).map fun s => .int (s : Nat)))
def natsD : List PyData → Option (List Nat)
  | [] => some []
  | .int (.ofNat j) :: r => (natsD r).map (j :: ·)
  | _ :: _ => none
theorem nats_of : ∀ {ds : List PyData} {ns : List Nat}, natsD ds = some ns → ds = ns.map fun j => .int (j : Nat)
  | [], ns, h => by
    have : ns = [] := (Option.some.inj h).symm
    rw [this]
    rfl
  | .int (.ofNat j) :: r, ns, h => by
    have h' : (natsD r).map (j :: ·) = some ns := h
    obtain ⟨ms, h1, rfl⟩ := Option.map_eq_some_iff.mp h'
    rw [List.map_cons, ← nats_of h1]
    rfl
theorem nats_map : ∀ ns : List Nat, natsD (ns.map fun j => .int (j : Nat)) = some ns
  | [] => rfl
  | j :: r => by
    show (natsD (r.map fun j => .int (j : Nat))).map (j :: ·) = _
    rw [nats_map r]
    rfl
def topN (ns : List Nat) : Nat := (maxI (ns.map fun j => ((j : Nat) : Int))).toNat
theorem topN_le {ns : List Nat} (ne : ns ≠ []) : (∀ j ∈ ns, j ≤ topN ns) ∧ topN ns ∈ ns := by
  obtain ⟨h1, h2⟩ := maxI_mem (l := ns.map fun j => ((j : Nat) : Int)) (by simpa using ne)
  obtain ⟨k, hk, e⟩ := List.mem_map.mp h1
  have et : topN ns = k := by
    unfold topN
    rw [← e]
    exact Int.toNat_natCast k
  refine ⟨fun j hj => ?_, by rw [et]; exact hk⟩
  have := h2 _ (List.mem_map.mpr ⟨j, hj, rfl⟩)
  rw [← e] at this
  rw [et]
  omega
def den_members_of : List PyData → R PyData
  | [.list ds] => match natsD ds with
    | some ns => R.when (ns ≠ [] ∧ ns.length ≤ 1000 ∧ ∀ j ∈ ns, j ≤ 1000) (.ok (memD ns (topN ns + 1)))
    | none => .bad
  | _ => .bad
theorem mem_of {es : List PyData} {k : PyData → Prop} (h : (den_members_of [.list es]).okTo k) : ∃ ns, es = ns.map (fun j : Nat => PyData.int (j : Nat)) ∧ (ns ≠ [] ∧ ns.length ≤ 1000 ∧ ∀ j ∈ ns, j ≤ 1000) ∧ k (memD ns (topN ns + 1)) := by
  unfold den_members_of at h
  dsimp only at h
  cases e : natsD es with
  | none =>
    rw [e] at h
    exact h.elim
  | some ns =>
    rw [e] at h
    obtain ⟨h1, h2⟩ := okTo_when.mp h
    exact ⟨ns, nats_of e, h1, h2⟩
theorem mem_ok40 {ns : List Nat} {k : PyData → Prop} (h : (ns ≠ [] ∧ ns.length ≤ 1000 ∧ ∀ j ∈ ns, j ≤ 1000) ∧ k (memD ns (topN ns + 1))) : (den_members_of [.list (ns.map fun j => .int (j : Nat))]).okTo k := by
  unfold den_members_of
  simp only [nats_map]
  exact okTo_when.mpr h
end Bo

/-! ### a list of lists, made and filled -/
namespace Bo
open PySem L2
section
variable {K : PySem.W.Frag} {B : Hp}
theorem lc_hand {C : Ct K 0} {J : It} {ds : List PyData} (W : Walks C B J ds) {g : TG} {tt : TT} {te : TE} {vs : List Nat} {σ : L2.St} {Qd : Hp → Prop} {D : Addr} (Pv : Nat → Hp → Hp → Prop)
    (hB : ∀ i H1 B1, Pv i H1 B1 → Same B B1 ∧ Same B1 H1)
    (step : ∀ (i : Nat) d H1 B1 v H2 B2, ds[i]? = some d → Pv i H1 B1 → Stp H1 B1 H2 B2 → Da K B2 v d →
      g v (wipe σ vs) H2 fun σ2 H3 => wipe σ2 vs = wipe σ vs ∧ tt σ2 H3 fun b H4 => if b = true then te σ2 H4 fun y H5 => ∃ acc, H5 D = some (.lst acc) ∧ acc.length < sizeLine ∧ (∃ B4, Pv (i + 1) (upd H5 D (.lst (acc ++ [y]))) B4) else ∃ B4, Pv (i + 1) H4 B4)
    (done : ∀ H1 B1, Pv ds.length H1 B1 → Qd H1) {H1 B1 : Hp} (h0 : Pv 0 H1 B1) :
    ∃ W' : Nat → Nat → Hp → Prop, (∃ m, W' 0 m H1) ∧ ∀ i m H, W' i m H → (J.stop i H ∧ Qd H) ∨ (J.go i H ∧ ∃ Nx : Hp → Prop, (∀ H', Nx H' → ∃ m', m' < m ∧ W' (i + 1) m' H') ∧ ∀ x H', J.yld i H x H' → g x (wipe σ vs) H' fun σ2 H2 => wipe σ2 vs = wipe σ vs ∧ tt σ2 H2 fun b H3 =>
      if b = true then te σ2 H3 fun y H4 => ∃ acc, H4 D = some (.lst acc) ∧ acc.length < sizeLine ∧ Nx (upd H4 D (.lst (acc ++ [y]))) else Nx H3) := by
  refine ⟨fun i m H => m = ds.length - i ∧ i ≤ ds.length ∧ ∃ B1, Pv i H B1, ⟨ds.length, by simp, Nat.zero_le _, B1, h0⟩, ?_⟩
  rintro i m H2 ⟨rfl, hi, B2, p⟩
  obtain ⟨e1, e2⟩ := hB i H2 B2 p
  rcases Nat.lt_or_ge i ds.length with hlt | hge
  · refine .inr ⟨W.go i H2 hlt (e1.trans e2), fun H4 => ∃ B4, Pv (i + 1) H4 B4, ?_, ?_⟩
    · rintro H4 ⟨B4, p4⟩
      exact ⟨ds.length - (i + 1), by omega, rfl, hlt, B4, p4⟩
    · intro v H3 y
      have R : Rep (ct0 (K := K) H2 B2 fun _ _ _ => True) ([] : L2.St) H2 B2 [] := (Flats.rep ⟨rfl, fun i s h => nomatch h⟩ e2)
      obtain ⟨B3, R3, e3, dv, k⟩ := W.yld i H2 H3 v ds[i] (List.getElem?_eq_getElem hlt) y (ct0 H2 B2 fun _ _ _ => True) [] B2 [] R e1
      exact step i ds[i] H2 B2 v H3 B3 (List.getElem?_eq_getElem hlt) p R3.stp dv
  · have ei : i = ds.length := by omega
    subst ei
    exact .inl ⟨W.stop H2 (e1.trans e2), done H2 B2 p⟩
/-- the members of each block among the first states -/
def cssAt (ns : List Nat) (m i : Nat) : List (List PyData) := (List.range m).map fun b => ((List.range i).filter fun s => decide (ns[s]? = some b)).map fun s => .int (s : Nat)
theorem css_len (ns : List Nat) (m i : Nat) : (cssAt ns m i).length = m := by
  unfold cssAt
  rw [List.length_map, List.length_range]
theorem css_zero (ns : List Nat) (m : Nat) : cssAt ns m 0 = List.replicate m [] := by
  unfold cssAt
  refine List.ext_getElem? fun b => ?_
  rw [List.getElem?_map, List.getElem?_replicate]
  by_cases h : b < m
  · rw [List.getElem?_range h, if_pos h]
    rfl
  · rw [if_neg h, List.getElem?_eq_none (by rw [List.length_range]; omega)]
    rfl
theorem css_at {ns : List Nat} {m i b : Nat} (h : b < m) : (cssAt ns m i)[b]? = some (((List.range i).filter fun s => decide (ns[s]? = some b)).map fun s => .int (s : Nat)) := by
  unfold cssAt
  rw [List.getElem?_map, List.getElem?_range h]
  rfl
theorem css_step {ns : List Nat} {m i b : Nat} (h : ns[i]? = some b) (hb : b < m) : cssAt ns m (i + 1) = (cssAt ns m i).set b ((((List.range i).filter fun s => decide (ns[s]? = some b)).map fun s => PyData.int (s : Nat)) ++ [.int (i : Nat)]) := by
  refine List.ext_getElem? fun c => ?_
  by_cases e : c < m
  · rw [css_at e, List.range_succ, List.filter_append, List.map_append]
    by_cases cb : b = c
    · subst cb
      rw [List.getElem?_set_self (by rw [css_len]; exact hb), List.filter_cons_of_pos (by rw [decide_eq_true_iff]; exact h)]
      rfl
    · rw [List.getElem?_set_ne cb, css_at e, List.filter_cons_of_neg (by rw [decide_eq_true_iff, h]; intro z; exact cb (Option.some.inj z))]
      simp
  · rw [List.getElem?_eq_none (by rw [css_len]; omega), List.getElem?_eq_none (by rw [List.length_set, css_len]; omega)]
theorem enum_at {α : Type} (f : α → PyData) : ∀ (l : List α) (k : Nat) (t : Nat) (d : PyData), (((l.map f).zipIdx k).map fun p => PyData.tuple [.int (p.2 : Nat), p.1])[t]? = some d → ∃ x, l[t]? = some x ∧ d = .tuple [.int ((k + t : Nat) : Int), f x]
  | [], _, _, _, h => by cases h
  | x :: r, k, 0, d, h => ⟨x, rfl, (Option.some.inj h).symm⟩
  | x :: r, k, t + 1, d, h => by
    obtain ⟨y, h1, h2⟩ := enum_at f r (k + 1) t d h
    exact ⟨y, h1, by rw [h2, show k + 1 + t = k + (t + 1) by omega]⟩
theorem mem_css (ns : List Nat) (m : Nat) : memD ns m = .list ((cssAt ns m ns.length).map PyData.list) := by
  unfold memD cssAt
  rw [List.map_map]
  rfl
theorem members_run {H : Hp} {v : V} {ns : List Nat} {m : Nat} {WI WE : TI} {nx bk ct : L2.St → Hp → Prop} {Q : VK} {C : Ct K 0} (bh : Same B H) (hm : ∀ j ∈ ns, j < m) (hl : ns.length ≤ 1000) (hml : m ≤ 2000)
    (hWI : ∀ Rr : It → Hp → Prop, (∀ J H' B', Stp H B H' B' → Walks C B' J (rangeD 0 m) → Rr J H') → WI [some v, none, none, none, none] H Rr)
    (hWE : ∀ H1 B1 (b : V) (Rr : It → Hp → Prop), Stp H B H1 B1 → (∀ J H' B', Stp H1 B1 H' B' → Walks (ct0 (K := K) H1 B1 fun _ _ _ => True) B' J (enumD (ns.map fun j => .int (j : Nat))) → Rr J H') → WE [some v, some b, none, none, none] H1 Rr)
    (q : ∀ v H' B', Same H H' → Same B B' → Same B' H' → Frz H B B' → Da K B' v (memD ns m) → Q v H') :
    (tSeq (tAsg (tLc WI (gName 4) tYes (tLst tNil) [4]) (gName 1)) (tSeq (tFor WE (gTup K 2 (gCons (gName 2) (gCons (gName 3) gNil))) (tSeq (tDrop (tBM K "list" rAppend (tOp (rIxL K) (tVar 1) (tVar 3)) (tCons (tVar 2) tNil))) tNext)) (tSeq (tRet (tVar 1)) tNext))) { nx := nx, rt := Q, bk := bk, ct := ct } [some v, none, none, none, none] H := by
  refine hWI _ fun J H1 B1 s1 W => ?_
  intro D hD
  have hHD := s1.back hD
  have hBD : B1 D = none := by
    cases e : B1 D with
    | none => rfl
    | some o =>
      rw [s1.bh D o e] at hD
      cases hD
  refine lc_hand W (fun i H' B' => Same B1 B' ∧ Stp H B H' B' ∧ ∃ bs, NL K H' B' D bs (List.replicate i []) ∧ ∀ x ∈ D :: bs, H x = none) (fun i H' B' h => ⟨h.1, h.2.1.bh⟩) ?_ ?_ (B1 := B1) ⟨Same.refl _, s1.new fun x hx => ?_, [], ⟨upd_same, hBD, by simp, rfl, fun i b cs h => by cases h⟩, fun x hx => by rw [List.mem_singleton.mp hx]; exact hHD⟩
  · rintro i d H2 B2 x H3 B3 hd ⟨eB, s2, bs, nl, fr⟩ s3 _
    have s4 := s2.trans s3
    have nl3 := nl.step s3
    refine ⟨rfl, ?_⟩
    unfold tYes
    dsimp only
    rw [if_pos rfl]
    refine ⟨(by show 0 ≤ sizeLine; exact Nat.zero_le _), fun b hb => ?_⟩
    have nba : D ≠ b := fun e => by
      rw [← e, nl3.top] at hb
      cases hb
    refine ⟨bs.map V.ref, by rw [upd_ne nba]; exact nl3.top, ?_, B3, eB.trans s3.sB, s4.new fun y hy => ?_, bs ++ [b], ?_, fun y hy => ?_⟩
    · rw [List.length_map, nl3.len, List.length_replicate]
      have := (List.getElem?_eq_some_iff.mp hd).1
      rw [rangeD_len] at this
      show i < 16777216
      omega
    · have : y = D ∨ y = b := Classical.byContradiction fun z => hy (by
        rw [upd_ne (fun e => z (.inl e)), upd_ne (fun e => z (.inr e))])
      rcases this with rfl | rfl
      · exact ⟨hHD, nl3.nb⟩
      · refine ⟨s4.back hb, ?_⟩
        cases e : B3 y with
        | none => rfl
        | some o =>
          rw [s4.bh y o e] at hb
          cases hb
    · have := nl3.push hb s4.bh
      rw [show List.replicate i ([] : List PyData) ++ [[]] = List.replicate (i + 1) [] from (List.replicate_succ' ..).symm] at this
      exact this
    · rcases List.mem_cons.mp hy with rfl | hy
      · exact hHD
      · rcases List.mem_append.mp hy with hy | hy
        · exact fr y (List.mem_cons_of_mem _ hy)
        · rw [List.mem_singleton.mp hy]
          exact s4.back hb
  · rintro H2 B2 ⟨eB, s2, bs, nl, fr⟩
    rw [rangeD_len, ← css_zero ns] at nl
    -- filled
    refine hWE H2 B2 (.ref D) _ s2 fun J2 H3 B3 s3 W2 => ?_
    refine for_hand W2 (fun i σ' H' B' => ∃ z2 z3 bs, σ' = [some v, some (.ref D), z2, z3, none] ∧ Same B3 B' ∧ Stp H B H' B' ∧ NL K H' B' D bs (cssAt ns m i) ∧ ∀ x ∈ D :: bs, H x = none) ?_ ?_ ?_ ⟨none, none, bs, rfl, Same.refl _, s2.trans s3, nl.step s3, fr⟩
    · rintro i σ' H' B' ⟨_, _, _, _, e, s, _⟩
      exact ⟨e, s.bh⟩
    · rintro i d σ' H' B' x H4 B4 hd ⟨z2, z3, bs, rfl, eB, s', nl, fr⟩ s4 dx
      obtain ⟨j, hj, rfl⟩ := enum_at (fun j : Nat => PyData.int (j : Nat)) ns 0 i d hd
      have jm := hm j (List.mem_of_getElem? hj)
      have il := (List.getElem?_eq_some_iff.mp hj).1
      rw [Nat.zero_add] at dx
      have s5 := s'.trans s4
      have nl5 := nl.step s4
      cases dx with
      | tup sq da =>
        cases da with
        | cons h1 da =>
          cases da with
          | cons h2 da =>
            cases da
            cases h1
            cases h2
            refine ⟨_, _, rfl, sm_t s5.bh sq, rfl, ?_⟩
            obtain ⟨b, hb⟩ : ∃ b, bs[j]? = some b := ⟨bs[j]'(by rw [nl5.len, css_len]; exact jm), List.getElem?_eq_getElem _⟩
            obtain ⟨vs, q1, q2, q3⟩ := nl5.each j b _ hb (css_at jm)
            have hbm : b ∈ D :: bs := List.mem_cons_of_mem _ (List.mem_of_getElem? hb)
            have at1 : atI (bs.map V.ref) (j : Nat) = some (.ref b) := by
              refine atI_nat ?_
              rw [List.getElem?_map, hb]
              rfl
            refine ⟨_, _, rfl, _, _, rfl, rfl, ?_⟩
            refine ⟨_, rfl, _, rfl, D, bs.map V.ref, _, .ref b, rfl, rfl, SqL.of nl5.top, at1, .inl ⟨rfl, _, SqL.of q1⟩, ?_⟩
            refine ⟨_, rfl, b, vs, _, rfl, rfl, q1, ?_, B4, _, _, bs, rfl, eB.trans s4.sB, s5.new fun y hy => ?_, ?_, fr⟩
            · rw [daa_len q3, List.length_map]
              have := List.length_filter_le (fun s => decide (ns[s]? = some j)) (List.range i)
              rw [List.length_range] at this
              show _ < 16777216
              omega
            · have e : y = b := Classical.byContradiction fun z => hy (upd_ne z)
              rw [e]
              exact ⟨fr b hbm, (nl5.mem hbm).2⟩
            · rw [css_step hj jm]
              exact nl5.write hb (daa_app q3 (.cons (.int _) .nil))
    · rintro σ' H' B' ⟨z2, z3, bs, rfl, eB, s', nl, fr⟩
      rw [enumD_len, List.length_map] at nl
      obtain ⟨sB, sH, dv⟩ := nl.rest s'.bh
      rw [← mem_css] at dv
      refine ⟨_, rfl, q _ H' _ s'.sH (s'.sB.trans sB) sH (fun y o z => ?_) dv⟩
      unfold frzAll at z
      by_cases e : y ∈ D :: bs
      · exact .inr (fr y e)
      · rw [if_neg e] at z
        exact s'.fz y o z
  · have e : x = D := Classical.byContradiction fun z => hx (upd_ne z)
    rw [e]
    exact ⟨hHD, hBD⟩
theorem post_eq {α : Type} {n : Nat} {C : Ct K n} {x : R α} {a : α} {k : α → Prop} (e : x = .ok a) (h : k a) : Post C x k := by
  rw [e]
  exact h
theorem ints_nats (ns : List Nat) : intsD (ns.map fun j => PyData.int (j : Nat)) = some (ns.map fun j => ((j : Nat) : Int)) := by
  have := ints_map (ns.map fun j => ((j : Nat) : Int))
  rwa [List.map_map] at this
theorem worth_max {ns : List Nat} (ne : ns ≠ []) : gMax [.list (ns.map fun j => PyData.int (j : Nat))] = .ok (.int ((topN ns : Nat) : Int)) := by
  unfold gMax
  simp only [ints_nats]
  refine (R.when_pos (by simpa using ne)).trans ?_
  obtain ⟨h1, _⟩ := maxI_mem (l := ns.map fun j => ((j : Nat) : Int)) (by simpa using ne)
  obtain ⟨j, _, e⟩ := List.mem_map.mp h1
  unfold topN
  rw [← e]
  rfl
theorem worth_rng {fa : VA} {S : SS} {m : Nat} (hm : m ≤ 2000) (h : fa S = .ok ([.int ((m : Nat) : Int)], S)) : vRange1 fa S = .ok (rangeD 0 m, S) := by
  unfold vRange1
  rw [h, R.bind_ok]
  refine (R.when_pos (by omega)).trans ?_
  rw [Int.toNat_natCast]
theorem worth_top {ns : List Nat} (ne : ns ≠ []) {S : SS} (h : S[0]? = some (some (.dat (.list (ns.map fun j => .int (j : Nat)))))) : (vCons (vOp (gI fun i j => i + j) (vCall gMax (vCons (vVar 0) vNil)) (vC (.int 1))) vNil) S = .ok ([.int ((topN ns + 1 : Nat) : Int)], S) := by
  have e1 : (vCons (vVar 0) vNil) S = .ok ([.list (ns.map fun j => .int (j : Nat))], S) := by
    simp only [vCons, vVar, vNil, h, R.bind_ok]
  have e2 : (vCall gMax (vCons (vVar 0) vNil)) S = .ok (.int ((topN ns : Nat) : Int), S) := by
    unfold vCall
    rw [e1, R.bind_ok, worth_max ne, R.bind_ok]
  have e3 : (vOp (gI fun i j => i + j) (vCall gMax (vCons (vVar 0) vNil)) (vC (.int 1))) S = .ok (.int ((topN ns + 1 : Nat) : Int), S) := by
    unfold vOp
    rw [e2, R.bind_ok]
    rfl
  show ((vOp _ _ _ S).bind _) = _
  rw [e3]
  rfl
theorem worth_enum {ns : List Nat} {S : SS} (h : S[0]? = some (some (.dat (.list (ns.map fun j => .int (j : Nat)))))) : vEnumK .L (vCons (vVar 0) vNil) S = .ok (enumD (ns.map fun j => .int (j : Nat)), S) := by
  have e1 : (vCons (vVar 0) vNil) S = .ok ([.list (ns.map fun j => .int (j : Nat))], S) := by
    simp only [vCons, vVar, vNil, h, R.bind_ok]
  unfold vEnumK
  rw [e1, R.bind_ok]
  rfl
theorem members_ok {H B : Hp} {v : V} {ns : List Nat} {nx bk ct : L2.St → Hp → Prop} {Q : VK} (bh : Same B H) (dv : Da K B v (.list (ns.map fun j => .int (j : Nat)))) (ne : ns ≠ []) (hl : ns.length ≤ 1000) (hb : ∀ j ∈ ns, j ≤ 1000)
    (q : ∀ v H' B', Same H H' → Same B B' → Same B' H' → Frz H B B' → Da K B' v (memD ns (topN ns + 1)) → Q v H') :
    (tSeq (tAsg (tLc (iRng1 (tCons (tOp (rI0 fun i j => .int (i + j)) (tCB (rMax K) (tCons (tVar 0) tNil)) (tC (.int 1))) tNil)) (gName 4) tYes (tLst tNil) [4]) (gName 1)) (tSeq (tFor (iEnumK .L K (tCons (tVar 0) tNil)) (gTup K 2 (gCons (gName 2) (gCons (gName 3) gNil))) (tSeq (tDrop (tBM K "list" rAppend (tOp (rIxL K) (tVar 1) (tVar 3)) (tCons (tVar 2) tNil))) tNext)) (tSeq (tRet (tVar 1)) tNext))) { nx := nx, rt := Q, bk := bk, ct := ct } [some v, none, none, none, none] H := by
  obtain ⟨t1, t2⟩ := topN_le ne
  have t3 := hb _ t2
  have fl : ∀ {H1 B1 : Hp} {b : Option V}, Same B B1 → Flats K B1 [some v, b, none, none, none] [some (.dat (.list (ns.map fun j => .int (j : Nat)))), none, none, none, none] := fun {H1 B1 b} e => ⟨rfl, fun i s h => by
    match i, h with
    | 0, h =>
      cases h
      exact ⟨_, v, rfl, rfl, da_mono e dv⟩
    | 1, h => cases h
    | 2, h => cases h
    | 3, h => cases h
    | 4, h => cases h
    | i + 5, h => cases h⟩
  refine members_run (C := ct0 H B fun _ _ _ => True) (m := topN ns + 1) bh (fun j hj => by have := t1 j hj; omega) hl (by omega) (fun Rr k => ?_) (fun H1 B1 b Rr s1 k => ?_) q
  · refine i_range1 (C := ct0 H B fun _ _ _ => True) (s_cons (s_op o_i0 (s_cb c_max (s_cons s_var s_nil)) s_int) s_nil) _ H B _ Rr ((fl (H1 := H) (Same.refl _)).rep bh) ?_
    refine post_eq (a := (rangeD 0 (topN ns + 1), [some (.dat (.list (ns.map fun j => .int (j : Nat)))), none, none, none, none])) ?_ (fun J H' B' R' e W => k J H' B' R'.stp W)
    exact worth_rng (by omega) (worth_top ne rfl)
  · refine i_enumK (C := ct0 H1 B1 fun _ _ _ => True) (k := .L) (s_cons s_var s_nil) _ H1 B1 _ Rr ((fl (H1 := H1) s1.sB).rep s1.bh) ?_
    refine post_eq (a := (enumD (ns.map fun j => .int (j : Nat)), [some (.dat (.list (ns.map fun j => .int (j : Nat)))), none, none, none, none])) ?_ (fun J H' B' R' e W => k J H' B' R'.stp ?_)
    · exact worth_enum rfl
    · exact W
end
end Bo

/-! ### numbers by first places: the walk -/
namespace Bo
open PySem PySem.Spec PyProof.Rows L2
theorem seenD_app : ∀ (ks : List PyData) (fs : List PyData) (k : PyData), seenD fs (ks ++ [k]) = @ite _ (k ∈ seenD fs ks) (Classical.propDecidable _) (seenD fs ks) (seenD fs ks ++ [k])
  | [], fs, k => rfl
  | c :: ks, fs, k => by
    show seenD _ (ks ++ [k]) = _
    rw [seenD_app ks]
    rfl
theorem seenD_sub : ∀ (ks : List PyData) (fs : List PyData) {d : PyData}, d ∈ fs → d ∈ seenD fs ks
  | [], fs, d, h => h
  | c :: ks, fs, d, h => by
    refine seenD_sub ks _ ?_
    by_cases q : c ∈ fs
    · rw [if_pos q]
      exact h
    · rw [if_neg q]
      exact List.mem_append_left _ h
theorem seenD_mem : ∀ (ks : List PyData) (fs : List PyData) {d : PyData}, d ∈ ks → d ∈ seenD fs ks
  | c :: ks, fs, d, h => by
    rcases List.mem_cons.mp h with rfl | h
    · refine seenD_sub ks _ ?_
      by_cases q : d ∈ fs
      · rw [if_pos q]
        exact q
      · rw [if_neg q]
        exact List.mem_append_right _ (List.mem_singleton.mpr rfl)
    · exact seenD_mem ks _ h
theorem seenD_len : ∀ (ks : List PyData) (fs : List PyData), (seenD fs ks).length ≤ fs.length + ks.length
  | [], fs => Nat.le_refl _
  | c :: ks, fs => by
    have := seenD_len ks (@ite _ (c ∈ fs) (Classical.propDecidable _) fs (fs ++ [c]))
    show (seenD _ ks).length ≤ _
    rw [List.length_cons]
    by_cases q : c ∈ fs
    · rw [if_pos q] at this ⊢
      omega
    · rw [if_neg q] at this ⊢
      rw [List.length_append, List.length_singleton] at this
      omega
theorem daa_int {K : PySem.W.Frag} {B : Hp} (f : PyData → Nat) : ∀ ks : List PyData, DaAll K B (ks.map fun k => V.int (f k : Nat)) (ks.map fun k => PyData.int (f k : Nat))
  | [] => .nil
  | k :: ks => .cons (.int _) (daa_int f ks)
theorem numbered_run {K : PySem.W.Frag} {H B : Hp} {v : V} {ks : List PyData} {okd : PyData → Prop} {Tb : Addr → List PyData → HO → Prop} {tNew tNot tGet : TE} {sPut : TS} {tt : TT} {nx : L2.St → Hp → Prop} {bk ct : L2.St → Hp → Prop} {Q : VK}
    (bh : Same B H) (dv : Da K B v (.list ks)) (hok : ∀ k ∈ ks, okd k) (hl : ks.length ≤ 1000) (htt : ∀ σ Hx R, R true Hx → tt σ Hx R)
    (hNew : ∀ σ Hx (R : VK), (∀ p o, Hx p = none → Tb p [] o → R (.ref p) (upd Hx p o)) → tNew σ Hx R)
    (hNot : ∀ (σ : L2.St) Hx (R : VK) y p o fs d, σ[2]? = some (some y) → σ[1]? = some (some (.ref p)) → Hx p = some o → Tb p fs o → Same B Hx → Da K B y d → okd d → (d ∉ fs → R (.bl true) Hx) → (d ∈ fs → R (.bl false) Hx) → tNot σ Hx R)
    (hPut : ∀ (D : Ends) (σ : L2.St) Hx y p o fs d, σ[2]? = some (some y) → σ[1]? = some (some (.ref p)) → Hx p = some o → Tb p fs o → Same B Hx → Da K B y d → okd d → d ∉ fs → fs.length ≤ 1000 → (∀ o', Tb p (fs ++ [d]) o' → D.nx σ (upd Hx p o')) → sPut D σ Hx)
    (hGet : ∀ (σ : L2.St) Hx (R : VK) y p o fs d, σ[2]? = some (some y) → σ[1]? = some (some (.ref p)) → Hx p = some o → Tb p fs o → Same B Hx → Da K B y d → okd d → d ∈ fs → R (.int (posD fs d : Nat)) Hx → tGet σ Hx R)
    (q : ∀ v H' B', Same H H' → Same B B' → Same B' H' → Frz H B B' → Da K B' v (.list ((numD ks).map fun j => .int (j : Nat))) → Q v H') :
    (tSeq (tAsg tNew (gName 1)) (tSeq (tFor (iList K (tVar 0)) (gName 2) (tSeq (tIfS (tB tNot) (tSeq sPut tNext) tNext) tNext)) (tSeq (tRet (tLc (iList K (tVar 0)) (gName 2) tt tGet [2])) tNext))) { nx := nx, rt := Q, bk := bk, ct := ct } [some v, none, none] H := by
  cases dv with
  | lst s da =>
    rename_i a vs
    refine hNew _ _ _ fun p o hp tb0 => ?_
    have hbp : B p = none := by
      cases e : B p with
      | none => rfl
      | some u =>
        rw [bh p u e] at hp
        cases hp
    have up : ∀ o, Same B (upd H p o) := fun o b u e => by
      rw [upd_ne (ne_of_none e hbp)]
      exact bh b u e
    have top : ∀ o, upd H p o a = some (.lst vs) := fun o => up o _ _ s
    have len := daa_len da
    refine ⟨_, rfl, a, rfl, ⟨vs, SqL.of (top o)⟩, fun i m σ' H' => m = ks.length - i ∧ i ≤ ks.length ∧ ∃ z o, σ' = [some (.ref a), some (.ref p), z] ∧ H' = upd H p o ∧ Tb p (seenD [] (ks.take i)) o, ⟨ks.length, by simp, Nat.zero_le _, none, o, rfl, rfl, tb0⟩, ?_⟩
    rintro i m σ' H' ⟨rfl, hi, z, o, rfl, rfl, tb⟩
    rcases Nat.lt_or_ge i ks.length with hlt | hge
    · refine .inr ⟨⟨vs, vs[i]'(by omega), SqL.of (top o), List.getElem?_eq_getElem _⟩, fun σ' H' => ∃ z o, σ' = [some (.ref a), some (.ref p), z] ∧ H' = upd H p o ∧ Tb p (seenD [] (ks.take (i + 1))) o, ?_, ?_⟩
      · rintro σ' H' h
        exact ⟨ks.length - (i + 1), by omega, rfl, hlt, h⟩
      · rintro x H2 ⟨rfl, y⟩
        have hx := y vs (SqL.of (top o))
        obtain ⟨d, e1, e2⟩ := daa_at da hx
        have tk : ks.take (i + 1) = ks.take i ++ [d] := by rw [List.take_add_one, e1]; rfl
        have dm := List.mem_of_getElem? e1
        have fl : (seenD [] (ks.take i)).length ≤ 1000 := by
          have := seenD_len (ks.take i) []
          rw [List.length_nil, List.length_take] at this
          omega
        refine hNot _ _ _ x p o (seenD [] (ks.take i)) d rfl rfl upd_same tb (up o) e2 (hok d dm) (fun c => ⟨true, rfl, ?_⟩) (fun c => ⟨false, rfl, ?_⟩)
        · refine (if_pos rfl).mpr ?_
          refine hPut _ _ _ x p o (seenD [] (ks.take i)) d rfl rfl upd_same tb (up o) e2 (hok d dm) c fl fun o' tb' => ?_
          rw [upd_upd]
          exact ⟨_, o', rfl, rfl, by rw [tk, seenD_app, if_neg c]; exact tb'⟩
        · refine (if_neg (by decide)).mpr ?_
          exact ⟨_, o, rfl, rfl, by rw [tk, seenD_app, if_pos c]; exact tb⟩
    · have ei : i = ks.length := by omega
      subst ei
      rw [List.take_length] at tb
      refine .inl ⟨⟨vs, SqL.of (top o), by omega⟩, ?_⟩
      -- the comprehension
      refine ⟨_, rfl, a, rfl, ⟨vs, SqL.of (top o)⟩, fun D hD => ?_⟩
      have hpD : p ≠ D := ne_of_none upd_same hD
      have hHD : H D = none := by rwa [upd_ne (Ne.symm hpD)] at hD
      have hBD : B D = none := by
        cases e : B D with
        | none => rfl
        | some u =>
          rw [bh D u e] at hHD
          cases hHD
      have up2 : ∀ l, Same B (upd (upd H p o) D (.lst l)) := fun l b u e => by
        rw [upd_ne (ne_of_none e hBD)]
        exact up o b u e
      have top2 : ∀ l, upd (upd H p o) D (.lst l) a = some (.lst vs) := fun l => up2 l _ _ s
      refine ⟨fun i m H' => m = ks.length - i ∧ i ≤ ks.length ∧ H' = upd (upd H p o) D (.lst ((ks.take i).map fun k => V.int (posD (seenD [] ks) k : Nat))), ⟨ks.length, by simp, Nat.zero_le _, rfl⟩, ?_⟩
      rintro i m H' ⟨rfl, hi, rfl⟩
      rcases Nat.lt_or_ge i ks.length with hlt | hge
      · refine .inr ⟨⟨vs, vs[i]'(by omega), SqL.of (top2 _), List.getElem?_eq_getElem _⟩, fun H' => H' = upd (upd H p o) D (.lst ((ks.take (i + 1)).map fun k => V.int (posD (seenD [] ks) k : Nat))), ?_, ?_⟩
        · rintro H' rfl
          exact ⟨ks.length - (i + 1), by omega, rfl, hlt, rfl⟩
        · rintro x H2 ⟨rfl, y⟩
          have hx := y vs (SqL.of (top2 _))
          obtain ⟨d, e1, e2⟩ := daa_at da hx
          have tk : ks.take (i + 1) = ks.take i ++ [d] := by rw [List.take_add_one, e1]; rfl
          have dm := List.mem_of_getElem? e1
          refine ⟨rfl, htt _ _ _ ((if_pos rfl).mpr ?_)⟩
          refine hGet _ _ _ x p o (seenD [] ks) d rfl rfl (by rw [upd_ne hpD]; exact upd_same) tb (up2 _) e2 (hok d dm) (seenD_mem ks [] dm) ?_
          refine ⟨_, upd_same, ?_, ?_⟩
          · rw [List.length_map, List.length_take]
            show _ < 16777216
            omega
          · rw [upd_upd, tk, List.map_append]
            rfl
      · have ei : i = ks.length := by omega
        subst ei
        rw [List.take_length]
        refine .inl ⟨⟨vs, SqL.of (top2 _), by omega⟩, ?_⟩
        have nB : Same B (upd B D (.lst (ks.map fun k => V.int (posD (seenD [] ks) k : Nat)))) := sm_new hBD
        refine q (.ref D) _ _ (fun b u e => ?_) nB (fun b u e => ?_) (fun b u e => ?_) ?_
        · rw [upd_ne (ne_of_none e hHD), upd_ne (ne_of_none e hp)]
          exact e
        · by_cases eD : b = D
          · subst eD
            rw [upd_same] at e ⊢
            exact e
          · rw [upd_ne eD] at e
            rw [upd_ne eD, upd_ne (ne_of_none e hbp)]
            exact bh b u e
        · by_cases eD : b = D
          · subst eD
            exact .inr hHD
          · rw [upd_ne eD] at e
            exact .inl e
        · refine .lst upd_same ?_
          unfold numD
          rw [List.map_map]
          exact daa_int _ ks
end Bo
namespace Bo
open PySem PySem.Spec PyProof.Rows L2
/-! where the keys are ints -/
def kvJ (js : List Int) (n : Nat) : List (Key × V) := (js.zipIdx n).map fun e => ((.inl e.1 : Key), V.int ((e.2 : Nat) : Int))
def TbI (_ : Addr) (fs : List PyData) (o : HO) : Prop := ∃ js : List Int, fs = js.map PyData.int ∧ o = .dK (kvJ js 0)
theorem kvJ_val : ∀ (js : List Int) (n : Nat) (i : Int), (i ∈ js → valV (kvJ js n) (.inl i : Key) = some (.int ((n + posD (js.map PyData.int) (.int i) : Nat) : Int))) ∧ (i ∉ js → valV (kvJ js n) (.inl i : Key) = none)
  | [], n, i => ⟨fun h => absurd h (by simp), fun _ => rfl⟩
  | j :: js, n, i => by
    obtain ⟨h1, h2⟩ := kvJ_val js (n + 1) i
    have e : kvJ (j :: js) n = ((.inl j : Key), V.int (n : Nat)) :: kvJ js (n + 1) := rfl
    rw [e]
    by_cases c : j = i
    · subst c
      refine ⟨fun _ => ?_, fun z => absurd List.mem_cons_self z⟩
      rw [valV_pos rfl]
      have : posD ((j :: js).map PyData.int) (.int j) = 0 := if_pos rfl
      rw [this]
      rfl
    · have ne : ¬ (Sum.inl j : Key) = .inl i := fun z => c (Sum.inl.inj z)
      have np : ¬ PyData.int j = .int i := fun z => c (by injection z)
      refine ⟨fun z => ?_, fun z => ?_⟩
      · rw [valV_neg (p := ((.inl j : Key), V.int (n : Nat))) ne, h1 (by rcases List.mem_cons.mp z with z | z; exact absurd z.symm c; exact z)]
        have : posD ((j :: js).map PyData.int) (.int i) = posD (js.map PyData.int) (.int i) + 1 := if_neg np
        rw [this]
        congr 2
        omega
      · rw [valV_neg (p := ((.inl j : Key), V.int (n : Nat))) ne]
        exact h2 fun y => z (List.mem_cons_of_mem _ y)
theorem kvJ_app (js : List Int) (n : Nat) (i : Int) : kvJ (js ++ [i]) n = kvJ js n ++ [((.inl i : Key), V.int ((n + js.length : Nat) : Int))] := by
  unfold kvJ
  rw [List.zipIdx_append, List.map_append]
  rfl
theorem kvJ_len (js : List Int) (n : Nat) : (kvJ js n).length = js.length := by
  unfold kvJ
  rw [List.length_map, List.length_zipIdx]
theorem mem_J {js : List Int} {i : Int} : PyData.int i ∈ js.map PyData.int ↔ i ∈ js := by
  rw [List.mem_map]
  constructor
  · rintro ⟨j, hj, e⟩
    injection e with e
    rw [← e]
    exact hj
  · exact fun h => ⟨i, h, rfl⟩
/-! where they are nested tuples -/
def TbK (P : Program) (w : World) (K : PySem.W.Frag) (B : Hp) (p : Addr) (fs : List PyData) (o : HO) : Prop := ∃ xs : KX, o = kdO P w p xs ∧ KeyB K B xs ∧ (∀ d ∈ fs, okK d = true) ∧ xs.map (fun x => (x.1, x.2.2)) = (fs.zipIdx 0).map fun e => (toK e.1, ((e.2 : Nat) : Int))
theorem posD_at : ∀ {fs : List PyData} {d : PyData} (n : Nat), d ∈ fs → (d, n + posD fs d) ∈ fs.zipIdx n
  | f :: fs, d, n, h => by
    rw [List.zipIdx_cons]
    by_cases c : f = d
    · have : posD (f :: fs) d = 0 := if_pos c
      rw [this, c]
      exact List.mem_cons_self
    · have : posD (f :: fs) d = posD fs d + 1 := if_neg c
      rw [this]
      refine List.mem_cons_of_mem _ ?_
      have := posD_at (fs := fs) (d := d) (n + 1) (by rcases List.mem_cons.mp h with z | z; exact absurd z.symm c; exact z)
      rwa [show n + 1 + posD fs d = n + (posD fs d + 1) by omega] at this
theorem tbK_keys {xs : KX} {fs : List PyData} (h : xs.map (fun x => (x.1, x.2.2)) = (fs.zipIdx 0).map fun e => (toK e.1, ((e.2 : Nat) : Int))) : xs.map (·.1) = fs.map toK := by
  have := congrArg (List.map Prod.fst) h
  rw [List.map_map, List.map_map] at this
  rw [show xs.map (·.1) = xs.map (Prod.fst ∘ fun x => (x.1, x.2.2)) from rfl, this]
  have e : ∀ (l : List PyData) (n : Nat), (l.zipIdx n).map (Prod.fst ∘ fun e => (toK e.1, ((e.2 : Nat) : Int))) = l.map toK := by
    intro l
    induction l with
    | nil => intro n; rfl
    | cons c r ih => intro n; rw [List.zipIdx_cons, List.map_cons, ih]; rfl
  exact e fs 0
theorem tbK_mem {xs : KX} {fs : List PyData} (h : xs.map (fun x => (x.1, x.2.2)) = (fs.zipIdx 0).map fun e => (toK e.1, ((e.2 : Nat) : Int))) (ok : ∀ d ∈ fs, okK d = true) {d : PyData} (hd : okK d = true) : toK d ∈ xs.map (·.1) ↔ d ∈ fs := by
  rw [tbK_keys h, List.mem_map]
  constructor
  · rintro ⟨c, hc, e⟩
    rw [← toK_inj (ok c hc) hd e]
    exact hc
  · exact fun z => ⟨d, z, rfl⟩
theorem tbK_len {xs : KX} {fs : List PyData} (h : xs.map (fun x => (x.1, x.2.2)) = (fs.zipIdx 0).map fun e => (toK e.1, ((e.2 : Nat) : Int))) : xs.length = fs.length := by
  have := congrArg List.length h
  rwa [List.length_map, List.length_map, List.length_zipIdx] at this
theorem tbK_at {xs : KX} {fs : List PyData} (h : xs.map (fun x => (x.1, x.2.2)) = (fs.zipIdx 0).map fun e => (toK e.1, ((e.2 : Nat) : Int))) {d : PyData} (hd : d ∈ fs) : ∃ b, (toK d, b, ((posD fs d : Nat) : Int)) ∈ xs := by
  have m := posD_at 0 hd
  rw [Nat.zero_add] at m
  have : (toK d, ((posD fs d : Nat) : Int)) ∈ xs.map (fun x => (x.1, x.2.2)) := by
    rw [h]
    exact List.mem_map.mpr ⟨_, m, rfl⟩
  obtain ⟨⟨k, b, j⟩, hx, e⟩ := List.mem_map.mp this
  injection e with e1 e2
  dsimp only at e1 e2
  subst e1 e2
  exact ⟨b, hx⟩
def rDLen : List V → Hp → VK → Prop := fun xs H Q => ∃ (p : Addr) (kvs : List (Key × V)), xs = [.ref p] ∧ H p = some (.dK kvs) ∧ Q (.int (kvs.length : Nat)) H
theorem call_dlen {X : Cx} : CallR X (.builtin "len") rDLen := by
  intro pins s σ H xs us Q I r h
  obtain ⟨p, kvs, rfl, e, q⟩ := h
  obtain ⟨u, rfl, rx⟩ := vals1 r
  obtain rfl : u = .ref p := rx
  exact d_len I (.inl e) fun t s' I' => ⟨.int (kvs.length : Nat), H, I', ⟨t, rfl⟩, q⟩
/-- an int key's number is told -/
theorem numbered_ints {K : PySem.W.Frag} {H B : Hp} {v : V} {ks : List PyData} {nx bk ct : L2.St → Hp → Prop} {Q : VK} (bh : Same B H) (dv : Da K B v (.list ks)) (hok : ∀ k ∈ ks, isInt k = true) (hl : ks.length ≤ 1000)
    (q : ∀ v H' B', Same H H' → Same B B' → Same B' H' → Frz H B B' → Da K B' v (.list ((numD ks).map fun j => .int (j : Nat))) → Q v H') :
    (tSeq (tAsg tDNewK (gName 1)) (tSeq (tFor (iList K (tVar 0)) (gName 2) (tSeq (tIfS (tB (tDNotIn (tVar 2) (tVar 1))) (tSeq (sDPut (tVar 1) (tVar 2) (tCB rDLen (tCons (tVar 1) tNil))) tNext) tNext) tNext)) (tSeq (tRet (tLc (iList K (tVar 0)) (gName 2) tYes (tDGet (tVar 1) (tVar 2)) [2])) tNext))) { nx := nx, rt := Q, bk := bk, ct := ct } [some v, none, none] H := by
  refine numbered_run (okd := fun d => ∃ i, d = .int i) (Tb := TbI) bh dv (fun k hk => ?_) hl (fun σ Hx R h => h) (fun σ Hx R h p hp => h p _ hp ⟨[], rfl, rfl⟩) ?_ ?_ ?_ q
  · have := hok k hk
    cases k <;> first | exact ⟨_, rfl⟩ | cases this
  · rintro σ Hx R y p o fs d h2 h1 ho ⟨js, rfl, rfl⟩ _ da ⟨i, rfl⟩ r1 r2
    cases da
    refine ⟨_, h2, _, h1, p, _, rfl, DGet.k (k := .inl i) ho, ?_⟩
    by_cases c : i ∈ js
    · rw [(kvJ_val js 0 i).1 c]
      exact r2 (mem_J.mpr c)
    · rw [(kvJ_val js 0 i).2 c]
      exact r1 fun z => c (mem_J.mp z)
  · rintro D σ Hx y p o fs d h2 h1 ho ⟨js, rfl, rfl⟩ _ da ⟨i, rfl⟩ nm fl k
    cases da
    have c : i ∉ js := fun z => nm (mem_J.mpr z)
    rw [List.length_map] at fl
    refine ⟨_, h1, p, _, rfl, ho, _, h1, _, h2, p, _, rfl, .inl ⟨_, .inl i, ho, rfl, by rw [kvJ_len]; show _ < 16777216; omega, rfl⟩, ?_⟩
    rw [putK_new _ ((kvJ_val js 0 i).2 c)]
    refine k _ ⟨js ++ [i], by rw [List.map_append]; rfl, ?_⟩
    rw [kvJ_app, kvJ_len, Nat.zero_add]
  · rintro σ Hx R y p o fs d h2 h1 ho ⟨js, rfl, rfl⟩ _ da ⟨i, rfl⟩ m r
    cases da
    refine ⟨_, h1, _, h2, p, _, rfl, ?_, r⟩
    have := (kvJ_val js 0 i).1 (mem_J.mp m)
    rw [Nat.zero_add] at this
    rw [← this]
    exact DGet.k (k := .inl i) ho
/-- a nested tuple's number is told -/
theorem numbered_tups {P : Program} {w : World} {K : PySem.W.Frag} {H B : Hp} {v : V} {ks : List PyData} {nx bk ct : L2.St → Hp → Prop} {Q : VK} (bh : Same B H) (dv : Da K B v (.list ks)) (hok : ∀ k ∈ ks, (∃ ds, k = .tuple ds) ∧ okK k = true ∧ (toK k).depth ≤ 8) (hl : ks.length ≤ 1000)
    (q : ∀ v H' B', Same H H' → Same B B' → Same B' H' → Frz H B B' → Da K B' v (.list ((numD ks).map fun j => .int (j : Nat))) → Q v H') :
    (tSeq (tAsg (tKNew P w) (gName 1)) (tSeq (tFor (iList K (tVar 0)) (gName 2) (tSeq (tIfS (tB (tKNot P w K (tVar 2) (tVar 1))) (tSeq (sKPut P w K (tVar 1) (tVar 2) (tCB (rKLen P w K) (tCons (tVar 1) tNil))) tNext) tNext) tNext)) (tSeq (tRet (tLc (iList K (tVar 0)) (gName 2) tYes (tKGet P w K (tVar 1) (tVar 2)) [2])) tNext))) { nx := nx, rt := Q, bk := bk, ct := ct } [some v, none, none] H := by
  refine numbered_run (okd := fun k => (∃ ds, k = .tuple ds) ∧ okK k = true ∧ (toK k).depth ≤ 8) (Tb := TbK P w K B) bh dv hok hl (fun σ Hx R h => h) (fun σ Hx R h p hp => h p _ hp ⟨[], rfl, (fun x hx => nomatch hx), (fun x hx => nomatch hx), rfl⟩) ?_ ?_ ?_ q
  · rintro σ Hx R y p o fs d h2 h1 ho ⟨xs, rfl, kb, ok, e⟩ bx da ⟨⟨ds, rfl⟩, k1, k2⟩ r1 r2
    cases da with
    | tup s a =>
      refine ⟨_, h2, _, h1, p, _, xs, B, _, rfl, rfl, ho, bx, kb, ⟨k1, k2, .tup s a⟩, fun z => r1 fun m => z ((tbK_mem e ok k1).mpr m), fun z => r2 ((tbK_mem e ok k1).mp z)⟩
  · rintro D σ Hx y p o fs d h2 h1 ho ⟨xs, rfl, kb, ok, e⟩ bx da ⟨⟨ds, rfl⟩, k1, k2⟩ nm fl k
    have ln := tbK_len e
    cases da with
    | tup s a =>
      refine ⟨_, h1, p, xs, B, rfl, ho, bx, kb, by omega, _, h1, _, h2, p, _, xs, B, _, _, rfl, rfl, rfl, ho, bx, kb, ⟨k1, k2, .tup s a⟩, fun z => nm ((tbK_mem e ok k1).mp z), by omega, ?_⟩
      refine k _ ⟨_, rfl, fun x hx => ?_, fun d hd => ?_, ?_⟩
      · rcases List.mem_append.mp hx with z | z
        · exact kb x z
        · rw [List.mem_singleton.mp z]
          exact ⟨_, rfl, k1, k2, .tup s a⟩
      · rcases List.mem_append.mp hd with z | z
        · exact ok d z
        · rw [List.mem_singleton.mp z]
          exact k1
      · rw [List.map_append, e, List.zipIdx_append, List.map_append, ln]
        congr 1
        show [_] = [_]
        rw [Nat.zero_add]
  · rintro σ Hx R y p o fs d h2 h1 ho ⟨xs, rfl, kb, ok, e⟩ bx da ⟨⟨ds, rfl⟩, k1, k2⟩ m r
    obtain ⟨b, hb⟩ := tbK_at e m
    cases da with
    | tup s a =>
      exact ⟨_, h1, _, h2, p, _, b, xs, B, _, _, rfl, rfl, ho, bx, kb, ⟨k1, k2, .tup s a⟩, hb, r⟩
end Bo

/-! ### means, better ones: the worth of the program's defs, as gen2 reads them -/
namespace Bo
open PySem L2
noncomputable section
end
end Bo

namespace Bo
open PySem L2
noncomputable section
def body_ends_between : VS :=
    (vSeq (vNewD 2)
    (vSeq (vAsg (vC (.int 0)) (aName 3))
    (vSeq (vThen [4, 5, 6] (vFor (vIterT (vVar 0)) (aTup 2 (aCons (aName 5) (aCons (aName 4) aNil))) (vThen [4, 5, 6] (vSeq (vAsg (vOp gIxL (vVar 1) (vVar 5)) (aName 6))
    (vPutD 2 (vVar 6) (vOp (gI fun i j => i + j) (vGet2 2 (vVar 6) (vC (.int 0))) (vVar 4)))))))
    (vSeq (vThen [4] (vForVA 2 (aName 4) (vCall gGcd (vCons (vVar 3) (vCons (vVar 4) vNil))) (aName 3)))
    (vRet (vCall gTuple (vCons (vFr (vLc [6, 4] (vIter (vFr (vSortK 2))) (aTup 2 (aCons (aName 6) (aCons (aName 4) aNil))) vYes (vTup (vCons (vVar 6) (vCons (vOp (gIC cFdiv Int.fdiv) (vVar 4) (vVar 3)) vNil))))) vNil)))))))
def den_ends_between := denP 7 body_ends_between
def body_choices_between : VS :=
    (vSeq (vOwn 2 (vLstF vNil))
    (vSeq (vThen [3, 4, 5] (vFor (vIterT (vVar 0)) (aTup 2 (aCons (aName 3) (aCons (aName 4) aNil))) (vThen [3, 4, 5] (vSeq (vAsg (vTup (vCons (vVar 3) (vCons (vCallP 2 den_ends_between (vCons (vVar 4) (vCons (vVar 1) vNil))) vNil))) (aName 5))
    (vIfS (vTst (vNotInO (vVar 5) 2)) (vDrop (vApp 2 (vVar 5))) vNext)))))
    (vRet (vTupleO 2))))
def den_choices_between := denP 6 body_choices_between
def body_block_numbers : VS :=
    (vSeq (vAsg (vCallP 1 den_numbered (vCons (vVar 1) vNil)) (aName 2))
    (vThen [2, 3] (vWhile (vTst (vC (.bool true))) (vThen [3] (vSeq (vAsg (vCallP 1 den_numbered (vCons (vFr (vLc [4, 5] (vZipK .T .L (vCons (vVar 0) (vCons (vVar 2) vNil))) (aTup 2 (aCons (aName 4) (aCons (aName 5) aNil))) vYes (vTup (vCons (vVar 5) (vCons (vCall gTuple (vCons (vCall gSortT (vCons (vCallP 2 den_choices_between (vCons (vVar 4) (vCons (vVar 2) vNil))) vNil)) vNil)) vNil))))) vNil)) (aName 3))
    (vSeq (vIfS (vTst (vOp gEqD (vVar 3) (vVar 2))) (vRet (vVar 2)) vNext)
    (vAsg (vVar 3) (aName 2))))))))
def den_block_numbers := denP 6 body_block_numbers
def body_l_split : VS :=
    (vSeq (vIfS (vTst (vOp gEq (vCall gLen (vCons (vVar 2) vNil)) (vC (.int 1)))) (vRet (vLst (vCons (vTup (vCons (vOp gIxL (vVar 2) (vC (.int 0))) (vCons (vOp (gIC cMulS fun i j => i * j) (vC (.int 2)) (vVar 1)) vNil))) vNil))) vNext)
    (vSeq (vAsg (vCallB 1 den_l_take 0 (vCons (vOp (gI fun i j => i + j) (vOp (gIC cMulS fun i j => i * j) (vC (.int 2)) (vVar 1)) (vC (.int 1))) vNil)) (aName 3))
    (vRet (vLst (vCons (vTup (vCons (vOp gIxL (vVar 2) (vC (.int 0))) (vCons (vVar 3) vNil))) (vCons (vTup (vCons (vOp gIxL (vVar 2) (vC (.int 1))) (vCons (vOp (gI fun i j => i - j) (vOp (gIC cMulS fun i j => i * j) (vC (.int 2)) (vVar 1)) (vVar 3)) vNil))) vNil))))))
def den_l_split := denB 4 body_l_split
def body_l_twins : VS :=
    (vSeq (vOwn 2 (vLstF vNil))
    (vSeq (vAsg (vC (.int 0)) (aName 3))
    (vSeq (vThen [3, 4, 6] (vFor (vRange1 (vCons (vCall gLen (vCons (vVar 1) vNil)) vNil)) (aName 4) (vThen [4, 6] (vSeq (vAsg (vOp (gI fun i j => i + j) (vC (.int 1)) (vCall gInt (vCons (vAnd (vOp (gIB fun i j => decide (i < j)) (vVar 3) (vC (.int 6))) (vOp gEq (vCallB 1 den_l_take 0 (vCons (vC (.int 2)) vNil)) (vC (.int 0)))) vNil))) (aName 6))
    (vSeq (vDrop (vApp 2 (vFr (vListRg2 (vVar 3) (vOp (gI fun i j => i + j) (vVar 3) (vVar 6))))))
    (vAsg (vOp (gI fun i j => i + j) (vVar 3) (vVar 6)) (aName 3)))))))
    (vSeq (vOwn 5 (vLstF vNil))
    (vSeq (vThen [4, 7, 8, 9, 10, 11, 12, 13] (vFor (vRange1 (vCons (vCall gLen (vCons (vVar 1) vNil)) vNil)) (aName 4) (vThen [4] (vPre [7, 8, 9, 10, 11, 12, 13] (vThen [7, 8, 9, 10, 11, 12, 13] (vFor (vIter (vIxO 2 (vVar 4))) (aName 7) (vThen [7, 8] (vSeq (vOwn 8 (vLstF vNil))
    (vSeq (vPre [7, 9, 10, 11, 12, 13] (vThen [9, 10, 11, 12, 13] (vFor (vIterT (vOp gIxT (vVar 1) (vVar 4))) (aTup 2 (aCons (aName 9) (aCons (aName 10) aNil))) (vThen [9, 10, 11] (vSeq (vAsg (vLst vNil) (aName 11))
    (vSeq (vPre [12, 13] (vThen [12, 13] (vFor (vIterT (vVar 10)) (aTup 2 (aCons (aName 12) (aCons (aName 13) aNil))) (vThen [12, 13] (vAsg (vOp gCat (vVar 11) (vCallB 2 den_l_split 0 (vCons (vVar 13) (vCons (vIxO 2 (vVar 12)) vNil)))) (aName 11))))))
    (vDrop (vApp 8 (vTup (vCons (vVar 9) (vCons (vCall gTuple (vCons (vFr (vLc [14] (vIter (vVar 11)) (aName 14) (vTst (vOp (gIB fun i j => decide (i < j)) (vC (.int 0)) (vOp gIxT (vVar 14) (vC (.int 1))))) (vVar 14))) vNil)) vNil)))))))))))
    (vSeq (vIfS (vTst (vOp gEq (vCallB 1 den_l_take 0 (vCons (vC (.int 2)) vNil)) (vC (.int 0)))) (vOwn 8 (vRevN 8)) vNext)
    (vFrz 8 (vDrop (vApp 5 (vCall gTuple (vCons (vOp gCat (vVar 8) (vSl gSlL (vVar 8) vNoPart (vPart (vCall gInt (vCons (vOp gEq (vCallB 1 den_l_take 0 (vCons (vC (.int 3)) vNil)) (vC (.int 0))) vNil))))) vNil)))))))))))))))
    (vRet (vTupleO 5)))))))
def den_l_twins := denB 15 body_l_twins
def body_l_light : VS :=
    (vSeq (vAsg (vCallB 1 den_l_system 0 (vCons (vC (.int 3)) vNil)) (aName 1))
    (vSeq (vOwn 2 (vLstF vNil))
    (vSeq (vThen [3] (vFor (vIterT (vVar 1)) (aName 3) (vThen [3] (vDrop (vApp 2 (vCall gTuple (vCons (vFr (vLc [4, 5] (vIterT (vVar 3)) (aTup 2 (aCons (aName 4) (aCons (aName 5) aNil))) vYes (vTup (vCons (vOp (gIC cMod Int.fmod) (vVar 4) (vC (.int 3))) (vCons (vCall gTuple (vCons (vFr (vLc [6] (vIterT (vVar 5)) (aName 6) vYes (vTup (vCons (vOp gIxT (vVar 6) (vC (.int 0))) (vCons (vCall gMin2 (vCons (vOp gIxT (vVar 6) (vC (.int 1))) (vCons (vC (.int 400)) vNil))) vNil))))) vNil)) vNil))))) vNil)))))))
    (vRet (vTupleO 2)))))
def den_l_light := denB 7 body_l_light
def body_l_sight : VS :=
    (vSeq (vOwn 3 (vLstF vNil))
    (vSeq (vThen [4, 5, 6, 7, 8, 9, 10] (vFor (vIterT (vOp gIxT (vVar 0) (vVar 2))) (aTup 2 (aCons (aName 4) (aCons (aName 5) aNil))) (vThen [4, 5, 6, 7, 8] (vSeq (vAsg (vCall (gInts fun ns => .int ns.sum) (vCons (vFr (vLc [11] (vIterT (vVar 5)) (aName 11) vYes (vOp gIxT (vVar 11) (vC (.int 1))))) vNil)) (aName 6))
    (vSeq (vNewD 7)
    (vSeq (vPre [8, 9, 10] (vThen [9, 10] (vFor (vIterT (vVar 5)) (aTup 2 (aCons (aName 9) (aCons (aName 10) aNil))) (vThen [9, 10] (vPutD 7 (vOp gIxL (vVar 1) (vVar 9)) (vOp (gI fun i j => i + j) (vGet2 7 (vOp gIxL (vVar 1) (vVar 9)) (vC (.int 0))) (vVar 10)))))))
    (vSeq (vAsg (vTup (vCons (vVar 4) (vCons (vCall gTuple (vCons (vFr (vLc [12] (vIter (vFr (vSortKs 7))) (aName 12) vYes (vTup (vCons (vVar 12) (vCons (vCallP 2 den_l_ratio (vCons (vGetD 7 (vVar 12)) (vCons (vVar 6) vNil))) vNil))))) vNil)) vNil))) (aName 8))
    (vIfS (vTst (vNotInO (vVar 8) 3)) (vDrop (vApp 3 (vVar 8))) vNext))))))))
    (vFrz 3 (vRet (vCall gSortD (vCons (vVar 3) vNil))))))
def den_l_sight := denP 13 body_l_sight
def body_l_blocks : VS :=
    (vSeq (vAsg (vCall gLen (vCons (vVar 0) vNil)) (aName 2))
    (vSeq (vAsg (vFr (vLc [6] (vIter (vVar 1)) (aName 6) vYes (vIndex (vVar 1) (vVar 6)))) (aName 3))
    (vSeq (vThen [4, 5] (vFor (vRange1 (vCons (vVar 2) vNil)) (aName 4) (vThen [4, 5] (vSeq (vAsg (vFr (vLc [7] (vRange1 (vCons (vVar 2) vNil)) (aName 7) vYes (vTup (vCons (vOp gIxL (vVar 3) (vVar 7)) (vCons (vCallP 3 den_l_sight (vCons (vVar 0) (vCons (vVar 3) (vCons (vVar 7) vNil)))) vNil))))) (aName 5))
    (vAsg (vFr (vLc [8] (vIter (vVar 5)) (aName 8) vYes (vIndexD (vVar 5) (vVar 8)))) (aName 3))))))
    (vRet (vFr (vLc [4] (vRange1 (vCons (vVar 2) vNil)) (aName 4) (vTst (vOp gEq (vOp gIxL (vVar 3) (vVar 4)) (vVar 4))) (vFr (vLc [7] (vRange1 (vCons (vVar 2) vNil)) (aName 7) (vTst (vOp gEq (vOp gIxL (vVar 3) (vVar 7)) (vVar 4))) (vVar 7)))))))))
def den_l_blocks := denP 9 body_l_blocks
end
end Bo

/-! ### [e for x in xs for y in ys] -/
namespace Bo
open PySem PyProof.Rows L2
section
variable {K : PySem.W.Frag} {n : Nat} {C : Ct K n}
theorem lc_turns {J : It} {ds : List PyData} {g : TG} {tt : TT} {te : TE} {vs ts : List Nat} {fg : PyData → SS → R SS} {ft : VT} {fe : VE} {σ : L2.St} {D : Addr} {B1 : Hp}
    (h0 : C.H0 D = none) (hB0 : C.B0 D = none) (nb : some D ∉ C.bx) (hv' : ∀ v ∈ vs, n ≤ v) (hts' : ∀ t ∈ ts, t ∈ vs) (W : Walks C B1 J ds)
    (hg : ∀ C' : Ct K n, SG C' g fg ts) (ht : ∀ C' : Ct K n, ST C' tt ft) (he : ∀ C' : Ct K n, SE C' te fe) {Pn : Hp → Prop} {H1 B' : Hp} {S' : SS} {acc : List V} {accd : List PyData}
    (R' : Rep C (wipe σ vs) H1 B' S') (e' : Same B1 B') (hA : H1 D = some (.lst acc)) (L : Loose C (wipe σ vs) S' B' D) (dA : DaAll K B' acc accd) (lA : accd.length + ds.length ≤ 100000)
    (q : Post C (lcF fg ft fe vs ds S') fun r => ∀ us H'' B'', Rep C (wipe σ vs) H'' B'' r.2 → Same B' B'' → H'' D = some (.lst us) → Loose C (wipe σ vs) r.2 B'' D → DaAll K B'' us (accd ++ r.1) → Pn H'') :
    ∃ W : Nat → Nat → Hp → Prop, (∃ m, W 0 m H1) ∧ ∀ i m H, W i m H → (J.stop i H ∧ Pn H) ∨ (J.go i H ∧ ∃ Nx : Hp → Prop, (∀ H', Nx H' → ∃ m', m' < m ∧ W (i + 1) m' H') ∧ ∀ x H', J.yld i H x H' → g x (wipe σ vs) H' fun σ2 H2 => wipe σ2 vs = wipe σ vs ∧ tt σ2 H2 fun b H3 =>
      if b = true then te σ2 H3 fun y H4 => ∃ acc, H4 D = some (.lst acc) ∧ acc.length < sizeLine ∧ Nx (upd H4 D (.lst (acc ++ [y]))) else Nx H3) := by
  refine ⟨fun i m H' => m = ds.length - i ∧ i ≤ ds.length ∧ ∃ B2 S2 acc2 accd2, Rep C (wipe σ vs) H' B2 S2 ∧ Same B' B2 ∧ H' D = some (.lst acc2) ∧ Loose C (wipe σ vs) S2 B2 D ∧ DaAll K B2 acc2 accd2 ∧ accd2.length ≤ accd.length + i ∧
    Post C (lcF fg ft fe vs (ds.drop i) S2) (fun r => ∀ us H'' B'', Rep C (wipe σ vs) H'' B'' r.2 → Same B' B'' → H'' D = some (.lst us) → Loose C (wipe σ vs) r.2 B'' D → DaAll K B'' us (accd2 ++ r.1) → Pn H''), ⟨ds.length, by simp, Nat.zero_le _, B', S', acc, accd, R', Same.refl _, hA, L, dA, Nat.le_refl _, q⟩, ?_⟩
  clear q hA dA L R'
  rintro i m H' ⟨rfl, hi, B2, S2, acc2, accd2, R', e2', hA, L, dA, lA2, q⟩
  have e1 := e'.trans e2'
  have eH : Same B1 H' := e1.trans R'.base.bh
  rcases Nat.lt_or_ge i ds.length with hlt | hge
  · refine .inr ⟨W.go i H' hlt eH, _, fun H2 z => ⟨ds.length - (i + 1), by omega, rfl, hlt, z⟩, ?_⟩
    intro x H2 y
    have Rh := R'.hold hA L
    obtain ⟨B3, R2, e2, dx, _⟩ := W.yld i H' H2 x ds[i] (List.getElem?_eq_getElem hlt) y (C.hold D acc2) (wipe σ vs) B2 S2 Rh e1
    rw [List.drop_eq_getElem_cons hlt] at q
    replace q := post_bind.mp q
    refine hg (C.hold D acc2) (wipe σ vs) H2 B3 S2 x ds[i] _ R2 dx (hold_post h0 (q.mono fun S3 q σ3 R3 l3 k3 => ?_))
    have hw : wipe σ3 vs = wipe σ vs := by
      have hw1 : wipe σ3 vs = wipe (wipe σ vs) vs := wipe_ext l3 fun j hj => k3 j fun z => hj (hts' j z)
      have hw2 : wipe (wipe σ vs) vs = wipe σ vs := wipe_ext (wipe_length _ _) fun j hj => wipe_out hj
      rw [hw1, hw2]
    refine ⟨hw, ?_⟩
    replace q := post_bind.mp q
    have next : ∀ {H4 B4 : Hp} {S4 : SS}, Rep (C.hold D acc2) σ3 H4 B4 S4 → Rep C (wipe σ vs) H4 B4 (wipeS S4 vs) ∧ H4 D = some (.lst acc2) ∧ Loose C (wipe σ vs) (wipeS S4 vs) B4 D ∧ Rep C σ3 H4 B4 S4 ∧ Loose C σ3 S4 B4 D := fun R4 => by
      obtain ⟨R5, hD5, L5⟩ := R4.unhold h0 hB0 nb
      have R6 := R5.wiped hv'
      rw [hw] at R6
      refine ⟨R6, hD5, ⟨L5.b, h0, fun j u z m e => ?_⟩, R5, L5⟩
      obtain ⟨z1, z2⟩ := wipeS_some z
      refine L5.no j u z2 m ?_
      rw [← hw, wipe_out z1] at e
      exact e
    refine ht (C.hold D acc2) σ3 H2 B3 S3 _ R3 (hold_post h0 (q.mono fun p q H3 B4 R4 e3 => ?_))
    obtain ⟨c, S4⟩ := p
    cases c with
    | false =>
      obtain ⟨R6, hD6, L6, _, _⟩ := next R4
      have e13 := e2.trans e3
      exact ⟨B4, wipeS S4 vs, acc2, accd2, R6, e2'.trans e13, hD6, L6, daa_mono e13 dA, by omega, q⟩
    | true =>
      replace q : Post C ((fe S4).bind _) _ := q
      replace q := post_bind.mp q
      refine he (C.hold D acc2) σ3 H3 B4 S4 _ R4 (hold_post h0 (q.mono fun r q v H5 B5 R5 e5 d5 => ?_))
      replace q := post_bind.mp q
      obtain ⟨R6, hD6, L6, R7, L7⟩ := next R5
      have e15 := e2.trans (e3.trans e5)
      refine ⟨acc2, hD6, Nat.lt_of_lt_of_le (Nat.lt_of_le_of_lt (Nat.le_of_eq (daa_len dA)) (show accd2.length < accd.length + ds.length by omega)) (line_le lA), ?_⟩
      have R8 : Rep C (wipe σ vs) (upd H5 D (.lst (acc2 ++ [v]))) B5 (wipeS r.2 vs) := by
        refine R6.grow ⟨fun a o na z => ?_, R6.base.b0, fun a o z => ?_, R6.base.fr⟩ (Same.refl _) fun a o z1 z2 ⟨j, u, z3, z4, z5⟩ => ⟨?_, z2⟩
        · rw [upd_ne (ne_of_none z h0)]
          exact R6.base.keep a o na z
        · rw [upd_ne (ne_of_none z L6.b)]
          exact R6.base.bh a o z
        · rw [upd_ne]
          · exact z1
          · rintro rfl
            exact L6.no j u z3 z4 z5
      refine ⟨B5, wipeS r.2 vs, acc2 ++ [v], accd2 ++ [r.1], R8, e2'.trans e15, upd_same, L6, daa_app (daa_mono e15 dA) (.cons d5 .nil), ?_, ?_⟩
      · rw [List.length_append, List.length_singleton]
        omega
      · refine q.mono fun w q us H'' B'' Ra eb hA' L' d' => q us H'' B'' Ra eb hA' L' ?_
        rw [List.append_assoc] at d'
        exact d'
  · have ei : i = ds.length := by omega
    subst ei
    rw [List.drop_length] at q
    exact .inl ⟨W.stop H' eH, q acc2 H' B2 R' e2' hA L (by rw [List.append_nil]; exact dA)⟩
def lc2F (fg : PyData → SS → R SS) (ft : VT) (fi1 : VF) (fg1 : PyData → SS → R SS) (ft1 : VT) (fe : VE) (vs vs1 : List Nat) : List PyData → SS → R (List PyData × SS)
  | [], S => .ok ([], S)
  | d :: ds, S => (fg d S).bind fun S1 => (ft S1).bind fun p => if p.1 = true then (fi1 p.2).bind fun q => R.when (q.1.length ≤ 100) ((lcF fg1 ft1 fe vs1 q.1 (wipeS q.2 vs1)).bind fun r => R.when (r.1.length ≤ 100) ((lc2F fg ft fi1 fg1 ft1 fe vs vs1 ds (wipeS r.2 vs)).bind fun t => .ok (r.1 ++ t.1, t.2))) else lc2F fg ft fi1 fg1 ft1 fe vs vs1 ds (wipeS p.2 vs)
def vLc2 (vs vs1 : List Nat) (fi : VF) (fg : PyData → SS → R SS) (ft : VT) (fi1 : VF) (fg1 : PyData → SS → R SS) (ft1 : VT) (fe : VE) : VF := fun S => (fi S).bind fun p => R.when (okS vs p.2 = true ∧ p.1.length ≤ 900) ((lc2F fg ft fi1 fg1 ft1 fe vs vs1 p.1 (wipeS p.2 vs)).bind fun r => .ok (r.1, backS p.2 r.2 vs))
theorem f_lc2 {wi wi1 : TI} {g g1 : TG} {tt tt1 : TT} {te : TE} {vs vs1 ts ts1 : List Nat} {fi fi1 : VF} {fg fg1 : PyData → SS → R SS} {ft ft1 : VT} {fe : VE} (hv : vs.all (fun v => decide (n ≤ v)) = true) (hts : ts.all (fun t => decide (t ∈ vs)) = true) (hvs1 : vs1.all (fun t => decide (t ∈ vs)) = true) (hts1 : ts1.all (fun t => decide (t ∈ vs1)) = true) (hi : SI C wi fi)
    (hg : ∀ C' : Ct K n, SG C' g fg ts) (ht : ∀ C' : Ct K n, ST C' tt ft) (hi1 : ∀ C' : Ct K n, SI C' wi1 fi1) (hg1 : ∀ C' : Ct K n, SG C' g1 fg1 ts1) (ht1 : ∀ C' : Ct K n, ST C' tt1 ft1) (he : ∀ C' : Ct K n, SE C' te fe) : SEF C (tLc2 wi g tt wi1 g1 tt1 te vs vs1) (vLc2 vs vs1 fi fg ft fi1 fg1 ft1 fe) := by
  intro σ H B S Q R h
  have hv' : ∀ v ∈ vs, n ≤ v := fun v m => of_decide_eq_true (List.all_eq_true.mp hv v m)
  have hts' : ∀ t ∈ ts, t ∈ vs := fun t m => of_decide_eq_true (List.all_eq_true.mp hts t m)
  have hv1' : ∀ t ∈ vs1, t ∈ vs := fun t m => of_decide_eq_true (List.all_eq_true.mp hvs1 t m)
  have hts1' : ∀ t ∈ ts1, t ∈ vs1 := fun t m => of_decide_eq_true (List.all_eq_true.mp hts1 t m)
  replace h := post_bind.mp h
  refine hi σ H B S _ R (h.mono fun p h J H1 B1 R1 e1 W => ?_)
  obtain ⟨ds, S1⟩ := p
  dsimp only at h R1 W
  obtain ⟨⟨ok, hlen⟩, h⟩ := post_when.mp h
  replace h := post_bind.mp h
  intro D hD
  obtain ⟨h0, hB1, nb⟩ := R1.new hD
  have hB0 : C.B0 D = none := by
    cases q : C.B0 D with
    | none => rfl
    | some o =>
      rw [R1.base.b0 D o q] at hB1
      cases hB1
  refine ⟨fun i m H' => m = ds.length - i ∧ i ≤ ds.length ∧ ∃ B' S' acc accd, Rep C (wipe σ vs) H' B' S' ∧ Same B1 B' ∧ H' D = some (.lst acc) ∧ Loose C (wipe σ vs) S' B' D ∧ DaAll K B' acc accd ∧ accd.length ≤ 100 * i ∧
    Post C (lc2F fg ft fi1 fg1 ft1 fe vs vs1 (ds.drop i) S') (fun r => ∀ a us H'' B'', Rep C σ H'' B'' (backS S1 r.2 vs) → Same B B'' → H'' a = some (.lst us) → Loose C σ (backS S1 r.2 vs) B'' a → DaAll K B'' us (accd ++ r.1) → Q (.ref a) H''), ⟨ds.length, ?_⟩, ?_⟩
  · obtain ⟨R2, L2⟩ := (R1.wiped hv').newLoose (o := .lst []) hD
    exact ⟨by simp, Nat.zero_le _, B1, wipeS S1 vs, [], [], R2, Same.refl _, upd_same, L2, .nil, Nat.le_refl _, h.mono fun r q => q⟩
  rintro i m H' ⟨rfl, hi, B', S', acc, accd, R', e', hA, L, dA, lA, q⟩
  have eH : Same B1 H' := e'.trans R'.base.bh
  rcases Nat.lt_or_ge i ds.length with hlt | hge
  · refine .inr ⟨W.go i H' hlt eH, _, fun H2 z => ⟨ds.length - (i + 1), by omega, rfl, hlt, z⟩, ?_⟩
    intro x H2 y
    have Rh := R'.hold hA L
    obtain ⟨B2, R2, e2, dx, _⟩ := W.yld i H' H2 x ds[i] (List.getElem?_eq_getElem hlt) y (C.hold D acc) (wipe σ vs) B' S' Rh e'
    rw [List.drop_eq_getElem_cons hlt] at q
    replace q := post_bind.mp q
    refine hg (C.hold D acc) (wipe σ vs) H2 B2 S' x ds[i] _ R2 dx (hold_post h0 (q.mono fun S3 q σ3 R3 l3 k3 => ?_))
    have hw2 : wipe (wipe σ vs) vs = wipe σ vs := wipe_ext (wipe_length _ _) fun j hj => wipe_out hj
    have hw : wipe σ3 vs = wipe σ vs := by
      have hw1 : wipe σ3 vs = wipe (wipe σ vs) vs := wipe_ext l3 fun j hj => k3 j fun z => hj (hts' j z)
      rw [hw1, hw2]
    refine ⟨hw, ?_⟩
    replace q := post_bind.mp q
    have loose : ∀ {σ4 : L2.St} {S4 : SS} {B4 : Hp} {us : List Nat}, Loose C σ4 S4 B4 D → Loose C (wipe σ4 us) (wipeS S4 us) B4 D := fun L5 => ⟨L5.b, h0, fun j u z m e => by
      obtain ⟨z1, z2⟩ := wipeS_some z
      refine L5.no j u z2 m ?_
      rw [wipe_out z1] at e
      exact e⟩
    refine ht (C.hold D acc) σ3 H2 B2 S3 _ R3 (hold_post h0 (q.mono fun p q H3 B3 R4 e3 => ?_))
    obtain ⟨c, S4⟩ := p
    have e13 := e2.trans e3
    cases c with
    | false =>
      obtain ⟨R5, hD5, L5⟩ := R4.unhold h0 hB0 nb
      have R6 := R5.wiped hv'
      have L6 := loose (us := vs) L5
      rw [hw] at R6 L6
      exact ⟨B3, wipeS S4 vs, acc, accd, R6, e'.trans e13, hD5, L6, daa_mono e13 dA, by omega, q⟩
    | true =>
      replace q : Post C ((fi1 S4).bind _) _ := q
      replace q := post_bind.mp q
      refine hi1 (C.hold D acc) σ3 H3 B3 S4 _ R4 (hold_post h0 (q.mono fun r q J1 H4 B4 R5 e4 W1 => ?_))
      obtain ⟨l1, q⟩ := post_when.mp q
      replace q := post_bind.mp q
      obtain ⟨R6, hD6, L6⟩ := R5.unhold h0 hB0 nb
      have R7 := R6.wiped (vs := vs1) fun v hv => hv' v (hv1' v hv)
      have L7 := loose (us := vs1) L6
      have e14 := e13.trans e4
      have W1' : Walks C B4 J1 r.1 := ⟨W1.go, W1.stop, W1.yld⟩
      refine lc_turns (B1 := B4) h0 hB0 nb (fun v hv => hv' v (hv1' v hv)) hts1' W1' hg1 ht1 he R7 (Same.refl _) hD6 L7 (daa_mono e14 dA) (by omega) (q.mono fun w q us H'' B'' R8 e8 hA8 L8 d8 => ?_)
      obtain ⟨wl, q⟩ := post_when.mp q
      replace q := post_bind.mp q
      have hw3 : wipe (wipe σ3 vs1) vs = wipe σ vs := by
        have z : wipe (wipe σ3 vs1) vs = wipe σ3 vs := wipe_ext (wipe_length _ _) fun j hj => wipe_out fun z => hj (hv1' j z)
        rw [z, hw]
      have R9 := R8.wiped hv'
      have L9 := loose (us := vs) L8
      rw [hw3] at R9 L9
      refine ⟨B'', wipeS w.2 vs, us, accd ++ w.1, R9, e'.trans (e14.trans e8), hA8, L9, d8, ?_, q.mono fun t q a us H'' B'' Ra eb hA' L' d' => q a us H'' B'' Ra eb hA' L' ?_⟩
      · rw [List.length_append]
        omega
      · rw [List.append_assoc] at d'
        exact d'
  · have ei : i = ds.length := by omega
    subst ei
    rw [List.drop_length] at q
    refine .inl ⟨W.stop H' eH, ?_⟩
    have Rb := R1.back R' e' ok hv'
    refine q D acc H' B' Rb (e1.trans e') hA ⟨L.b, h0, fun j u z m e => ?_⟩ (by rw [List.append_nil]; exact dA)
    rcases backS_some z with ⟨z1, z2⟩ | ⟨z1, z2⟩
    · rw [okS_at ok z1 z2] at m
      cases m
    · exact L.no j u z2 m (by rw [wipe_out z1]; exact e)
end
end Bo

/-! ### X(), X an own exception class without own __init__ -/
namespace Bo
open PySem PySem.W PyProof.Rows L2
theorem pmk_own0A {X : Cx} {C : Addr} {bmB : List Value} {B newId initId : String} {x : Str} {p pos : Pos} (F : ExcBaseFacts B newId initId bmB) (q : PySem.W.excIn X.K C bmB newId = true) (gC : X.mg x = some (.ref C))
    (kC : PySem.W.keepIn X.K (.ref C) = true) (r : Raises X (.ref C)) (hg : L2.Gl X x) (ha : PA X [] tNil) (hdb : (x == ("__debug__" : Str)) = false := by decide) :
    PMk X (.Call (.Name x p) [] [] pos) (fun σ H Q => tNil σ H fun vs H1 => vs.length ≤ sizeLine ∧ Q (.ref C) none H1) := by
  intro pins s σ H Q I h
  obtain ⟨hz, q1⟩ : ([] : List V).length ≤ sizeLine ∧ Q (.ref C) none H := h
  refine wpAny_Call_Name_kw (ld_glob I hg gC ?_ hdb)
  refine PySem.W.callWith_K0 I.kIn kC ?_
  show wpAny _ _ (call (.ref C) []) _ _ _
  obtain ⟨bm, N, nm, qn, bs, hdct, sn, sub, ab, col, dd, k0, k1, k2, k3, k5, mN, hC, hN, hni, T⟩ := exc_obj I.kIn q
  refine wpAny_call_exc_subT F T hC hN hni (fun h' e hm => ?_) (by exact hz)
  exact mk_of I hm r q1 (I.hok.gone hm.new)
end Bo

namespace Bo
open PySem L2
noncomputable section
def body_has_great_weight : VS :=
    (vRet (vCall (gBools fun bs => .bool (bs.any id)) (vCons (vFr (vLc2 [1, 2, 3] [1, 3] (vIterT (vVar 0)) (aTup 2 (aCons (aName 1) (aCons (aName 2) aNil))) vYes (vIterT (vVar 2)) (aTup 2 (aCons (aName 1) (aCons (aName 3) aNil))) vYes (vOp (gIB fun i j => decide (j < i)) (vVar 3) (vC (.int 1000))))) vNil)))
def den_has_great_weight := denP 4 body_has_great_weight
def body_quotient : VS :=
    (vSeq (vAsg (vCallP 2 den_block_numbers (vCons (vVar 0) (vCons (vVar 1) vNil))) (aName 2))
    (vSeq (vOwn 3 (vLstF vNil))
    (vSeq (vThen [4] (vFor (vIter (vCallP 1 den_members_of (vCons (vVar 2) vNil))) (aName 4) (vThen [4] (vDrop (vApp 3 (vCallP 2 den_choices_between (vCons (vOp gIxT (vVar 0) (vOp gIxL (vVar 4) (vC (.int 0)))) (vCons (vVar 2) vNil))))))))
    (vSeq (vIfS (vTst (vCall (gBools fun bs => .bool (bs.any id)) (vCons (vFr (vLcO false 3 [5] (aName 5) vYes (vCallP 1 den_has_great_weight (vCons (vVar 5) vNil)))) vNil))) (vRaise0 "WeightTooGreat" vNil) vNext)
    (vRet (vTupleO 3))))))
def den_quotient := denP 6 body_quotient
def body_l_common : VS :=
    (vSeq (vAsg (vC (.int 0)) (aName 1))
    (vSeq (vThen [2, 3, 4, 5, 6] (vFor (vIter (vVar 0)) (aName 2) (vThen [2, 4] (vSeq (vAsg (vVar 1) (aName 3))
    (vSeq (vAsg (vVar 2) (aName 4))
    (vSeq (vPre [1, 2, 5, 6] (vThen [3, 5, 6] (vFor (vRange1 (vCons (vC (.int 100)) vNil)) (aName 5) (vThen [5, 6] (vSeq (vIfS (vTst (vOp gEq (vVar 3) (vC (.int 0)))) vBrk vNext)
    (vSeq (vAsg (vOp (gIC cMod Int.fmod) (vCall gInt (vCons (vVar 4) vNil)) (vVar 3)) (aName 6))
    (vSeq (vAsg (vVar 3) (aName 4))
    (vAsg (vVar 6) (aName 3)))))))))
    (vAsg (vVar 4) (aName 1))))))))
    (vRet (vVar 1))))
def den_l_common := denP 7 body_l_common
def body_l_due : VS :=
    (vSeq (vAsg (vCallP 2 den_l_blocks (vCons (vVar 0) (vCons (vVar 1) vNil))) (aName 2))
    (vSeq (vOwn 3 (vLstF vNil))
    (vSeq (vThen [4, 5, 6, 7, 8, 9, 10] (vFor (vIter (vVar 2)) (aName 4) (vThen [4, 5] (vSeq (vOwn 5 (vLstF vNil))
    (vSeq (vPre [6, 7, 8, 9, 10] (vThen [6, 7, 8, 9, 10] (vFor (vIterT (vOp gIxT (vVar 0) (vOp gIxL (vVar 4) (vC (.int 0))))) (aTup 2 (aCons (aName 6) (aCons (aName 7) aNil))) (vThen [6, 7, 8, 9, 10] (vSeq (vAsg (vFr (vLc [11] (vIter (vVar 2)) (aName 11) vYes (vCall (gInts fun ns => .int ns.sum) (vCons (vFr (vLc [12] (vIterT (vVar 7)) (aName 12) (vTst (vOp (gIn false) (vOp gIxT (vVar 12) (vC (.int 0))) (vVar 11))) (vOp gIxT (vVar 12) (vC (.int 1))))) vNil)))) (aName 8))
    (vSeq (vAsg (vCallP 1 den_l_common (vCons (vVar 8) vNil)) (aName 9))
    (vSeq (vAsg (vTup (vCons (vVar 6) (vCons (vCall gTuple (vCons (vFr (vLc [13] (vRange1 (vCons (vCall gLen (vCons (vVar 8) vNil)) vNil)) (aName 13) (vTst (vOp (gIB fun i j => decide (j < i)) (vOp gIxL (vVar 8) (vVar 13)) (vC (.int 0)))) (vTup (vCons (vVar 13) (vCons (vOp (gIC cFdiv Int.fdiv) (vOp gIxL (vVar 8) (vVar 13)) (vVar 9)) vNil))))) vNil)) vNil))) (aName 10))
    (vSeq (vIfS (vTst (vOp (gIB fun i j => decide (j < i)) (vOp (gIC cFdiv Int.fdiv) (vCall gMax (vCons (vVar 8) vNil)) (vVar 9)) (vC (.int 1000)))) (vRet (vC .none)) vNext)
    (vIfS (vTst (vNotInO (vVar 10) 5)) (vDrop (vApp 5 (vVar 10))) vNext)))))))))
    (vDrop (vApp 3 (vTupleO 5))))))))
    (vRet (vTupleO 3)))))
def den_l_due := denP 14 body_l_due
end
end Bo

namespace Bo
open PySem L2
noncomputable section
def den_l_told (ds : List PyData) : R PyData := match den_quotient ds with
  | .ok z => .ok z
  | .err e => if e.cls = "WeightTooGreat" ∧ e.arg.isNone = true then .ok (.list [.str "refused", .bool true]) else .bad
  | .bad => .bad
end
end Bo

set_option maxHeartbeats 1000000
/-! ### texts: cut at a sign, in two and in all parts -/
namespace Bo
open PySem PySem.StrLaws Builtin Builtin.Str L2
def sg (l : List Nat) : Str := ⟨l.toArray⟩
/-! ### digits -/
/-! ### a minus in front -/
/-! ### what a text says -/
end Bo

namespace Bo
open PySem L2
noncomputable section
end
end Bo

namespace Bo
open PySem L2
noncomputable section
def body_are_ends : VS :=
    (vSeq (vIfS (tNotF (vTst (vChain (gIB fun i j => decide (i ≤ j)) (gIB fun i j => decide (i ≤ j)) (vC (.int 1)) (vCall gLen (vCons (vVar 1) vNil)) (vC (.int 6))))) (vRet (vC (.bool false))) vNext)
    (vSeq (vAsg (vUn gNeg (vC (.int 1))) (aName 2))
    (vSeq (vThen [2, 3, 4] (vFor (vIterT (vVar 1)) (aTup 2 (aCons (aName 3) (aCons (aName 4) aNil))) (vThen [3, 4] (vSeq (vIfS (tNotF (vTst (vChain (gIB fun i j => decide (i < j)) (gIB fun i j => decide (i < j)) (vVar 2) (vVar 3) (vVar 0)))) (vRet (vC (.bool false))) vNext)
    (vSeq (vIfS (tNotF (vTst (vChain (gIB fun i j => decide (i ≤ j)) (gIB fun i j => decide (i ≤ j)) (vC (.int 1)) (vVar 4) (vC (.int 1000))))) (vRet (vC (.bool false))) vNext)
    (vAsg (vVar 3) (aName 2)))))))
    (vRet (vC (.bool true))))))
def den_are_ends := denP 5 body_are_ends
def body_fault_in_state : VS :=
    (vSeq (vIfS (tNotF (vTst (vChain (gIB fun i j => decide (i ≤ j)) (gIB fun i j => decide (i ≤ j)) (vC (.int 1)) (vCall gLen (vCons (vVar 2) vNil)) (vC (.int 6))))) (vRet (vTup (vCons (vC (.str "choices")) (vCons (vVar 1) vNil)))) vNext)
    (vSeq (vThen [3, 4, 5] (vFor (vEnumK .T (vCons (vVar 2) vNil)) (aTup 2 (aCons (aName 3) (aCons (aTup 2 (aCons (aName 4) (aCons (aName 5) aNil))) aNil))) (vThen [3, 4, 5] (vSeq (vIfS (tNotF (vTst (vChain (gIB fun i j => decide (i ≤ j)) (gIB fun i j => decide (i ≤ j)) (vC (.int 0)) (vVar 4) (vC (.int 1000))))) (vRet (vTup (vCons (vC (.str "cost")) (vCons (vVar 1) (vCons (vVar 3) vNil))))) vNext)
    (vIfS (tNotF (vTst (vCallP 2 den_are_ends (vCons (vVar 0) (vCons (vVar 5) vNil))))) (vRet (vTup (vCons (vC (.str "ends")) (vCons (vVar 1) (vCons (vVar 3) vNil))))) vNext)))))
    (vRet (vC .none))))
def den_fault_in_state := denP 6 body_fault_in_state
def body_fault : VS :=
    (vSeq (vIfS (tNotF (vTst (vChain (gIB fun i j => decide (i ≤ j)) (gIB fun i j => decide (i ≤ j)) (vC (.int 1)) (vCall gLen (vCons (vVar 0) vNil)) (vC (.int 20))))) (vRet (vTup (vCons (vC (.str "states")) vNil))) vNext)
    (vSeq (vThen [1, 2, 3] (vFor (vEnumK .T (vCons (vVar 0) vNil)) (aTup 2 (aCons (aName 1) (aCons (aName 2) aNil))) (vThen [1, 2, 3] (vSeq (vAsg (vCallP 3 den_fault_in_state (vCons (vCall gLen (vCons (vVar 0) vNil)) (vCons (vVar 1) (vCons (vVar 2) vNil)))) (aName 3))
    (vIfS (vTst (vOp (fun d e => R.when (isNone e = true) (.ok (.bool (!isNone d)))) (vVar 3) (vC .none))) (vRet (vVar 3)) vNext)))))
    (vRet (vC .none))))
def den_fault := denP 4 body_fault
end
end Bo

namespace Bo
open PySem L2
noncomputable section
def body_law : VS :=
    (vSeq (vOwn 1 (vLstF (vCons (vCallS den_l_tape 0) (vCons (vC (.int 0)) vNil))))
    (vSeq (vThen [2, 3, 4, 5, 6, 7, 8, 9] (vFor (vRange1 (vCons (vC (.int 3)) vNil)) (aName 2) (vThen [2, 3, 4, 5, 6, 7] (vSeq (vAsg (vCallB 1 den_l_twins 1 (vCons (vCallB 0 den_l_light 1 vNil) vNil)) (aName 3))
    (vSeq (vAsg (vFr (vLc [10] (vRange1 (vCons (vCall gLen (vCons (vVar 3) vNil)) vNil)) (aName 10) vYes (vCallB 1 den_l_take 1 (vCons (vOp (gI fun i j => i + j) (vC (.int 1)) (vCallB 1 den_l_take 1 (vCons (vC (.int 2)) vNil))) vNil)))) (aName 4))
    (vSeq (vThen [8] (vIfS (vTst (vOp gEq (vCallB 1 den_l_take 1 (vCons (vC (.int 4)) vNil)) (vC (.int 0)))) (vSeq (vAsg (vTup (vCons (vTup (vCons (vC (.int 2)) (vCons (vTup (vCons (vTup (vCons (vC (.int 0)) (vCons (vOp (gI fun i j => i + j) (vC (.int 997)) (vCallB 1 den_l_take 1 (vCons (vC (.int 4)) vNil))) vNil))) (vCons (vTup (vCons (vC (.int 1)) (vCons (vOp (gI fun i j => i + j) (vC (.int 1)) (vCallB 1 den_l_take 1 (vCons (vC (.int 4)) vNil))) vNil))) (vCons (vTup (vCons (vC (.int 2)) (vCons (vOp (gI fun i j => i + j) (vC (.int 1)) (vCallB 1 den_l_take 1 (vCons (vC (.int 2)) vNil))) vNil))) vNil)))) vNil))) vNil)) (aName 8))
    (vSeq (vAsg (vTup (vCons (vVar 8) (vCons (vVar 8) (vCons (vTup (vCons (vTup (vCons (vC (.int 0)) (vCons (vTup (vCons (vTup (vCons (vC (.int 2)) (vCons (vC (.int 1)) vNil))) vNil)) vNil))) vNil)) vNil)))) (aName 3))
    (vAsg (vLst (vCons (vC (.int 4)) (vCons (vC (.int 4)) (vCons (vC (.int 1)) vNil)))) (aName 4)))) vNext))
    (vSeq (vThen [9] (vIfS (vTst (vOp gEq (vCallB 1 den_l_take 1 (vCons (vC (.int 4)) vNil)) (vC (.int 0)))) (vSeq (vAsg (vOp (gI fun i j => i + j) (vC (.int 12)) (vCallB 1 den_l_take 1 (vCons (vC (.int 9)) vNil))) (aName 9))
    (vSeq (vAsg (vCall gTuple (vCons (vFr (vLc [10] (vRange1 (vCons (vVar 9) vNil)) (aName 10) vYes (vTup (vCons (vTup (vCons (vC (.int 0)) (vCons (vCall gTuple (vCons (vFr (vLc [11] (vRange1 (vCons (vVar 9) vNil)) (aName 11) (vTst (vOp gEq (vOp (gIC cMod Int.fmod) (vCall gInt (vCons (vOp (gI fun i j => i + j) (vVar 11) (vVar 10)) vNil)) (vC (.int 5))) (vC (.int 0)))) (vTup (vCons (vVar 11) (vCons (vC (.int 1)) vNil))))) vNil)) vNil))) vNil)))) vNil)) (aName 3))
    (vAsg (vFr (vLc [10] (vRange1 (vCons (vVar 9) vNil)) (aName 10) vYes (vOp (gI fun i j => i - j) (vC (.int 100)) (vVar 10)))) (aName 4)))) vNext))
    (vSeq (vAsg (vCall gList (vCons (vVar 4) vNil)) (aName 5))
    (vSeq (vAsg (vCallP 2 den_l_told (vCons (vVar 3) (vCons (vVar 5) vNil))) (aName 6))
    (vSeq (vIfS (vTst (vOp gNeD (vVar 5) (vVar 4))) (vRet (vC (.bool false))) vNext)
    (vSeq (vAsg (vCallP 2 den_l_due (vCons (vVar 3) (vCons (vVar 4) vNil))) (aName 7))
    (vSeq (vIfS (vTst (vOp (fun d e => R.when (isNone e = true) (.ok (.bool (isNone d)))) (vVar 7) (vC .none))) (vAsg (vLst (vCons (vC (.str "refused")) (vCons (vC (.bool true)) vNil))) (aName 7)) vNext)
    (vSeq (vIfS (tNotF (vTst (vCallP 2 (denEq 6) (vCons (vVar 6) (vCons (vVar 7) vNil))))) (vRet (vC (.bool false))) vNext)
    (vIfS (tAndF (vTst (vIsi "tuple" (vVar 6))) (vTst (vOp (fun d e => R.when (isNone e = true) (.ok (.bool (!isNone d)))) (vCallP 1 den_fault (vCons (vVar 6) vNil)) (vC .none)))) (vRet (vC (.bool false))) vNext))))))))))))))
    (vRet (vC (.bool true)))))
def den_law := denS 12 body_law
end
end Bo

/-! ### weights told by their greatest common divisor, and by their share of the whole -/
namespace Bo
def gcdN (ws : List Nat) : Nat := ws.foldl Nat.gcd 0
theorem gcd_from : ∀ (ws : List Nat) (a : Nat), ws.foldl Nat.gcd a = Nat.gcd a (gcdN ws)
  | [], a => by
    show a = Nat.gcd a 0
    rw [Nat.gcd_zero_right]
  | w :: ws, a => by
    show ws.foldl Nat.gcd (Nat.gcd a w) = Nat.gcd a (ws.foldl Nat.gcd (Nat.gcd 0 w))
    rw [gcd_from ws (Nat.gcd a w), gcd_from ws (Nat.gcd 0 w), Nat.gcd_zero_left, Nat.gcd_assoc]
theorem gcdN_cons (w : Nat) (ws : List Nat) : gcdN (w :: ws) = Nat.gcd w (gcdN ws) := by
  show ws.foldl Nat.gcd (Nat.gcd 0 w) = _
  rw [gcd_from, Nat.gcd_zero_left]
theorem gcdN_dvd : ∀ {ws : List Nat} {w : Nat}, w ∈ ws → gcdN ws ∣ w
  | v :: ws, w, h => by
    rw [gcdN_cons]
    rcases List.mem_cons.mp h with rfl | h
    · exact Nat.gcd_dvd_left _ _
    · exact Nat.dvd_trans (Nat.gcd_dvd_right _ _) (gcdN_dvd h)
theorem gcdN_mul (c : Nat) : ∀ ws : List Nat, gcdN (ws.map (· * c)) = gcdN ws * c
  | [] => by
    show 0 = 0 * c
    rw [Nat.zero_mul]
  | w :: ws => by
    rw [List.map_cons, gcdN_cons, gcdN_cons, gcdN_mul c ws, Nat.gcd_mul_right]
theorem gcdN_perm {ws vs : List Nat} (h : ws.Perm vs) : gcdN ws = gcdN vs := by
  induction h with
  | nil => rfl
  | cons x _ ih => rw [gcdN_cons, gcdN_cons, ih]
  | swap x y l => rw [gcdN_cons, gcdN_cons, gcdN_cons, gcdN_cons, ← Nat.gcd_assoc, ← Nat.gcd_assoc, Nat.gcd_comm y x]
  | trans _ _ h1 h2 => rw [h1, h2]
theorem sum_mul (c : Nat) : ∀ ws : List Nat, (ws.map (· * c)).sum = ws.sum * c
  | [] => by simp
  | w :: ws => by rw [List.map_cons, List.sum_cons, List.sum_cons, sum_mul c ws, Nat.add_mul]
/-- the weights over their greatest common divisor -/
def lowN (ws : List Nat) : List Nat := ws.map (· / gcdN ws)
theorem gcdN_pos {ws : List Nat} (ne : ws ≠ []) (h : ∀ w ∈ ws, 0 < w) : 0 < gcdN ws := by
  cases ws with
  | nil => exact absurd rfl ne
  | cons w r =>
    rw [gcdN_cons]
    exact Nat.gcd_pos_of_pos_left _ (h w List.mem_cons_self)
theorem low_back {ws : List Nat} : (lowN ws).map (· * gcdN ws) = ws := by
  unfold lowN
  rw [List.map_map]
  refine (List.map_congr_left fun w hw => ?_).trans (List.map_id ws)
  exact Nat.div_mul_cancel (gcdN_dvd hw)
/-- alike in the lowest terms: alike in their shares -/
theorem low_iff {ws vs : List Nat} (ne : ws ≠ []) (hw : ∀ w ∈ ws, 0 < w) (hv : ∀ v ∈ vs, 0 < v) : lowN ws = lowN vs ↔ ws.length = vs.length ∧ ws.map (· * vs.sum) = vs.map (· * ws.sum) := by
  constructor
  · intro e
    have l : ws.length = vs.length := by
      have := congrArg List.length e
      unfold lowN at this
      rwa [List.length_map, List.length_map] at this
    refine ⟨l, ?_⟩
    have e1 := low_back (ws := ws)
    have e2 := low_back (ws := vs)
    rw [← e] at e2
    generalize lowN ws = ls at e1 e2
    have s1 : ws.sum = ls.sum * gcdN ws := by
      have := sum_mul (gcdN ws) ls
      rw [e1] at this
      exact this
    have s2 : vs.sum = ls.sum * gcdN vs := by
      have := sum_mul (gcdN vs) ls
      rw [e2] at this
      exact this
    have f1 : ws.map (· * vs.sum) = ls.map fun c => c * gcdN ws * vs.sum := by
      conv => lhs; rw [← e1]
      rw [List.map_map]
      rfl
    have f2 : vs.map (· * ws.sum) = ls.map fun c => c * gcdN vs * ws.sum := by
      conv => lhs; rw [← e2]
      rw [List.map_map]
      rfl
    rw [f1, f2, s1, s2]
    refine List.map_congr_left fun c _ => ?_
    rw [Nat.mul_assoc, Nat.mul_assoc]
    congr 1
    rw [Nat.mul_left_comm, Nat.mul_comm (gcdN ws) (gcdN vs), Nat.mul_left_comm]
  · rintro ⟨l, e⟩
    have vne : vs ≠ [] := fun z => ne (List.length_eq_zero_iff.mp (by rw [l, z]; rfl))
    have g1 := gcdN_pos ne hw
    have g2 := gcdN_pos vne hv
    have pos : ∀ {l : List Nat}, l ≠ [] → (∀ x ∈ l, 0 < x) → 0 < l.sum := fun {l} n h => by
      cases l with
      | nil => exact absurd rfl n
      | cons x r =>
        rw [List.sum_cons]
        have := h x List.mem_cons_self
        omega
    have W := pos ne hw
    have V := pos vne hv
    have eg : gcdN ws * vs.sum = gcdN vs * ws.sum := by
      rw [← gcdN_mul, ← gcdN_mul, e]
    unfold lowN
    refine List.ext_getElem? fun i => ?_
    rw [List.getElem?_map, List.getElem?_map]
    have ei : (ws.map (· * vs.sum))[i]? = (vs.map (· * ws.sum))[i]? := by rw [e]
    rw [List.getElem?_map, List.getElem?_map] at ei
    cases hi : ws[i]? with
    | none =>
      rw [hi] at ei
      cases hj : vs[i]? with
      | none => rfl
      | some v => rw [hj] at ei; cases ei
    | some w =>
      rw [hi] at ei
      cases hj : vs[i]? with
      | none => rw [hj] at ei; cases ei
      | some v =>
        rw [hj] at ei
        have q : w * vs.sum = v * ws.sum := Option.some.inj ei
        show some (w / gcdN ws) = some (v / gcdN vs)
        congr 1
        have k : w * gcdN vs = v * gcdN ws := by
          refine Nat.eq_of_mul_eq_mul_right (Nat.mul_pos V W) ?_
          calc w * gcdN vs * (vs.sum * ws.sum) = (w * vs.sum) * (gcdN vs * ws.sum) := by
                rw [Nat.mul_mul_mul_comm]
            _ = (v * ws.sum) * (gcdN ws * vs.sum) := by rw [q, eg]
            _ = v * gcdN ws * (vs.sum * ws.sum) := by
                rw [Nat.mul_mul_mul_comm, Nat.mul_comm vs.sum ws.sum]
        have dw := gcdN_dvd (List.mem_of_getElem? hi)
        have dv := gcdN_dvd (List.mem_of_getElem? hj)
        obtain ⟨a, ha⟩ := dw
        obtain ⟨b, hb⟩ := dv
        rw [ha, hb] at k
        have ab : a = b := by
          refine Nat.eq_of_mul_eq_mul_left (Nat.mul_pos g1 g2) ?_
          calc gcdN ws * gcdN vs * a = gcdN ws * a * gcdN vs := by rw [Nat.mul_right_comm]
            _ = gcdN vs * b * gcdN ws := k
            _ = gcdN ws * gcdN vs * b := by rw [Nat.mul_right_comm, Nat.mul_comm (gcdN vs) (gcdN ws)]
        rw [ha, hb, Nat.mul_div_cancel_left _ g1, Nat.mul_div_cancel_left _ g2, ab]
end Bo

/-! ### numbers by first places: what they tell -/
namespace Bo
open PySem L2
theorem posD_get : ∀ {fs : List PyData} {d : PyData}, d ∈ fs → fs[posD fs d]? = some d
  | f :: fs, d, h => by
    by_cases c : f = d
    · have : posD (f :: fs) d = 0 := if_pos c
      rw [this, c]
      rfl
    · have : posD (f :: fs) d = posD fs d + 1 := if_neg c
      rw [this]
      exact posD_get (by rcases List.mem_cons.mp h with z | z; exact absurd z.symm c; exact z)
theorem posD_inj {fs : List PyData} {d e : PyData} (hd : d ∈ fs) (he : e ∈ fs) (h : posD fs d = posD fs e) : d = e := by
  have h1 := posD_get hd
  rw [h, posD_get he] at h1
  exact (Option.some.inj h1).symm
theorem num_len (ks : List PyData) : (numD ks).length = ks.length := by
  unfold numD
  rw [List.length_map]
/-- alike numbers, alike keys -/
theorem num_eq {ks : List PyData} {i j : Nat} (hi : i < ks.length) (hj : j < ks.length) : (numD ks)[i]? = (numD ks)[j]? ↔ ks[i]? = ks[j]? := by
  unfold numD
  rw [List.getElem?_map, List.getElem?_map, List.getElem?_eq_getElem hi, List.getElem?_eq_getElem hj]
  constructor
  · intro h
    have h' : posD (seenD [] ks) ks[i] = posD (seenD [] ks) ks[j] := Option.some.inj h
    rw [posD_inj (seenD_mem ks [] (List.getElem_mem hi)) (seenD_mem ks [] (List.getElem_mem hj)) h']
  · intro h
    rw [Option.some.inj h]
theorem posD_app_mem : ∀ {fs gs : List PyData} {d : PyData}, d ∈ fs → posD (fs ++ gs) d = posD fs d
  | f :: fs, gs, d, h => by
    by_cases c : f = d
    · have h1 : posD (f :: fs ++ gs) d = 0 := if_pos c
      have h2 : posD (f :: fs) d = 0 := if_pos c
      rw [h1, h2]
    · have h1 : posD (f :: fs ++ gs) d = posD (fs ++ gs) d + 1 := if_neg c
      have h2 : posD (f :: fs) d = posD fs d + 1 := if_neg c
      rw [h1, h2, posD_app_mem (by rcases List.mem_cons.mp h with z | z; exact absurd z.symm c; exact z)]
theorem posD_app_new : ∀ {fs : List PyData} {d : PyData}, d ∉ fs → posD (fs ++ [d]) d = fs.length
  | [], d, _ => if_pos rfl
  | f :: fs, d, h => by
    have c : ¬ f = d := fun z => h (by rw [z]; exact List.mem_cons_self)
    have h1 : posD (f :: fs ++ [d]) d = posD (fs ++ [d]) d + 1 := if_neg c
    rw [h1, posD_app_new fun z => h (List.mem_cons_of_mem _ z)]
    rfl
/-- what is told of a key does not change when more keys come -/
theorem seen_pre : ∀ (ls : List PyData) (fs : List PyData), ∃ gs, seenD fs ls = fs ++ gs
  | [], fs => ⟨[], (List.append_nil _).symm⟩
  | l :: ls, fs => by
    obtain ⟨gs, e⟩ := seen_pre ls (@ite _ (l ∈ fs) (Classical.propDecidable _) fs (fs ++ [l]))
    show ∃ gs, seenD _ ls = fs ++ gs
    rw [e]
    by_cases c : l ∈ fs
    · rw [if_pos c]
      exact ⟨gs, rfl⟩
    · rw [if_neg c, List.append_assoc]
      exact ⟨_, rfl⟩
theorem seen_append : ∀ (ks ls fs : List PyData), seenD fs (ks ++ ls) = seenD (seenD fs ks) ls
  | [], ls, fs => rfl
  | k :: ks, ls, fs => seen_append ks ls _
theorem seen_from : ∀ {ks : List PyData} {fs : List PyData} {d : PyData}, d ∈ seenD fs ks → d ∈ fs ∨ d ∈ ks
  | [], fs, d, h => .inl h
  | k :: ks, fs, d, h => by
    have h' : d ∈ seenD (@ite _ (k ∈ fs) (Classical.propDecidable _) fs (fs ++ [k])) ks := h
    rcases seen_from h' with z | z
    · by_cases c : k ∈ fs
      · rw [if_pos c] at z
        exact .inl z
      · rw [if_neg c] at z
        rcases List.mem_append.mp z with z | z
        · exact .inl z
        · exact .inr (by rw [List.mem_singleton.mp z]; exact List.mem_cons_self)
    · exact .inr (List.mem_cons_of_mem _ z)
theorem num_app (ks : List PyData) (k : PyData) : numD (ks ++ [k]) = numD ks ++ [posD (seenD [] (ks ++ [k])) k] := by
  unfold numD
  rw [List.map_append]
  congr 1
  refine List.map_congr_left fun c hc => ?_
  obtain ⟨gs, e⟩ := seen_pre [k] (seenD [] ks)
  rw [seen_append, e]
  exact posD_app_mem (seenD_mem ks [] hc)
theorem snoc_of {α : Type} {l : List α} {n : Nat} (h : l.length = n + 1) : ∃ m a, l = m ++ [a] := by
  have ne : l ≠ [] := fun z => by
    rw [z] at h
    cases h
  exact ⟨l.dropLast, l.getLast ne, (List.dropLast_concat_getLast ne).symm⟩
theorem snoc_at {α : Type} {l : List α} {n : Nat} {a : α} (h : l.length = n) : (l ++ [a])[n]? = some a := by
  rw [← h, List.getElem?_append_right (Nat.le_refl _), Nat.sub_self]
  rfl
/-- keys that are alike at the same places are numbered alike -/
theorem num_same : ∀ {n : Nat} {ks ls : List PyData}, ks.length = n → ls.length = n → (∀ i j, i < n → j < n → (ks[i]? = ks[j]? ↔ ls[i]? = ls[j]?)) → numD ks = numD ls ∧ (seenD [] ks).length = (seenD [] ls).length
  | 0, ks, ls, hk, hl, _ => by
    rw [List.length_eq_zero_iff.mp hk, List.length_eq_zero_iff.mp hl]
    exact ⟨rfl, rfl⟩
  | n + 1, ks, ls, hk, hl, h => by
    obtain ⟨ks', k, rfl⟩ := snoc_of hk
    obtain ⟨ls', l, rfl⟩ := snoc_of hl
    have hk' : ks'.length = n := by rw [List.length_append, List.length_singleton] at hk; omega
    have hl' : ls'.length = n := by rw [List.length_append, List.length_singleton] at hl; omega
    obtain ⟨e1, e2⟩ := num_same hk' hl' fun i j hi hj => by
      have := h i j (by omega) (by omega)
      rw [List.getElem?_append_left (by omega), List.getElem?_append_left (by omega), List.getElem?_append_left (by omega), List.getElem?_append_left (by omega)] at this
      exact this
    have last : ∀ i, i < n → (ks'[i]? = some k ↔ ls'[i]? = some l) := fun i hi => by
      have := h i n (by omega) (by omega)
      rw [snoc_at hk', snoc_at hl', List.getElem?_append_left (by omega), List.getElem?_append_left (by omega)] at this
      exact this
    have seenk : k ∈ seenD [] ks' ↔ k ∈ ks' := ⟨fun z => (seen_from z).elim (fun y => nomatch y) id, seenD_mem ks' []⟩
    have seenl : l ∈ seenD [] ls' ↔ l ∈ ls' := ⟨fun z => (seen_from z).elim (fun y => nomatch y) id, seenD_mem ls' []⟩
    rw [num_app, num_app, e1, seenD_app, seenD_app]
    by_cases c : k ∈ ks'
    · obtain ⟨i, hi⟩ := List.getElem?_of_mem c
      have il : i < n := by rw [← hk']; exact (List.getElem?_eq_some_iff.mp hi).1
      have hli := (last i il).mp hi
      have cl := List.mem_of_getElem? hli
      rw [if_pos (seenk.mpr c), if_pos (seenl.mpr cl)]
      refine ⟨?_, e2⟩
      congr 2
      have g1 : (numD ks')[i]? = some (posD (seenD [] ks') k) := by
        unfold numD
        rw [List.getElem?_map, hi]
        rfl
      have g2 : (numD ls')[i]? = some (posD (seenD [] ls') l) := by
        unfold numD
        rw [List.getElem?_map, hli]
        rfl
      rw [e1, g2] at g1
      exact (Option.some.inj g1).symm
    · have cl : l ∉ ls' := fun z => by
        obtain ⟨i, hi⟩ := List.getElem?_of_mem z
        have il : i < n := by rw [← hl']; exact (List.getElem?_eq_some_iff.mp hi).1
        exact c (List.mem_of_getElem? ((last i il).mpr hi))
      rw [if_neg (fun z => c (seenk.mp z)), if_neg (fun z => cl (seenl.mp z)), posD_app_new (fun z => c (seenk.mp z)), posD_app_new (fun z => cl (seenl.mp z)), e2, List.length_append, List.length_append, e2]
      exact ⟨rfl, rfl⟩
end Bo

/-! ### finer and finer parts come to an end -/
namespace Bo
/-- the first places of the parts: f i tells the part of i -/
def firsts (m : Nat) (f : Nat → Nat) : List Nat := (List.range m).filter fun i => (List.range i).all fun j => decide (f j ≠ f i)
theorem firsts_le (m : Nat) (f : Nat → Nat) : (firsts m f).length ≤ m := by
  have := List.length_filter_le (fun i => (List.range i).all fun j => decide (f j ≠ f i)) (List.range m)
  rwa [List.length_range] at this
theorem first_iff {f : Nat → Nat} {i : Nat} : ((List.range i).all fun j => decide (f j ≠ f i)) = true ↔ ∀ j, j < i → f j ≠ f i := by
  rw [List.all_eq_true]
  constructor
  · intro h j hj
    exact of_decide_eq_true (h j (List.mem_range.mpr hj))
  · intro h j hj
    exact decide_eq_true (h j (List.mem_range.mp hj))
/-- each part has its first place -/
theorem first_of (f : Nat → Nat) : ∀ i, ∃ k, k ≤ i ∧ f k = f i ∧ ∀ j, j < k → f j ≠ f k := by
  intro i
  induction i using Nat.strongRecOn with
  | ind i ih =>
    by_cases h : ∃ j, j < i ∧ f j = f i
    · obtain ⟨j, h1, h2⟩ := h
      obtain ⟨k, k1, k2, k3⟩ := ih j h1
      exact ⟨k, by omega, k2.trans h2, k3⟩
    · exact ⟨i, Nat.le_refl _, rfl, fun j hj e => h ⟨j, hj, e⟩⟩
theorem flt_lt40 {α : Type} {p q : α → Bool} : ∀ {l : List α}, (∀ x ∈ l, p x = true → q x = true) → (∃ x ∈ l, q x = true ∧ p x = false) → (l.filter p).length < (l.filter q).length
  | [], _, h => by
    obtain ⟨x, hx, _⟩ := h
    cases hx
  | a :: l, hs, h => by
    have sub : (l.filter p).length ≤ (l.filter q).length := by
      have hs' : ∀ x ∈ l, p x = true → q x = true := fun x hx => hs x (List.mem_cons_of_mem _ hx)
      clear h hs
      induction l with
      | nil => exact Nat.le_refl _
      | cons b r ih =>
        have ih' := ih fun x hx => hs' x (List.mem_cons_of_mem _ hx)
        have hb := hs' b List.mem_cons_self
        cases pb : p b with
        | true =>
          rw [List.filter_cons_of_pos pb, List.filter_cons_of_pos (hb pb), List.length_cons, List.length_cons]
          omega
        | false =>
          rw [List.filter_cons_of_neg (by rw [pb]; exact Bool.false_ne_true)]
          cases qb : q b with
          | true =>
            rw [List.filter_cons_of_pos qb, List.length_cons]
            omega
          | false =>
            rw [List.filter_cons_of_neg (by rw [qb]; exact Bool.false_ne_true)]
            exact ih'
    have ha := hs a List.mem_cons_self
    obtain ⟨x, hx, hq, hp⟩ := h
    rcases List.mem_cons.mp hx with rfl | hx
    · rw [List.filter_cons_of_neg (by rw [hp]; exact Bool.false_ne_true), List.filter_cons_of_pos hq, List.length_cons]
      omega
    · have ih := flt_lt40 (l := l) (fun x hx => hs x (List.mem_cons_of_mem _ hx)) ⟨x, hx, hq, hp⟩
      cases pa : p a with
      | true =>
        rw [List.filter_cons_of_pos pa, List.filter_cons_of_pos (ha pa), List.length_cons, List.length_cons]
        omega
      | false =>
        rw [List.filter_cons_of_neg (by rw [pa]; exact Bool.false_ne_true)]
        cases qa : q a with
        | true =>
          rw [List.filter_cons_of_pos qa, List.length_cons]
          omega
        | false =>
          rw [List.filter_cons_of_neg (by rw [qa]; exact Bool.false_ne_true)]
          exact ih
/-- finer, and not the same: more parts -/
theorem firsts_lt {m : Nat} {f g : Nat → Nat} (fine : ∀ i j, i < m → j < m → g i = g j → f i = f j) {i j : Nat} (hi : i < m) (hj : j < m) (e : f i = f j) (ne : g i ≠ g j) : (firsts m f).length < (firsts m g).length := by
  unfold firsts
  refine flt_lt40 (fun x hx h => ?_) ?_
  · have xm := List.mem_range.mp hx
    rw [first_iff] at h ⊢
    exact fun y hy z => h y hy (fine y x (by omega) xm z)
  · obtain ⟨k, k1, k2, k3⟩ := first_of f i
    -- one of the two is not with k
    have : ∃ s, s < m ∧ f s = f k ∧ g s ≠ g k := by
      by_cases c : g i = g k
      · exact ⟨j, hj, e.symm.trans k2.symm, fun z => ne (c.trans z.symm)⟩
      · exact ⟨i, hi, k2.symm, c⟩
    obtain ⟨s, s1, s2, s3⟩ := this
    obtain ⟨t, t1, t2, t3⟩ := first_of g s
    have tm : t < m := by omega
    have ft : f t = f k := (fine t s tm s1 t2).trans s2
    refine ⟨t, List.mem_range.mpr tm, first_iff.mpr t3, ?_⟩
    have tk : t ≠ k := fun z => by
      subst z
      exact s3 t2.symm
    have lt : k < t := by
      rcases Nat.lt_or_gt_of_ne tk with z | z
      · exact absurd ft (k3 t z)
      · exact z
    refine Bool.eq_false_iff.mpr fun z => ?_
    exact first_iff.mp z k lt ft.symm
/-- finer and finer: after m rounds nothing changes any more -/
theorem fine_end {m : Nat} (f : Nat → Nat → Nat) (fine : ∀ t i j, i < m → j < m → f (t + 1) i = f (t + 1) j → f t i = f t j)
    (still : ∀ t, (∀ i j, i < m → j < m → f t i = f t j → f (t + 1) i = f (t + 1) j) → ∀ i j, i < m → j < m → f (t + 1) i = f (t + 1) j → f (t + 2) i = f (t + 2) j) :
    ∀ i j, i < m → j < m → f m i = f m j → f (m + 1) i = f (m + 1) j := by
  have go : ∀ t, (∀ i j, i < m → j < m → f t i = f t j → f (t + 1) i = f (t + 1) j) ∨ t ≤ (firsts m (f t)).length ∧ (0 < m → t < (firsts m (f t)).length) := by
    intro t
    induction t with
    | zero =>
      refine .inr ⟨Nat.zero_le _, fun hm => ?_⟩
      refine List.length_pos_iff.mpr fun z => ?_
      have : 0 ∈ firsts m (f 0) := List.mem_filter.mpr ⟨List.mem_range.mpr hm, first_iff.mpr fun j hj => by omega⟩
      rw [z] at this
      cases this
    | succ t ih =>
      by_cases c : ∀ i j, i < m → j < m → f t i = f t j → f (t + 1) i = f (t + 1) j
      · exact .inl (still t c)
      · rcases ih with ih | ⟨ih1, ih2⟩
        · exact absurd ih c
        · have ⟨i, h⟩ := Classical.not_forall.mp c
          have ⟨j, h⟩ := Classical.not_forall.mp h
          have ⟨hi, h⟩ := Classical.not_imp.mp h
          have ⟨hj, h⟩ := Classical.not_imp.mp h
          have ⟨e, ne⟩ := Classical.not_imp.mp h
          have l := firsts_lt (fine t) hi hj e ne
          exact .inr ⟨by omega, fun hm => by have := ih2 hm; omega⟩
  rcases go m with h | ⟨h1, h2⟩
  · exact h
  · intro i j hi hj _
    have := firsts_le m (f m)
    have := h2 (by omega)
    omega
end Bo

namespace Bo
open PySem L2
local macro_rules | `(tactic| walk_at "wv1") => `(tactic| (first
  | ((with_reducible refine w_var (d := ?wd) ?wh ?wq); (case wh => exact rfl))
  | with_reducible refine w_cons ?_
  | with_reducible refine w_nil ?_
  | with_reducible refine w_op ?_
  | with_reducible refine w_c ?_
  | with_reducible refine w_aName ?_
  | with_reducible refine w_seq ?_
  | with_reducible refine w_asg ?_
  | with_reducible refine w_toB ?_
  | with_reducible refine w_callP ?_
  | with_reducible refine w_tst ?_
  | with_reducible refine w_then ?_
  | with_reducible refine w_gIxT ?_
  | with_reducible refine w_call ?_
  | with_reducible refine w_ret ?_
  | with_reducible refine w_ifS ?_
  | with_reducible refine w_next ?_
  | ((with_reducible refine w_own (ds := ?wd) ?wh ?wq); (case wh => exact rfl))
  | with_reducible refine w_for ?_
  | with_reducible refine w_fr ?_
  | with_reducible refine w_lc ?_
  | with_reducible refine w_tup ?_
  | with_reducible refine w_iter ?_
  | with_reducible refine w_itFT ?_
  | with_reducible refine w_aCons ?_
  | with_reducible refine w_gIxL ?_
  | with_reducible refine w_tnot ?_
  | with_reducible refine w_pre ?_
  | ((with_reducible refine w_dic (kvs := ?wd) ?wh ?wq); (case wh => exact rfl))
  | with_reducible refine w_tor ?_
  | with_reducible refine w_range1 ?_
  | with_reducible refine w_yes ?_
  | with_reducible refine w_itTT ?_
  | with_reducible refine w_iterT ?_
  | with_reducible refine w_lst ?_
  | with_reducible refine w_toI ?_
  | with_reducible refine w_ownS ?_
  | with_reducible refine w_aTup rfl ?_
  | with_reducible refine w_aNil ?_
  | ((with_reducible refine w_frz (ds := ?wd) ?wh ?wq); (case wh => exact rfl))
  | with_reducible refine w_itT ?_
  | with_reducible refine w_callD ?_
  | with_reducible refine w_tand ?_
  | with_reducible refine w_gEqI ?_
  | with_reducible refine w_gNeI ?_
  | with_reducible refine w_gLenT ?_
  | with_reducible refine w_lstF ?_
  | with_reducible refine w_callB ?_
  | with_reducible refine w_app ?_
  | with_reducible refine w_setI ?_
  | with_reducible refine w_drop ?_
  | with_reducible refine w_gIB ?_
  | with_reducible refine w_gBools ?_
  | with_reducible refine w_and ?_
  | with_reducible refine w_isN ?_
  | with_reducible refine w_or ?_
  | with_reducible refine w_ixO ?_
  | with_reducible refine w_gI ?_
  | with_reducible refine w_gLenL ?_
  | with_reducible refine w_gTuple ?_
  | with_reducible refine w_gInts ?_
  | ((with_reducible refine w_newS (ns := ?wd) ?wh ?wq); (case wh => exact rfl))
  | with_reducible refine w_un ?_
  | with_reducible refine w_if ?_
  | with_reducible refine w_chain ?_
  | ((with_reducible refine w_callS (ns := ?wd) ?wh ?wq); (case wh => exact rfl))
  | with_reducible refine w_sl ?_
  | with_reducible refine w_noPart ?_
  | with_reducible refine w_part ?_
  | with_reducible refine w_listRg ?_
  | with_reducible refine w_enumK ?_
  | with_reducible refine w_repF ?_
  | with_reducible refine w_gIC ?_
  | with_reducible refine w_gCat ?_
  | with_reducible refine w_gCatT ?_
  | with_reducible refine w_notN ?_
  | with_reducible refine w_listF ?_
  | with_reducible refine w_neg ?_
  | with_reducible refine w_gIsB ?_
  | with_reducible refine w_not ?_
  | with_reducible refine w_tru ?_
  | with_reducible refine w_callL ?_
  | with_reducible refine w_consO ?_
  | with_reducible refine w_lenO ?_
  | with_reducible refine w_tupleO ?_
  | with_reducible refine w_listO ?_
  | with_reducible refine w_inO ?_
  | with_reducible refine w_truO ?_
  | with_reducible refine w_zipK ?_
  | with_reducible refine w_retN ?_
  | ((with_reducible refine w_aug (a := ?wd) ?wh ?wq); (case wh => exact rfl))
  | with_reducible refine w_gInL ?_
  | with_reducible refine w_gIntI ?_
  | with_reducible refine w_gRevL ?_
  | with_reducible refine w_gSlL ?_
  | with_reducible refine w_gSlT ?_
  | with_reducible refine w_itF ?_
  | with_reducible refine w_gList ?_
  | with_reducible refine w_gSortI ?_
  | with_reducible refine w_range2 ?_
  | ((with_reducible refine w_lcO (ds := ?wd) ?wh ?wq ?wr); (case wh => exact rfl); (case wq => exact rfl))
  | with_reducible refine w_aUnl rfl ?_
  | with_reducible refine w_brk ?_
  | with_reducible refine w_cnt ?_
  | with_reducible refine w_gIntB ?_
  | with_reducible refine w_getD ?_
  | with_reducible refine w_keyS ?_
  | with_reducible refine w_keyI ?_
  | with_reducible refine w_putD ?_
  | with_reducible refine w_ownCallD ?_
  | with_reducible refine w_callDF ?_
  | with_reducible refine w_gIxQL ?_
  | with_reducible refine w_gIxQT ?_
  | ((with_reducible refine w_revO (ds := ?wd) ?wh ?wq); (case wh => exact rfl))
  | ((with_reducible refine w_isNOd (d := ?wd) ?wh ?wq); (case wh => exact rfl))
  | ((with_reducible refine w_isNOo (ds := ?wd) ?wh ?wq); (case wh => exact rfl))
  | with_reducible refine w_toS ?_
  | with_reducible refine w_m0 ?_
  | with_reducible refine w_m1 ?_
  | with_reducible refine w_gIsdigit ?_
  | with_reducible refine w_gIsascii ?_
  | with_reducible refine w_gRemoveprefix ?_
  | with_reducible refine w_gPartition ?_
  | with_reducible refine w_gSplit ?_
  | with_reducible refine w_join ?_
  | with_reducible refine w_joinO ?_
  | with_reducible refine w_joinR ?_
  | with_reducible refine w_gInS ?_
  | with_reducible refine w_gIxS ?_
  | with_reducible refine w_gSlS ?_
  | with_reducible refine w_iterS ?_
  | with_reducible refine w_gRepS ?_
  | with_reducible refine w_gCatS ?_
  | with_reducible refine w_gLenS ?_
  | with_reducible refine w_gStrI ?_
  | with_reducible refine w_gIntS ?_
  | with_reducible refine w_fmt ?_
  | with_reducible refine w_toFmtS ?_
  | with_reducible refine w_toFmtI ?_
  | with_reducible refine w_joined ?_
  | with_reducible refine w_jsCons ?_
  | with_reducible refine w_jsNil ?_
  | with_reducible refine w_gMin2 ?_
  | with_reducible refine w_gEqS ?_
  | with_reducible refine w_gNeS ?_
  | simp only [wipeS, backS, List.set_cons_zero, List.set_cons_succ, List.getElem?_cons_zero, List.getElem?_cons_succ, Option.join_some, Option.join_none, Bool.not_true, Bool.not_false]))
local macro_rules | `(tactic| walk_at "wv") => `(tactic| ((repeat (walk_at "wv1"; try dsimp only)); try simp only [List.set_cons_zero, List.set_cons_succ]))
local macro_rules | `(tactic| walk_at "st") => `(tactic| simp only [startS, List.map_cons, List.map_nil, List.length_cons, List.length_nil, Nat.reduceAdd, Nat.reduceSub, List.replicate_succ, List.replicate_zero, List.cons_append, List.nil_append])

section
/-! ### alike states: the ends of a choice by blocks -/
open PySem L2
/-- weights by blocks -/
def atR (ps : List (Int × Int)) (b : Int) : Int := ((ps.find? fun p => decide (p.1 = b)).map (·.2)).getD 0
def putR (ps : List (Int × Int)) (b v : Int) : List (Int × Int) := if (ps.any fun p => decide (p.1 = b)) = true then ps.map (fun p => if p.1 = b then (p.1, v) else p) else ps ++ [(b, v)]
def rowR (ns : List Nat) (es : List (Int × Int)) : List (Int × Int) := es.foldl (fun ps e => putR ps ((ns.getD e.1.toNat 0 : Nat) : Int) (atR ps ((ns.getD e.1.toNat 0 : Nat) : Int) + e.2)) []
def rwD (ps : List (Int × Int)) : List (Key × PyData) := ps.map fun p => ((.inl p.1 : Key), PyData.int p.2)
theorem val_rwD (ps : List (Int × Int)) (b : Int) : (valD (rwD ps) (.inl b)).getD (.int 0) = .int (atR ps b) := by
  unfold valD rwD atR
  induction ps with
  | nil => rfl
  | cons p r ih =>
    rw [List.map_cons, List.find?_cons, List.find?_cons]
    by_cases c : p.1 = b
    · rw [decide_eq_true c, show decide ((Sum.inl p.1 : Key) = .inl b) = true from decide_eq_true (by rw [c])]
      rfl
    · rw [decide_eq_false c, show decide ((Sum.inl p.1 : Key) = .inl b) = false from decide_eq_false fun z => c (Sum.inl.inj z)]
      exact ih
theorem put_rwD (ps : List (Int × Int)) (b v : Int) : putD (rwD ps) (.inl b) (.int v) = rwD (putR ps b v) := by
  have key : ∀ p : Int × Int, decide (((.inl p.1 : Key)) = .inl b) = decide (p.1 = b) := fun p => by
    by_cases c : p.1 = b
    · rw [decide_eq_true c, c]
      simp
    · rw [decide_eq_false c]
      exact decide_eq_false fun z => c (Sum.inl.inj z)
  have ha : ((rwD ps).any fun kv => decide (kv.1 = .inl b)) = ps.any fun p => decide (p.1 = b) := by
    unfold rwD
    rw [List.any_map]
    congr 1
    funext p
    exact key p
  unfold putD putR
  rw [ha]
  by_cases c : (ps.any fun p => decide (p.1 = b)) = true
  · rw [if_pos c, if_pos c]
    unfold rwD
    rw [List.map_map, List.map_map]
    refine List.map_congr_left fun p _ => ?_
    by_cases e : p.1 = b
    · simp [e]
    · have ne : ¬ (Sum.inl p.1 : Key) = .inl b := fun z => e (Sum.inl.inj z)
      show (if (Sum.inl p.1 : Key) = .inl b then _ else _) = _
      rw [if_neg ne]
      show _ = ((.inl (if p.1 = b then (p.1, v) else p).1 : Key), PyData.int (if p.1 = b then (p.1, v) else p).2)
      rw [if_neg e]
  · rw [if_neg c, if_neg c]
    unfold rwD
    rw [List.map_append]
    rfl
theorem putR_len (ps : List (Int × Int)) (b v : Int) : (putR ps b v).length ≤ ps.length + 1 := by
  unfold putR
  split
  · rw [List.length_map]
    omega
  · rw [List.length_append, List.length_singleton]
    exact Nat.le_refl _
theorem rwD_len (ps : List (Int × Int)) : (rwD ps).length = ps.length := by
  unfold rwD
  rw [List.length_map]
def stepR (ns : List Nat) (ps : List (Int × Int)) (e : Int × Int) : List (Int × Int) := putR ps ((ns.getD e.1.toNat 0 : Nat) : Int) (atR ps ((ns.getD e.1.toNat 0 : Nat) : Int) + e.2)
theorem rowR_snoc (ns : List Nat) (es : List (Int × Int)) (e : Int × Int) : rowR ns (es ++ [e]) = stepR ns (rowR ns es) e := by
  unfold rowR
  rw [List.foldl_append]
  rfl
theorem rowR_len (ns : List Nat) : ∀ {n : Nat} {es : List (Int × Int)}, es.length = n → (rowR ns es).length ≤ n
  | 0, es, h => by
    rw [List.length_eq_zero_iff.mp h]
    exact Nat.le_refl _
  | n + 1, es, h => by
    obtain ⟨m, a, rfl⟩ := snoc_of h
    rw [List.length_append, List.length_singleton] at h
    rw [rowR_snoc]
    have := rowR_len ns (es := m) (n := n) (by omega)
    have := putR_len (rowR ns m) ((ns.getD a.1.toNat 0 : Nat) : Int) (atR (rowR ns m) ((ns.getD a.1.toNat 0 : Nat) : Int) + a.2)
    show (putR _ _ _).length ≤ _
    omega
theorem intKs_rwD : ∀ ps : List (Int × Int), intKs (rwD ps) = some ps
  | [] => rfl
  | p :: r => by
    show (intKs (rwD r)).map (p :: ·) = _
    rw [intKs_rwD r]
    rfl
theorem w_sortK40 {i : Nat} {S : SS} {ps : List (Int × Int)} {k : List PyData × SS → Prop} (h : S[i]? = some (some (.dic (rwD ps)))) (hl : ps.length ≤ 1000) (nd : (ps.map (·.1)).Nodup) (q : k ((sortP ps).map prD, S)) : (vSortK i S).okTo k := by
  unfold vSortK dicD
  rw [h]
  show ((match intKs (rwD ps) with
    | some ps => R.when (ps.length ≤ 1000 ∧ (ps.map (·.1)).Nodup) (R.ok ((sortP ps).map prD, S))
    | none => R.bad) : R (List PyData × SS)).okTo k
  rw [intKs_rwD]
  exact okTo_when.mpr ⟨⟨hl, nd⟩, q⟩
theorem putR_keys (ps : List (Int × Int)) (b v : Int) : (putR ps b v).map (·.1) = if b ∈ ps.map (·.1) then ps.map (·.1) else ps.map (·.1) ++ [b] := by
  unfold putR
  by_cases c : (ps.any fun p => decide (p.1 = b)) = true
  · have m : b ∈ ps.map (·.1) := by
      obtain ⟨p, hp, e⟩ := List.any_eq_true.mp c
      exact List.mem_map.mpr ⟨p, hp, of_decide_eq_true e⟩
    rw [if_pos c, if_pos m, List.map_map]
    refine List.map_congr_left fun p _ => ?_
    show (if p.1 = b then (p.1, v) else p).1 = p.1
    split <;> rfl
  · have m : b ∉ ps.map (·.1) := fun z => by
      obtain ⟨p, hp, e⟩ := List.mem_map.mp z
      exact c (List.any_eq_true.mpr ⟨p, hp, decide_eq_true e⟩)
    rw [if_neg c, if_neg m, List.map_append]
    rfl
theorem rowR_nd (ns : List Nat) : ∀ {n : Nat} {es : List (Int × Int)}, es.length = n → ((rowR ns es).map (·.1)).Nodup
  | 0, es, h => by
    rw [List.length_eq_zero_iff.mp h]
    exact List.nodup_nil
  | n + 1, es, h => by
    obtain ⟨m, a, rfl⟩ := snoc_of h
    rw [List.length_append, List.length_singleton] at h
    have ih := rowR_nd ns (es := m) (n := n) (by omega)
    rw [rowR_snoc]
    show ((putR _ _ _).map (·.1)).Nodup
    rw [putR_keys]
    split
    · exact ih
    · rename_i c
      exact List.nodup_append.mpr ⟨ih, by simp, fun x hx y hy => by
        rw [List.mem_singleton.mp hy]
        rintro rfl
        exact c hx⟩
theorem atR_nn {ps : List (Int × Int)} (h : ∀ p ∈ ps, 1 ≤ p.2) (b : Int) : 0 ≤ atR ps b := by
  unfold atR
  cases e : ps.find? fun p => decide (p.1 = b) with
  | none => exact Int.le_refl _
  | some p =>
    have := h p (List.mem_of_find?_eq_some e)
    show 0 ≤ p.2
    omega
theorem putR_pos {ps : List (Int × Int)} {b v : Int} (h : ∀ p ∈ ps, 1 ≤ p.2) (hv : 1 ≤ v) : ∀ p ∈ putR ps b v, 1 ≤ p.2 := by
  unfold putR
  intro p hp
  split at hp
  · obtain ⟨q, hq, rfl⟩ := List.mem_map.mp hp
    split
    · exact hv
    · exact h q hq
  · rcases List.mem_append.mp hp with z | z
    · exact h p z
    · rw [List.mem_singleton.mp z]
      exact hv
theorem rowR_pos (ns : List Nat) : ∀ {n : Nat} {es : List (Int × Int)}, es.length = n → (∀ e ∈ es, 1 ≤ e.2) → ∀ p ∈ rowR ns es, 1 ≤ p.2
  | 0, es, h, _ => by
    rw [List.length_eq_zero_iff.mp h]
    intro p hp
    cases hp
  | n + 1, es, h, he => by
    obtain ⟨m, a, rfl⟩ := snoc_of h
    rw [List.length_append, List.length_singleton] at h
    have ih := rowR_pos ns (es := m) (n := n) (by omega) fun e hm => he e (List.mem_append_left _ hm)
    have ha := he a (List.mem_append_right _ (List.mem_singleton.mpr rfl))
    rw [rowR_snoc]
    have := atR_nn ih ((ns.getD a.1.toNat 0 : Nat) : Int)
    exact putR_pos ih (by omega)
theorem w_newD40 {i : Nat} {S : SS} {kS : FL → Prop} (h : kS (.nx (S.set i (some (.dic []))))) : (vNewD i S).okTo kS := h
theorem w_forVA {i : Nat} {fg : PyData → SS → R SS} {fe : VE} {fg2 : PyData → SS → R SS} {S : SS} {kS : FL → Prop} (h : (dicD S i).okTo fun kvs => (foldVA fg fe fg2 (kvs.map (·.2)) (S.set i none)).okTo fun S' => kS (.nx (S'.set i (some (.dic kvs))))) : (vForVA i fg fe fg2 S).okTo kS := by
  unfold vForVA
  exact okTo_bind.mpr (h.mono fun kvs hp => okTo_bind.mpr (hp.mono fun S' hs => okTo_ok.mpr hs))
def gcdI (g : Int) (ws : List Int) : Int := ws.foldl (fun g w => ((Nat.gcd g.natAbs w.natAbs : Nat) : Int)) g
theorem fold_gcd {a b : Option SV} {k : SS → Prop} : ∀ (ws : List Int) (g : Int) (z : Option SV), (∀ z', k [a, b, none, some (.dat (.int (gcdI g ws))), z', none, none]) →
    (foldVA (aName 4) (vCall gGcd (vCons (vVar 3) (vCons (vVar 4) vNil))) (aName 3) (ws.map PyData.int) [a, b, none, some (.dat (.int g)), z, none, none]).okTo k
  | [], g, z, h => h z
  | w :: ws, g, z, h => by
    show ((aName 4 (.int w) _).bind _).okTo k
    refine okTo_bind.mpr ?_
    unfold aName
    refine okTo_ok.mpr (okTo_bind.mpr ?_)
    refine okTo_eq (a := (.int ((Nat.gcd g.natAbs w.natAbs : Nat) : Int), [a, b, none, some (.dat (.int g)), some (.dat (.int w)), none, none])) rfl (okTo_bind.mpr (okTo_ok.mpr ?_))
    exact fold_gcd ws ((Nat.gcd g.natAbs w.natAbs : Nat) : Int) (some (.dat (.int w))) h
/-- the ends of a choice by blocks, in lowest terms -/
def betD (ns : List Nat) (es : List (Int × Int)) : PyData := .tuple ((sortP (rowR ns es)).map fun p => .tuple [.int p.1, .int (Int.fdiv p.2 (gcdI 0 ((rowR ns es).map (·.2))))])
theorem gcdI_pos : ∀ {ws : List Int} {g : Int}, (0 < g ∨ (0 ≤ g ∧ ∃ w ∈ ws, 1 ≤ w)) → 0 < gcdI g ws
  | [], g, h => by
    rcases h with h | ⟨_, w, hw, _⟩
    · exact h
    · cases hw
  | v :: ws, g, h => by
    show 0 < gcdI ((Nat.gcd g.natAbs v.natAbs : Nat) : Int) ws
    refine gcdI_pos ?_
    rcases h with h | ⟨h0, w, hw, h1⟩
    · left
      have := Nat.gcd_pos_of_pos_left v.natAbs (show 0 < g.natAbs by omega)
      omega
    · rcases List.mem_cons.mp hw with rfl | hw
      · left
        have := Nat.gcd_pos_of_pos_right g.natAbs (show 0 < w.natAbs by omega)
        omega
      · exact .inr ⟨by omega, w, hw, h1⟩
theorem gcdI_le : ∀ {ws : List Int} {g : Int}, 0 < g → gcdI g ws ≤ g
  | [], g, _ => Int.le_refl _
  | v :: ws, g, h => by
    show gcdI ((Nat.gcd g.natAbs v.natAbs : Nat) : Int) ws ≤ g
    have p := Nat.gcd_pos_of_pos_left v.natAbs (show 0 < g.natAbs by omega)
    have := gcdI_le (ws := ws) (g := ((Nat.gcd g.natAbs v.natAbs : Nat) : Int)) (by omega)
    have := Nat.gcd_le_left v.natAbs (show 0 < g.natAbs by omega)
    omega
theorem gcdI_mem : ∀ {ws : List Int} {g w : Int}, w ∈ ws → 1 ≤ w → gcdI g ws ≤ w
  | v :: ws, g, w, h, hw => by
    show gcdI ((Nat.gcd g.natAbs v.natAbs : Nat) : Int) ws ≤ w
    rcases List.mem_cons.mp h with rfl | h
    · have p := Nat.gcd_pos_of_pos_right g.natAbs (show 0 < w.natAbs by omega)
      have := gcdI_le (ws := ws) (g := ((Nat.gcd g.natAbs w.natAbs : Nat) : Int)) (by omega)
      have := Nat.gcd_le_right g.natAbs (show 0 < w.natAbs by omega)
      omega
    · exact gcdI_mem h hw
theorem putR_le {ps : List (Int × Int)} {b v m : Int} (h : ∀ p ∈ ps, p.2 ≤ m) (hv : v ≤ m) : ∀ p ∈ putR ps b v, p.2 ≤ m := by
  unfold putR
  intro p hp
  split at hp
  · obtain ⟨q, hq, rfl⟩ := List.mem_map.mp hp
    split
    · exact hv
    · exact h q hq
  · rcases List.mem_append.mp hp with z | z
    · exact h p z
    · rw [List.mem_singleton.mp z]
      exact hv
theorem rowR_le (ns : List Nat) : ∀ {n : Nat} {es : List (Int × Int)}, es.length = n → (∀ e ∈ es, e.2 ≤ 3000) → ∀ p ∈ rowR ns es, p.2 ≤ 3000 * (n : Int)
  | 0, es, h, _ => by
    rw [List.length_eq_zero_iff.mp h]
    intro p hp
    cases hp
  | n + 1, es, h, he => by
    obtain ⟨m, a, rfl⟩ := snoc_of h
    rw [List.length_append, List.length_singleton] at h
    have ih := rowR_le ns (es := m) (n := n) (by omega) fun e hm => he e (List.mem_append_left _ hm)
    have ha := he a (List.mem_append_right _ (List.mem_singleton.mpr rfl))
    rw [rowR_snoc]
    have at_ : atR (rowR ns m) ((ns.getD a.1.toNat 0 : Nat) : Int) ≤ 3000 * (n : Int) := by
      unfold atR
      cases e : (rowR ns m).find? fun p => decide (p.1 = ((ns.getD a.1.toNat 0 : Nat) : Int)) with
      | none =>
        show (0 : Int) ≤ _
        omega
      | some p => exact ih p (List.mem_of_find?_eq_some e)
    exact putR_le (fun p hp => by have := ih p hp; omega) (by omega)
theorem eb_ok {ns : List Nat} {es : List (Int × Int)} {k : PyData → Prop} (hl : es.length ≤ 100) (he : ∀ e ∈ es, 0 ≤ e.1 ∧ e.1 < (ns.length : Int) ∧ 1 ≤ e.2 ∧ e.2 ≤ 3000) (q : k (betD ns es)) : (den_ends_between [.tuple (es.map prD), .list (ns.map fun j => .int (j : Nat))]).okTo k := by
  unfold den_ends_between body_ends_between
  refine w_denP ?_
  walk_at "st"
  refine w_seq (w_newD40 ?_)
  walk_at "wv"
  refine ⟨_, rfl, ?_⟩
  refine loop_ok (fun t S => S = [some (.dat (.tuple (es.map prD))), some (.dat (.list (ns.map fun j => .int (j : Nat)))), some (.dic (rwD (rowR ns (es.take t)))), some (.dat (.int 0)), none, none, none]) ?_ ?_ rfl
  · rintro t d S hd rfl
    rw [List.getElem?_map] at hd
    obtain ⟨e, hx, rfl⟩ := Option.map_eq_some_iff.mp hd
    have em := he e (List.mem_of_getElem? hx)
    rw [show prD e = .tuple [.int e.1, .int e.2] from rfl]
    refine w_aTup rfl (w_aCons (w_aName (w_aCons (w_aName (w_aNil ?_)))))
    have ix : ixD (ns.map fun j => .int (j : Nat)) e.1 = .ok (.int ((ns.getD e.1.toNat 0 : Nat) : Int)) := by
      obtain ⟨a, ha⟩ : ∃ a : Nat, e.1 = (a : Nat) := ⟨e.1.toNat, by omega⟩
      have hlt : a < ns.length := by omega
      rw [ha, Int.toNat_natCast, List.getD_eq_getElem?_getD, List.getElem?_eq_getElem hlt]
      exact ixD_nat (by rw [List.getElem?_map, List.getElem?_eq_getElem hlt]; rfl)
    walk_at "wv"
    refine okTo_eq ix ?_
    walk_at "wv"
    refine w_get2 ?_
    walk_at "wv"
    rw [val_rwD]
    walk_at "wv"
    refine ⟨by rw [rwD_len]; have := rowR_len ns (es := es.take t) rfl; rw [List.length_take] at this; omega, ?_⟩
    rw [put_rwD, List.take_add_one, hx]
    show _ = [_, _, some (SV.dic (rwD (rowR ns (es.take t ++ [e])))), _, _, _, _]
    rw [rowR_snoc]
    rfl
  · rintro S rfl
    rw [List.length_map, List.take_length]
    walk_at "wv"
    refine w_forVA ?_
    walk_at "wv"
    rw [show (rwD (rowR ns es)).map (·.2) = ((rowR ns es).map (·.2)).map PyData.int from by unfold rwD; rw [List.map_map, List.map_map]; rfl]
    refine fold_gcd _ _ _ fun z' => ?_
    walk_at "wv"
    have rl := rowR_len ns (es := es) rfl
    refine w_sortK40 rfl (by omega) (rowR_nd ns rfl) ?_
    have sl : (sortP (rowR ns es)).length ≤ 1000 := by rw [(sortP_perm _).length_eq]; omega
    refine ⟨_, rfl, ⟨rfl, by rw [List.length_map]; omega⟩, ?_⟩
    generalize hg : gcdI 0 ((rowR ns es).map (·.2)) = g
    have hb : betD ns es = .tuple ((sortP (rowR ns es)).map fun p => .tuple [.int p.1, .int (Int.fdiv p.2 g)]) := by
      unfold betD
      rw [hg]
    refine lc_ok (fun p acc Z => acc = ((sortP (rowR ns es)).take p).map (fun p => .tuple [.int p.1, .int (Int.fdiv p.2 g)]) ∧ Z = [some (.dat (.tuple (es.map prD))), some (.dat (.list (ns.map fun j => .int (j : Nat)))), some (.dic (rwD (rowR ns es))), some (.dat (.int g)), none, none, none]) ?_ ?_ ⟨rfl, rfl⟩
    · rintro t d acc Z hd ⟨rfl, rfl⟩
      rw [List.getElem?_map] at hd
      obtain ⟨x, hx, rfl⟩ := Option.map_eq_some_iff.mp hd
      have xm : x ∈ rowR ns es := (sortP_perm _).mem_iff.mp (List.mem_of_getElem? hx)
      have gp : 0 < g := by
        rw [← hg]
        exact gcdI_pos (.inr ⟨Int.le_refl _, x.2, List.mem_map.mpr ⟨x, xm, rfl⟩, rowR_pos ns rfl (fun e hm => (he e hm).2.2.1) x xm⟩)
      rw [show prD x = .tuple [.int x.1, .int x.2] from rfl]
      walk_at "wv"
      have gl : g ≤ 300000 := by
        have h1 := rowR_pos ns rfl (fun e hm => (he e hm).2.2.1) x xm
        have h2 := rowR_le ns rfl (fun e hm => (he e hm).2.2.2) x xm
        have h3 := gcdI_mem (g := 0) (ws := (rowR ns es).map (·.2)) (List.mem_map.mpr ⟨x, xm, rfl⟩) h1
        rw [hg] at h3
        omega
      refine ⟨decide_eq_true ⟨by omega, Nat.lt_of_lt_of_le (show g.natAbs < 2 ^ 19 by omega) (Nat.pow_le_pow_right (by decide) (by decide))⟩, ?_⟩
      walk_at "wv"
      refine ⟨by simp, ?_⟩
      rw [List.take_add_one, hx, List.map_append]
      exact ⟨rfl, by first | trivial | rfl⟩
    · rintro acc Z ⟨rfl, rfl⟩
      rw [List.length_map, List.take_length]
      walk_at "wv"
      rw [← hb]
      exact q

end
end Bo
/-! ### data of which == says that they are the same -/
namespace Bo
open PySem L2
/-- none, ints, texts, lists and tuples of such, n deep at most -/
def Pn : Nat → PyData → Prop
  | _, .none => True
  | _, .int _ => True
  | _, .str x => PyData.strOk x = true
  | n + 1, .list ds => ∀ d ∈ ds, Pn n d
  | n + 1, .tuple ds => ∀ d ∈ ds, Pn n d
  | _, _ => False
theorem pn_shp : ∀ {n : Nat} {d : PyData}, Pn n d → Shp n d := by
  intro n
  induction n with
  | zero =>
    intro d h
    cases d with
    | none => exact ⟨rfl, by simp [PyData.depth]⟩
    | int i => exact shp_int i
    | str x => exact ⟨by simp only [PyData.canLay0]; exact h, by simp [PyData.depth]⟩
    | bool b => exact h.elim
    | dict k => exact h.elim
    | list ds => exact h.elim
    | tuple ds => exact h.elim
  | succ n ih =>
    intro d h
    cases d with
    | none => exact ⟨rfl, by simp [PyData.depth]⟩
    | int i => exact shp_int i
    | str x => exact ⟨by simp only [PyData.canLay0]; exact h, by simp [PyData.depth]⟩
    | bool b => exact h.elim
    | dict k => exact h.elim
    | list ds => exact shp_list fun e he => ih (h e he)
    | tuple ds => exact shp_tuple fun e he => ih (h e he)
theorem eqv_all {P : PyData → Prop} : ∀ {xs ys : List PyData}, (∀ x ∈ xs, ∀ y ∈ ys, (PyData.eqv x y = true ↔ x = y)) → (PyData.eqvAll xs ys = true ↔ xs = ys)
  | [], [], _ => by simp [PyData.eqvAll]
  | [], _ :: _, _ => by simp [PyData.eqvAll]
  | _ :: _, [], _ => by simp [PyData.eqvAll]
  | x :: xs, y :: ys, h => by
    have ih := eqv_all (P := P) (xs := xs) (ys := ys) fun a ha b hb => h a (List.mem_cons_of_mem x ha) b (List.mem_cons_of_mem y hb)
    rw [PyData.eqvAll, Bool.and_eq_true, ih, h x List.mem_cons_self y List.mem_cons_self, List.cons.injEq]
theorem eqv_pn : ∀ {n : Nat} {d : PyData}, Pn n d → ∀ {m : Nat} {e : PyData}, Pn m e → (PyData.eqv d e = true ↔ d = e) := by
  intro n
  induction n with
  | zero =>
    intro d h m e g
    cases d <;> first | exact h.elim | skip
    all_goals cases e <;> cases m <;> first | exact g.elim | simp [PyData.eqv]
  | succ n ih =>
    intro d h m e g
    cases d with
    | bool b => exact h.elim
    | dict k => exact h.elim
    | none => cases e <;> cases m <;> first | exact g.elim | simp [PyData.eqv]
    | int i => cases e <;> cases m <;> first | exact g.elim | simp [PyData.eqv]
    | str x => cases e <;> cases m <;> first | exact g.elim | simp [PyData.eqv]
    | list ds =>
      cases e <;> cases m <;> first | exact g.elim | (simp [PyData.eqv]; done) | skip
      rename_i es m
      rw [PyData.eqv, eqv_all (P := fun _ => True) fun x hx y hy => ih (h x hx) (g y hy), PyData.list.injEq]
    | tuple ds =>
      cases e <;> cases m <;> first | exact g.elim | (simp [PyData.eqv]; done) | skip
      rename_i es m
      rw [PyData.eqv, eqv_all (P := fun _ => True) fun x hx y hy => ih (h x hx) (g y hy), PyData.tuple.injEq]
open Classical in
theorem eq_pn {n m : Nat} {d e : PyData} (h : Pn n d) (g : Pn m e) (hn : n ≤ 64) (hm : m ≤ 64) : gEqD d e = .ok (.bool (decide (d = e))) := by
  unfold gEqD
  rw [R.when_pos ⟨(pn_shp h).ok hn, (pn_shp g).ok hm⟩]
  congr 2
  by_cases c : d = e
  · rw [decide_eq_true c, (eqv_pn h g).mpr c]
  · rw [decide_eq_false c]
    cases q : PyData.eqv d e with
    | false => rfl
    | true => exact absurd ((eqv_pn h g).mp q) c
theorem pn_int {n : Nat} (i : Int) : Pn n (.int i) := by cases n <;> trivial
theorem pn_Q {n : Nat} (q : Rat) : Pn (n + 1) (dQ q) := by
  unfold dQ
  intro d hd
  simp only [List.mem_cons, List.not_mem_nil, or_false] at hd
  rcases hd with rfl | rfl <;> exact pn_int _
theorem pn_map {α : Type} {n : Nat} {f : α → PyData} {l : List α} (h : ∀ a ∈ l, Pn n (f a)) : Pn (n + 1) (.list (l.map f)) := fun d hd => by
  obtain ⟨a, ha, rfl⟩ := List.mem_map.mp hd
  exact h a ha
theorem pn_mapT {α : Type} {n : Nat} {f : α → PyData} {l : List α} (h : ∀ a ∈ l, Pn n (f a)) : Pn (n + 1) (.tuple (l.map f)) := fun d hd => by
  obtain ⟨a, ha, rfl⟩ := List.mem_map.mp hd
  exact h a ha
theorem dQ_inj {a b : Rat} (h : dQ a = dQ b) : a = b := by
  unfold dQ at h
  have h' : PyData.tuple [.int a.num, .int (a.den : Int)] = PyData.tuple [.int b.num, .int (b.den : Int)] := h
  simp only [PyData.tuple.injEq, List.cons.injEq, PyData.int.injEq, and_true] at h'
  obtain ⟨h1, h2⟩ := h'
  have e1 := num_den a
  have e2 := num_den b
  rw [← e1, ← e2, h1, h2]
end Bo

namespace Bo
open PySem L2
local macro_rules | `(tactic| walk_at "wv1") => `(tactic| (first
  | ((with_reducible refine w_var (d := ?wd) ?wh ?wq); (case wh => exact rfl))
  | with_reducible refine w_cons ?_
  | with_reducible refine w_nil ?_
  | with_reducible refine w_op ?_
  | with_reducible refine w_c ?_
  | with_reducible refine w_aName ?_
  | with_reducible refine w_seq ?_
  | with_reducible refine w_asg ?_
  | with_reducible refine w_toB ?_
  | with_reducible refine w_callP ?_
  | with_reducible refine w_tst ?_
  | with_reducible refine w_then ?_
  | with_reducible refine w_gIxT ?_
  | with_reducible refine w_call ?_
  | with_reducible refine w_ret ?_
  | with_reducible refine w_ifS ?_
  | with_reducible refine w_next ?_
  | ((with_reducible refine w_own (ds := ?wd) ?wh ?wq); (case wh => exact rfl))
  | with_reducible refine w_for ?_
  | with_reducible refine w_fr ?_
  | with_reducible refine w_lc ?_
  | with_reducible refine w_tup ?_
  | with_reducible refine w_iter ?_
  | with_reducible refine w_itFT ?_
  | with_reducible refine w_aCons ?_
  | with_reducible refine w_gIxL ?_
  | with_reducible refine w_tnot ?_
  | with_reducible refine w_pre ?_
  | ((with_reducible refine w_dic (kvs := ?wd) ?wh ?wq); (case wh => exact rfl))
  | with_reducible refine w_tor ?_
  | with_reducible refine w_range1 ?_
  | with_reducible refine w_yes ?_
  | with_reducible refine w_itTT ?_
  | with_reducible refine w_iterT ?_
  | with_reducible refine w_lst ?_
  | with_reducible refine w_toI ?_
  | with_reducible refine w_ownS ?_
  | with_reducible refine w_aTup rfl ?_
  | with_reducible refine w_aNil ?_
  | ((with_reducible refine w_frz (ds := ?wd) ?wh ?wq); (case wh => exact rfl))
  | with_reducible refine w_itT ?_
  | with_reducible refine w_callD ?_
  | with_reducible refine w_tand ?_
  | with_reducible refine w_gEqI ?_
  | with_reducible refine w_gNeI ?_
  | with_reducible refine w_gLenT ?_
  | with_reducible refine w_lstF ?_
  | with_reducible refine w_callB ?_
  | with_reducible refine w_app ?_
  | with_reducible refine w_setI ?_
  | with_reducible refine w_drop ?_
  | with_reducible refine w_gIB ?_
  | with_reducible refine w_gBools ?_
  | with_reducible refine w_and ?_
  | with_reducible refine w_isN ?_
  | with_reducible refine w_or ?_
  | with_reducible refine w_ixO ?_
  | with_reducible refine w_gI ?_
  | with_reducible refine w_gLenL ?_
  | with_reducible refine w_gTuple ?_
  | with_reducible refine w_gInts ?_
  | ((with_reducible refine w_newS (ns := ?wd) ?wh ?wq); (case wh => exact rfl))
  | with_reducible refine w_un ?_
  | with_reducible refine w_if ?_
  | with_reducible refine w_chain ?_
  | ((with_reducible refine w_callS (ns := ?wd) ?wh ?wq); (case wh => exact rfl))
  | with_reducible refine w_sl ?_
  | with_reducible refine w_noPart ?_
  | with_reducible refine w_part ?_
  | with_reducible refine w_listRg ?_
  | with_reducible refine w_enumK ?_
  | with_reducible refine w_repF ?_
  | with_reducible refine w_gIC ?_
  | with_reducible refine w_gCat ?_
  | with_reducible refine w_gCatT ?_
  | with_reducible refine w_notN ?_
  | with_reducible refine w_listF ?_
  | with_reducible refine w_neg ?_
  | with_reducible refine w_gIsB ?_
  | with_reducible refine w_not ?_
  | with_reducible refine w_tru ?_
  | with_reducible refine w_callL ?_
  | with_reducible refine w_consO ?_
  | with_reducible refine w_lenO ?_
  | with_reducible refine w_tupleO ?_
  | with_reducible refine w_listO ?_
  | with_reducible refine w_inO ?_
  | with_reducible refine w_truO ?_
  | with_reducible refine w_zipK ?_
  | with_reducible refine w_retN ?_
  | ((with_reducible refine w_aug (a := ?wd) ?wh ?wq); (case wh => exact rfl))
  | with_reducible refine w_gInL ?_
  | with_reducible refine w_gIntI ?_
  | with_reducible refine w_gRevL ?_
  | with_reducible refine w_gSlL ?_
  | with_reducible refine w_gSlT ?_
  | with_reducible refine w_itF ?_
  | with_reducible refine w_gList ?_
  | with_reducible refine w_gSortI ?_
  | with_reducible refine w_range2 ?_
  | ((with_reducible refine w_lcO (ds := ?wd) ?wh ?wq ?wr); (case wh => exact rfl); (case wq => exact rfl))
  | with_reducible refine w_aUnl rfl ?_
  | with_reducible refine w_brk ?_
  | with_reducible refine w_cnt ?_
  | with_reducible refine w_gIntB ?_
  | with_reducible refine w_getD ?_
  | with_reducible refine w_keyS ?_
  | with_reducible refine w_keyI ?_
  | with_reducible refine w_putD ?_
  | with_reducible refine w_ownCallD ?_
  | with_reducible refine w_callDF ?_
  | with_reducible refine w_gIxQL ?_
  | with_reducible refine w_gIxQT ?_
  | ((with_reducible refine w_revO (ds := ?wd) ?wh ?wq); (case wh => exact rfl))
  | ((with_reducible refine w_isNOd (d := ?wd) ?wh ?wq); (case wh => exact rfl))
  | ((with_reducible refine w_isNOo (ds := ?wd) ?wh ?wq); (case wh => exact rfl))
  | with_reducible refine w_toS ?_
  | with_reducible refine w_m0 ?_
  | with_reducible refine w_m1 ?_
  | with_reducible refine w_gIsdigit ?_
  | with_reducible refine w_gIsascii ?_
  | with_reducible refine w_gRemoveprefix ?_
  | with_reducible refine w_gPartition ?_
  | with_reducible refine w_gSplit ?_
  | with_reducible refine w_join ?_
  | with_reducible refine w_joinO ?_
  | with_reducible refine w_joinR ?_
  | with_reducible refine w_gInS ?_
  | with_reducible refine w_gIxS ?_
  | with_reducible refine w_gSlS ?_
  | with_reducible refine w_iterS ?_
  | with_reducible refine w_gRepS ?_
  | with_reducible refine w_gCatS ?_
  | with_reducible refine w_gLenS ?_
  | with_reducible refine w_gStrI ?_
  | with_reducible refine w_gIntS ?_
  | with_reducible refine w_fmt ?_
  | with_reducible refine w_toFmtS ?_
  | with_reducible refine w_toFmtI ?_
  | with_reducible refine w_joined ?_
  | with_reducible refine w_jsCons ?_
  | with_reducible refine w_jsNil ?_
  | with_reducible refine w_gMin2 ?_
  | with_reducible refine w_gEqS ?_
  | with_reducible refine w_gNeS ?_
  | simp only [wipeS, backS, List.set_cons_zero, List.set_cons_succ, List.getElem?_cons_zero, List.getElem?_cons_succ, Option.join_some, Option.join_none, Bool.not_true, Bool.not_false]))
local macro_rules | `(tactic| walk_at "wv") => `(tactic| ((repeat (walk_at "wv1"; try dsimp only)); try simp only [List.set_cons_zero, List.set_cons_succ]))
local macro_rules | `(tactic| walk_at "st") => `(tactic| simp only [startS, List.map_cons, List.map_nil, List.length_cons, List.length_nil, Nat.reduceAdd, Nat.reduceSub, List.replicate_succ, List.replicate_zero, List.cons_append, List.nil_append])

section
/-! ### alike states: the choices of a state by blocks -/
open PySem L2
def cbD (ns : List Nat) (c : Cho) : PyData := .tuple [.int c.1, betD ns c.2]
/-- the choices of a state by blocks, each once -/
noncomputable def cbsD (ns : List Nat) (s : List Cho) : List PyData := seenD [] (s.map (cbD ns))
def Ends40 (m : Nat) (es : List (Int × Int)) : Prop := es.length ≤ 100 ∧ ∀ e ∈ es, 0 ≤ e.1 ∧ e.1 < (m : Int) ∧ 1 ≤ e.2 ∧ e.2 ≤ 3000
theorem ifP {c p q : Prop} [Decidable c] (h : c) (x : p) : if c then p else q := by
  rw [if_pos h]
  exact x
theorem ifN {c p q : Prop} [Decidable c] (h : ¬ c) (x : q) : if c then p else q := by
  rw [if_neg h]
  exact x
theorem pn_bet (ns : List Nat) (es : List (Int × Int)) : Pn 2 (betD ns es) := pn_mapT fun p _ => by
  intro d hd
  simp only [List.mem_cons, List.not_mem_nil, or_false] at hd
  rcases hd with rfl | rfl <;> exact pn_int _
theorem pn_cb (ns : List Nat) (c : Cho) : Pn 3 (cbD ns c) := by
  intro d hd
  simp only [List.mem_cons, List.not_mem_nil, or_false] at hd
  rcases hd with rfl | rfl
  · exact pn_int _
  · exact pn_bet ns c.2
theorem pn_shaped {n : Nat} {d : PyData} (h : Pn n d) (hn : n ≤ 64) : SeqAt.shaped d = true := by
  have s := pn_shp h
  unfold SeqAt.shaped
  rw [s.1, decide_eq_true (Nat.le_trans s.2 hn)]
  rfl
theorem pn_seen {n : Nat} {ks : List PyData} (h : ∀ k ∈ ks, Pn n k) : ∀ k ∈ seenD [] ks, Pn n k := fun k hk => by
  rcases seen_from hk with z | z
  · cases z
  · exact h k z
theorem any_pn {n m : Nat} {ds : List PyData} {d : PyData} (h : ∀ k ∈ ds, Pn n k) (hd : Pn m d) : (ds.any fun z => PyData.eqv z d) = true ↔ d ∈ ds := by
  rw [List.any_eq_true]
  constructor
  · rintro ⟨z, hz, e⟩
    rw [← (eqv_pn (h z hz) hd).mp e]
    exact hz
  · exact fun z => ⟨d, z, (eqv_pn (h d z) hd).mpr rfl⟩
theorem cb_ok {ns : List Nat} {s : List Cho} {k : PyData → Prop} (hl : s.length ≤ 100) (he : ∀ c ∈ s, Ends40 ns.length c.2) (q : k (.tuple (cbsD ns s))) : (den_choices_between [dS s, .list (ns.map fun j => .int (j : Nat))]).okTo k := by
  unfold den_choices_between body_choices_between
  refine w_denP ?_
  walk_at "st"
  walk_at "wv"
  refine ⟨by simp, ?_⟩
  walk_at "wv"
  refine ⟨s.map dC, rfl, ?_⟩
  refine loop_ok (fun t S => S = [some (.dat (dS s)), some (.dat (.list (ns.map fun j => .int (j : Nat)))), some (.own (seenD [] ((s.take t).map (cbD ns)))), none, none, none]) ?_ ?_ rfl
  · rintro t d S hd rfl
    rw [List.getElem?_map] at hd
    obtain ⟨c, hx, rfl⟩ := Option.map_eq_some_iff.mp hd
    have em := he c (List.mem_of_getElem? hx)
    rw [show dC c = .tuple [.int c.1, .tuple (c.2.map prD)] from rfl]
    refine w_aTup rfl (w_aCons (w_aName (w_aCons (w_aName (w_aNil ?_)))))
    walk_at "wv"
    refine ⟨rfl, eb_ok em.1 em.2 ?_⟩
    walk_at "wv"
    refine ⟨by simp, ?_⟩
    walk_at "wv"
    refine w_notInO ?_
    walk_at "wv"
    have pk : ∀ z ∈ (s.take t).map (cbD ns), Pn 3 z := fun z hz => by
      obtain ⟨c', _, rfl⟩ := List.mem_map.mp hz
      exact pn_cb ns c'
    have ps := pn_seen pk
    have tk : (s.take (t + 1)).map (cbD ns) = (s.take t).map (cbD ns) ++ [cbD ns c] := by
      rw [List.take_add_one, hx, List.map_append]
      rfl
    have sl := seenD_len ((s.take t).map (cbD ns)) []
    rw [List.length_nil, List.length_map, List.length_take] at sl
    have sd : Pn 4 (.list (seenD [] ((s.take t).map (cbD ns)))) := fun d hd => ps d hd
    refine ⟨⟨pn_shaped (pn_cb ns c) (by decide), pn_shaped sd (by decide)⟩, ?_⟩
    walk_at "wv"
    have an := any_pn ps (pn_cb ns c)
    rw [tk, seenD_app]
    by_cases m : cbD ns c ∈ seenD [] ((s.take t).map (cbD ns))
    · have e := an.mpr m
      refine ifN (by rw [show ((seenD [] ((s.take t).map (cbD ns))).any fun z => z.eqv (.tuple [.int c.1, betD ns c.2])) = true from e]; decide) ?_
      rw [if_pos m]
      walk_at "wv"
    · have e := Bool.eq_false_iff.mpr fun z => m (an.mp z)
      refine ifP (by rw [show ((seenD [] ((s.take t).map (cbD ns))).any fun z => z.eqv (.tuple [.int c.1, betD ns c.2])) = false from e]; rfl) ?_
      rw [if_neg m]
      walk_at "wv"
      exact ⟨by omega, by first | trivial | rfl⟩
  · rintro S rfl
    rw [List.length_map, List.take_length]
    walk_at "wv"
    exact q

end
section
/-! ### alike states: the choices by blocks, put in order -/
open PySem L2 PySem.W
theorem alike_pairs : ∀ (ps qs : List (Int × Int)), alikeAll (ps.map fun p => PyData.tuple [.int p.1, .int p.2]) (qs.map fun p => PyData.tuple [.int p.1, .int p.2]) = true
  | [], qs => by
    unfold alikeAll
    rfl
  | p :: ps, [] => rfl
  | p :: ps, q :: qs => by
    show (alike _ _ && alikeAll (ps.map _) (qs.map _)) = true
    rw [alike_pairs ps qs]
    rfl
theorem alike_cb (ns : List Nat) (c d : Cho) : alike (cbD ns c) (cbD ns d) = true := by
  have e : ∀ es : List (Int × Int), betD ns es = .tuple (((sortP (rowR ns es)).map fun p => (p.1, Int.fdiv p.2 (gcdI 0 ((rowR ns es).map (·.2))))).map fun p => PyData.tuple [.int p.1, .int p.2]) := fun es => by
    unfold betD
    rw [List.map_map]
    rfl
  unfold cbD
  rw [e, e]
  show (alike (.int c.1) (.int d.1) && (alikeAll _ _ && alikeAll [] [])) = true
  rw [alike_pairs]
  rfl
theorem cbs_of {ns : List Nat} {s : List Cho} {k : PyData} (h : k ∈ cbsD ns s) : ∃ c ∈ s, k = cbD ns c := by
  rcases seen_from h with z | z
  · cases z
  · obtain ⟨c, hc, e⟩ := List.mem_map.mp z
    exact ⟨c, hc, e.symm⟩
/-- the choices of a state by blocks, put in order -/
noncomputable def srtD (ns : List Nat) (s : List Cho) : List PyData := (cbsD ns s).mergeSort (dataLe false id)
theorem srt_perm (ns : List Nat) (s : List Cho) : (srtD ns s).Perm (cbsD ns s) := List.mergeSort_perm _ _
open Classical in
theorem srt_ok {ns : List Nat} {s : List Cho} {k : PyData → Prop} (q : k (.list (srtD ns s))) : (gSortT [.tuple (cbsD ns s)]).okTo k := by
  unfold gSortT
  refine okTo_when.mpr ⟨⟨⟨fun d hd e he => ?_, .inl fun d hd => ?_⟩, fun d hd => ?_⟩, q⟩
  · obtain ⟨c, _, rfl⟩ := cbs_of hd
    obtain ⟨c', _, rfl⟩ := cbs_of he
    exact alike_cb ns c c'
  · obtain ⟨c, _, rfl⟩ := cbs_of hd
    exact ⟨_, _, rfl⟩
  · obtain ⟨c, _, rfl⟩ := cbs_of hd
    have := (pn_shp (pn_cb ns c)).2
    omega
/-- what a state is told by in the next round -/
noncomputable def key40 (ns : List Nat) (n : Nat) (s : List Cho) : PyData := .tuple [.int (n : Nat), .tuple (srtD ns s)]
theorem okK_map {α : Type} (f : α → PyData) : ∀ (l : List α), (∀ a ∈ l, okK (f a) = true) → okKs (l.map f) = true
  | [], _ => rfl
  | a :: l, h => by
    show (okK (f a) && okKs (l.map f)) = true
    rw [h a List.mem_cons_self, okK_map f l fun b hb => h b (List.mem_cons_of_mem _ hb)]
    rfl
theorem okKs_all : ∀ {ds : List PyData}, (∀ d ∈ ds, okK d = true) → okKs ds = true
  | [], _ => rfl
  | d :: ds, h => by
    show (okK d && okKs ds) = true
    rw [h d List.mem_cons_self, okKs_all fun b hb => h b (List.mem_cons_of_mem _ hb)]
    rfl
theorem okK_cb (ns : List Nat) (c : Cho) : okK (cbD ns c) = true := by
  show (true && (okKs _ && true)) = true
  rw [okK_map _ _ fun p _ => rfl]
  rfl
theorem okK_key (ns : List Nat) (n : Nat) (s : List Cho) : okK (key40 ns n s) = true := by
  show (true && (okKs (srtD ns s) && true)) = true
  rw [okKs_all fun d hd => by
    obtain ⟨c, _, rfl⟩ := cbs_of ((srt_perm ns s).mem_iff.mp hd)
    exact okK_cb ns c]
  rfl
theorem depth_all : ∀ {m : Nat} {ds : List PyData}, (∀ d ∈ ds, (toK d).depth ≤ m) → NestedKey.depthAll (toKs ds) ≤ m
  | m, [], _ => Nat.zero_le m
  | m, d :: ds, h => by
    show max (toK d).depth (NestedKey.depthAll (toKs ds)) ≤ m
    exact Nat.max_le.mpr ⟨h d List.mem_cons_self, depth_all fun b hb => h b (List.mem_cons_of_mem _ hb)⟩
theorem depth_tup {m : Nat} {ds : List PyData} (h : ∀ d ∈ ds, (toK d).depth ≤ m) : (toK (.tuple ds)).depth ≤ m + 1 := by
  show NestedKey.depthAll (toKs ds) + 1 ≤ m + 1
  have := depth_all h
  omega
theorem depth_cb (ns : List Nat) (c : Cho) : (toK (cbD ns c)).depth ≤ 3 := depth_tup fun d hd => by
  simp only [List.mem_cons, List.not_mem_nil, or_false] at hd
  rcases hd with rfl | rfl
  · exact Nat.zero_le _
  · refine depth_tup (m := 1) fun d hd => ?_
    obtain ⟨p, _, rfl⟩ := List.mem_map.mp hd
    refine depth_tup (m := 0) fun d hd => ?_
    simp only [List.mem_cons, List.not_mem_nil, or_false] at hd
    rcases hd with rfl | rfl <;> exact Nat.zero_le _
theorem depth_key (ns : List Nat) (n : Nat) (s : List Cho) : (toK (key40 ns n s)).depth ≤ 8 := Nat.le_trans (depth_tup (m := 4) fun d hd => by
  simp only [List.mem_cons, List.not_mem_nil, or_false] at hd
  rcases hd with rfl | rfl
  · exact Nat.zero_le _
  · refine depth_tup (m := 3) fun d hd => ?_
    obtain ⟨c, _, rfl⟩ := cbs_of ((srt_perm ns s).mem_iff.mp hd)
    exact depth_cb ns c) (by decide)

end
section
/-! ### alike states: the rounds -/
open PySem L2 PySem.W
noncomputable def kys40 (y : List (List Cho)) (ns : List Nat) : List PyData := (y.zip ns).map fun p => key40 ns p.2 p.1
noncomputable def rnd40 (y : List (List Cho)) (ns : List Nat) : List Nat := numD (kys40 y ns)
def dNs (ns : List Nat) : PyData := .list (ns.map fun j => .int (j : Nat))
theorem num_round {y : List (List Cho)} {ns : List Nat} {k : PyData → Prop} (hl : y.length ≤ 1000) (q : k (dNs (rnd40 y ns))) : (den_numbered [.list (kys40 y ns)]).okTo k := by
  refine num_ok40 ⟨⟨?_, .inr fun d hd => ?_⟩, q⟩
  · unfold kys40
    rw [List.length_map, List.length_zip]
    omega
  · obtain ⟨p, _, rfl⟩ := List.mem_map.mp hd
    exact ⟨⟨_, rfl⟩, okK_key ns p.2 p.1, depth_key ns p.2 p.1⟩
theorem num_first {gs : List Int} {k : PyData → Prop} (hl : gs.length ≤ 1000) (q : k (dNs (numD (gs.map PyData.int)))) : (den_numbered [.list (gs.map PyData.int)]).okTo k := by
  refine num_ok40 ⟨⟨by rw [List.length_map]; exact hl, .inl fun d hd => ?_⟩, q⟩
  obtain ⟨g, _, rfl⟩ := List.mem_map.mp hd
  rfl
theorem rnd_len {y : List (List Cho)} {ns : List Nat} (h : ns.length = y.length) : (rnd40 y ns).length = y.length := by
  unfold rnd40 kys40
  rw [num_len, List.length_map, List.length_zip, h, Nat.min_self]
/-- finer: alike after a round, alike ahead of it -/
theorem rnd_fine {y : List (List Cho)} {ns : List Nat} (h : ns.length = y.length) {i j : Nat} (hi : i < y.length) (hj : j < y.length) (e : (rnd40 y ns)[i]? = (rnd40 y ns)[j]?) : ns[i]? = ns[j]? := by
  have kl : (kys40 y ns).length = y.length := by
    unfold kys40
    rw [List.length_map, List.length_zip, h, Nat.min_self]
  have e2 := (num_eq (ks := kys40 y ns) (by omega) (by omega)).mp e
  have at_ : ∀ t, t < y.length → (kys40 y ns)[t]? = some (key40 ns (ns.getD t 0) (y.getD t [])) := fun t ht => by
    unfold kys40
    have e3 : (y.zip ns)[t]? = some (y.getD t [], ns.getD t 0) := by
      rw [List.getD_eq_getElem?_getD, List.getD_eq_getElem?_getD, List.getElem?_eq_getElem ht, List.getElem?_eq_getElem (show t < ns.length by omega)]
      rw [List.getElem?_eq_getElem (by rw [List.length_zip]; omega), List.getElem_zip]
      rfl
    rw [List.getElem?_map, e3]
    rfl
  rw [at_ i hi, at_ j hj] at e2
  have e4 := Option.some.inj e2
  unfold key40 at e4
  injection e4 with e4
  injection e4 with e4 _
  injection e4 with e4
  rw [List.getD_eq_getElem?_getD, List.getD_eq_getElem?_getD, List.getElem?_eq_getElem (show i < ns.length by omega), List.getElem?_eq_getElem (show j < ns.length by omega)] at e4
  rw [List.getElem?_eq_getElem (show i < ns.length by omega), List.getElem?_eq_getElem (show j < ns.length by omega)]
  congr 1
  exact Int.ofNat.inj e4

end
end Bo
/-! ### alike states: each round that changes something makes more parts -/
namespace Bo
open PySem L2 PySem.W
def parts40 (m : Nat) (ns : List Nat) : Nat := (firsts m fun i => ns.getD i 0).length
theorem parts_le (m : Nat) (ns : List Nat) : parts40 m ns ≤ m := firsts_le m _
theorem getD_eq {ns : List Nat} {i j : Nat} (hi : i < ns.length) (hj : j < ns.length) : ns.getD i 0 = ns.getD j 0 ↔ ns[i]? = ns[j]? := by
  rw [List.getD_eq_getElem?_getD, List.getD_eq_getElem?_getD, List.getElem?_eq_getElem hi, List.getElem?_eq_getElem hj]
  exact ⟨fun h => congrArg some h, fun h => Option.some.inj h⟩
theorem kys_len {y : List (List Cho)} {ns : List Nat} (h : ns.length = y.length) : (kys40 y ns).length = y.length := by
  unfold kys40
  rw [List.length_map, List.length_zip, h, Nat.min_self]
/-- nothing is split: the numbers stay -/
theorem rnd_still {y : List (List Cho)} {ks : List PyData} (h : ks.length = y.length) (st : ∀ i j, i < y.length → j < y.length → (numD ks)[i]? = (numD ks)[j]? → (rnd40 y (numD ks))[i]? = (rnd40 y (numD ks))[j]?) : rnd40 y (numD ks) = numD ks := by
  have hn : (numD ks).length = y.length := by rw [num_len, h]
  have kl := kys_len (y := y) hn
  refine (num_same (n := y.length) kl h fun i j hi hj => ?_).1
  rw [← num_eq (ks := kys40 y (numD ks)) (by omega) (by omega), ← num_eq (ks := ks) (by omega) (by omega)]
  exact ⟨rnd_fine hn hi hj, st i j hi hj⟩
/-- something is split: more parts -/
theorem rnd_more {y : List (List Cho)} {ks : List PyData} (h : ks.length = y.length) (ne : rnd40 y (numD ks) ≠ numD ks) : parts40 y.length (numD ks) < parts40 y.length (rnd40 y (numD ks)) := by
  have hn : (numD ks).length = y.length := by rw [num_len, h]
  have rl := rnd_len (y := y) hn
  have c : ¬ ∀ i j, i < y.length → j < y.length → (numD ks)[i]? = (numD ks)[j]? → (rnd40 y (numD ks))[i]? = (rnd40 y (numD ks))[j]? := fun z => ne (rnd_still h z)
  have ⟨i, c⟩ := Classical.not_forall.mp c
  have ⟨j, c⟩ := Classical.not_forall.mp c
  have ⟨hi, c⟩ := Classical.not_imp.mp c
  have ⟨hj, c⟩ := Classical.not_imp.mp c
  have ⟨e, ne2⟩ := Classical.not_imp.mp c
  refine firsts_lt (fun a b ha hb z => ?_) hi hj ((getD_eq (by omega) (by omega)).mpr e) fun z => ne2 ((getD_eq (by omega) (by omega)).mp z)
  exact (getD_eq (by omega) (by omega)).mpr (rnd_fine hn ha hb ((getD_eq (by omega) (by omega)).mp z))
end Bo

namespace Bo
open PySem L2
local macro_rules | `(tactic| walk_at "wv1") => `(tactic| (first
  | ((with_reducible refine w_var (d := ?wd) ?wh ?wq); (case wh => exact rfl))
  | with_reducible refine w_cons ?_
  | with_reducible refine w_nil ?_
  | with_reducible refine w_op ?_
  | with_reducible refine w_c ?_
  | with_reducible refine w_aName ?_
  | with_reducible refine w_seq ?_
  | with_reducible refine w_asg ?_
  | with_reducible refine w_toB ?_
  | with_reducible refine w_callP ?_
  | with_reducible refine w_tst ?_
  | with_reducible refine w_then ?_
  | with_reducible refine w_gIxT ?_
  | with_reducible refine w_call ?_
  | with_reducible refine w_ret ?_
  | with_reducible refine w_ifS ?_
  | with_reducible refine w_next ?_
  | ((with_reducible refine w_own (ds := ?wd) ?wh ?wq); (case wh => exact rfl))
  | with_reducible refine w_for ?_
  | with_reducible refine w_fr ?_
  | with_reducible refine w_lc ?_
  | with_reducible refine w_tup ?_
  | with_reducible refine w_iter ?_
  | with_reducible refine w_itFT ?_
  | with_reducible refine w_aCons ?_
  | with_reducible refine w_gIxL ?_
  | with_reducible refine w_tnot ?_
  | with_reducible refine w_pre ?_
  | ((with_reducible refine w_dic (kvs := ?wd) ?wh ?wq); (case wh => exact rfl))
  | with_reducible refine w_tor ?_
  | with_reducible refine w_range1 ?_
  | with_reducible refine w_yes ?_
  | with_reducible refine w_itTT ?_
  | with_reducible refine w_iterT ?_
  | with_reducible refine w_lst ?_
  | with_reducible refine w_toI ?_
  | with_reducible refine w_ownS ?_
  | with_reducible refine w_aTup rfl ?_
  | with_reducible refine w_aNil ?_
  | ((with_reducible refine w_frz (ds := ?wd) ?wh ?wq); (case wh => exact rfl))
  | with_reducible refine w_itT ?_
  | with_reducible refine w_callD ?_
  | with_reducible refine w_tand ?_
  | with_reducible refine w_gEqI ?_
  | with_reducible refine w_gNeI ?_
  | with_reducible refine w_gLenT ?_
  | with_reducible refine w_lstF ?_
  | with_reducible refine w_callB ?_
  | with_reducible refine w_app ?_
  | with_reducible refine w_setI ?_
  | with_reducible refine w_drop ?_
  | with_reducible refine w_gIB ?_
  | with_reducible refine w_gBools ?_
  | with_reducible refine w_and ?_
  | with_reducible refine w_isN ?_
  | with_reducible refine w_or ?_
  | with_reducible refine w_ixO ?_
  | with_reducible refine w_gI ?_
  | with_reducible refine w_gLenL ?_
  | with_reducible refine w_gTuple ?_
  | with_reducible refine w_gInts ?_
  | ((with_reducible refine w_newS (ns := ?wd) ?wh ?wq); (case wh => exact rfl))
  | with_reducible refine w_un ?_
  | with_reducible refine w_if ?_
  | with_reducible refine w_chain ?_
  | ((with_reducible refine w_callS (ns := ?wd) ?wh ?wq); (case wh => exact rfl))
  | with_reducible refine w_sl ?_
  | with_reducible refine w_noPart ?_
  | with_reducible refine w_part ?_
  | with_reducible refine w_listRg ?_
  | with_reducible refine w_enumK ?_
  | with_reducible refine w_repF ?_
  | with_reducible refine w_gIC ?_
  | with_reducible refine w_gCat ?_
  | with_reducible refine w_gCatT ?_
  | with_reducible refine w_notN ?_
  | with_reducible refine w_listF ?_
  | with_reducible refine w_neg ?_
  | with_reducible refine w_gIsB ?_
  | with_reducible refine w_not ?_
  | with_reducible refine w_tru ?_
  | with_reducible refine w_callL ?_
  | with_reducible refine w_consO ?_
  | with_reducible refine w_lenO ?_
  | with_reducible refine w_tupleO ?_
  | with_reducible refine w_listO ?_
  | with_reducible refine w_inO ?_
  | with_reducible refine w_truO ?_
  | with_reducible refine w_zipK ?_
  | with_reducible refine w_retN ?_
  | ((with_reducible refine w_aug (a := ?wd) ?wh ?wq); (case wh => exact rfl))
  | with_reducible refine w_gInL ?_
  | with_reducible refine w_gIntI ?_
  | with_reducible refine w_gRevL ?_
  | with_reducible refine w_gSlL ?_
  | with_reducible refine w_gSlT ?_
  | with_reducible refine w_itF ?_
  | with_reducible refine w_gList ?_
  | with_reducible refine w_gSortI ?_
  | with_reducible refine w_range2 ?_
  | ((with_reducible refine w_lcO (ds := ?wd) ?wh ?wq ?wr); (case wh => exact rfl); (case wq => exact rfl))
  | with_reducible refine w_aUnl rfl ?_
  | with_reducible refine w_brk ?_
  | with_reducible refine w_cnt ?_
  | with_reducible refine w_gIntB ?_
  | with_reducible refine w_getD ?_
  | with_reducible refine w_keyS ?_
  | with_reducible refine w_keyI ?_
  | with_reducible refine w_putD ?_
  | with_reducible refine w_ownCallD ?_
  | with_reducible refine w_callDF ?_
  | with_reducible refine w_gIxQL ?_
  | with_reducible refine w_gIxQT ?_
  | ((with_reducible refine w_revO (ds := ?wd) ?wh ?wq); (case wh => exact rfl))
  | ((with_reducible refine w_isNOd (d := ?wd) ?wh ?wq); (case wh => exact rfl))
  | ((with_reducible refine w_isNOo (ds := ?wd) ?wh ?wq); (case wh => exact rfl))
  | with_reducible refine w_toS ?_
  | with_reducible refine w_m0 ?_
  | with_reducible refine w_m1 ?_
  | with_reducible refine w_gIsdigit ?_
  | with_reducible refine w_gIsascii ?_
  | with_reducible refine w_gRemoveprefix ?_
  | with_reducible refine w_gPartition ?_
  | with_reducible refine w_gSplit ?_
  | with_reducible refine w_join ?_
  | with_reducible refine w_joinO ?_
  | with_reducible refine w_joinR ?_
  | with_reducible refine w_gInS ?_
  | with_reducible refine w_gIxS ?_
  | with_reducible refine w_gSlS ?_
  | with_reducible refine w_iterS ?_
  | with_reducible refine w_gRepS ?_
  | with_reducible refine w_gCatS ?_
  | with_reducible refine w_gLenS ?_
  | with_reducible refine w_gStrI ?_
  | with_reducible refine w_gIntS ?_
  | with_reducible refine w_fmt ?_
  | with_reducible refine w_toFmtS ?_
  | with_reducible refine w_toFmtI ?_
  | with_reducible refine w_joined ?_
  | with_reducible refine w_jsCons ?_
  | with_reducible refine w_jsNil ?_
  | with_reducible refine w_gMin2 ?_
  | with_reducible refine w_gEqS ?_
  | with_reducible refine w_gNeS ?_
  | simp only [wipeS, backS, List.set_cons_zero, List.set_cons_succ, List.getElem?_cons_zero, List.getElem?_cons_succ, Option.join_some, Option.join_none, Bool.not_true, Bool.not_false]))
local macro_rules | `(tactic| walk_at "wv") => `(tactic| ((repeat (walk_at "wv1"; try dsimp only)); try simp only [List.set_cons_zero, List.set_cons_succ]))
local macro_rules | `(tactic| walk_at "st") => `(tactic| simp only [startS, List.map_cons, List.map_nil, List.length_cons, List.length_nil, Nat.reduceAdd, Nat.reduceSub, List.replicate_succ, List.replicate_zero, List.cons_append, List.nil_append])

section
/-! ### alike states: block_numbers -/
open PySem L2 PySem.W
noncomputable def it40 (y : List (List Cho)) (gs : List Int) : Nat → List Nat
  | 0 => numD (gs.map PyData.int)
  | t + 1 => rnd40 y (it40 y gs t)
theorem it_num (y : List (List Cho)) {gs : List Int} (h : gs.length = y.length) : ∀ t, ∃ ks, ks.length = y.length ∧ it40 y gs t = numD ks
  | 0 => ⟨gs.map PyData.int, by rw [List.length_map, h], rfl⟩
  | t + 1 => by
    obtain ⟨ks, h1, h2⟩ := it_num y h t
    exact ⟨kys40 y (it40 y gs t), by rw [h2]; exact kys_len (by rw [num_len, h1]), rfl⟩
theorem it_len (y : List (List Cho)) {gs : List Int} (h : gs.length = y.length) (t : Nat) : (it40 y gs t).length = y.length := by
  obtain ⟨ks, h1, h2⟩ := it_num y h t
  rw [h2, num_len, h1]
open Classical in
theorem bn_ok {y : List (List Cho)} {gs : List Int} {k : PyData → Prop} (hl : y.length ≤ 100) (hg : gs.length = y.length) (hs : ∀ s ∈ y, s.length ≤ 100) (he : ∀ s ∈ y, ∀ c ∈ s, Ends40 y.length c.2)
    (q : ∀ t, rnd40 y (it40 y gs t) = it40 y gs t → k (dNs (it40 y gs t))) : (den_block_numbers [dY y, .list (gs.map PyData.int)]).okTo k := by
  unfold den_block_numbers body_block_numbers
  refine w_denP ?_
  walk_at "st"
  walk_at "wv"
  refine ⟨rfl, num_first (by omega) ?_⟩
  walk_at "wv"
  refine while_ok (fun m S => ∃ t, m = y.length - parts40 y.length (it40 y gs t) ∧ S = [some (.dat (dY y)), some (.dat (.list (gs.map PyData.int))), some (.dat (dNs (it40 y gs t))), none, none, none]) ?_ (m := y.length - parts40 y.length (it40 y gs 0)) (by unfold fuel; omega) ⟨0, rfl, rfl⟩
  rintro m S ⟨t, rfl, rfl⟩
  have nl := it_len y hg t
  obtain ⟨ks, kl, ke⟩ := it_num y hg t
  have rn : it40 y gs (t + 1) = rnd40 y (it40 y gs t) := rfl
  generalize hns : it40 y gs t = ns at nl ke rn
  walk_at "wv"
  refine ⟨dY y, dNs ns, y.map dS, ns.map (fun j => .int (j : Nat)), rfl, rfl, rfl, ?_⟩
  have zl : (zipD (y.map dS) (ns.map fun j => PyData.int (j : Nat))).length = y.length := by
    unfold zipD
    rw [List.length_map, List.length_zip, List.length_map, List.length_map, nl, Nat.min_self]
  refine ⟨⟨rfl, by rw [zl]; omega⟩, ?_⟩
  refine lc_ok (fun p acc Z => acc = (kys40 y ns).take p ∧ Z = [some (.dat (dY y)), some (.dat (.list (gs.map PyData.int))), some (.dat (dNs ns)), none, none, none]) ?_ ?_ ⟨rfl, rfl⟩
  · rintro p d acc Z hd ⟨rfl, rfl⟩
    have e0 : ∃ (c : List Cho) (n : Nat), y[p]? = some c ∧ ns[p]? = some n ∧ d = .tuple [dS c, .int (n : Nat)] := by
      unfold zipD at hd
      rw [List.getElem?_map] at hd
      obtain ⟨z, hz, rfl⟩ := Option.map_eq_some_iff.mp hd
      have hlt := (List.getElem?_eq_some_iff.mp hz).1
      rw [List.length_zip, List.length_map, List.length_map] at hlt
      rw [List.getElem?_eq_getElem (by rw [List.length_zip, List.length_map, List.length_map]; exact hlt), List.getElem_zip, List.getElem_map, List.getElem_map] at hz
      refine ⟨y[p], ns[p], List.getElem?_eq_getElem (by omega), List.getElem?_eq_getElem (by omega), ?_⟩
      rw [← Option.some.inj hz]
    obtain ⟨c, n, hc, hn, rfl⟩ := e0
    have cm := List.mem_of_getElem? hc
    refine w_aTup rfl (w_aCons (w_aName (w_aCons (w_aName (w_aNil ?_)))))
    walk_at "wv"
    refine ⟨rfl, cb_ok (hs c cm) (fun x hx => by rw [nl]; exact he c cm x hx) ?_⟩
    walk_at "wv"
    refine srt_ok ?_
    walk_at "wv"
    refine ⟨by simp, ?_, trivial⟩
    have kp : (kys40 y ns)[p]? = some (key40 ns n c) := by
      obtain ⟨l1, c1⟩ := List.getElem?_eq_some_iff.mp hc
      obtain ⟨l2, c2⟩ := List.getElem?_eq_some_iff.mp hn
      unfold kys40
      rw [List.getElem?_map, List.getElem?_eq_getElem (by rw [List.length_zip]; omega), List.getElem_zip, c1, c2]
      rfl
    rw [List.take_add_one, kp]
    rfl
  · rintro acc Z ⟨rfl, rfl⟩
    have tk : (kys40 y ns).take (zipD (y.map dS) (ns.map fun j => PyData.int (j : Nat))).length = kys40 y ns := by
      rw [zl, ← kys_len (y := y) nl]
      exact List.take_length
    rw [tk]
    walk_at "wv"
    refine ⟨rfl, num_round (by omega) ?_⟩
    walk_at "wv"
    have pn : ∀ ms : List Nat, Pn 1 (dNs ms) := fun ms => pn_map fun j _ => pn_int _
    refine okTo_eq (eq_pn (pn (rnd40 y ns)) (pn ns) (by decide) (by decide)) ?_
    walk_at "wv"
    by_cases c : rnd40 y ns = ns
    · refine ifP (decide_eq_true (by rw [c])) ?_
      walk_at "wv"
      have := q t (by rw [hns]; exact c)
      rw [hns] at this
      exact this
    · have ne : ¬ dNs (rnd40 y ns) = dNs ns := fun z => c (by
        unfold dNs at z
        injection z with z
        exact (List.map_inj_right fun a b e => by injection e with e; exact Int.ofNat.inj e).mp z)
      refine ifN (by rw [decide_eq_true_iff]; exact ne) ?_
      walk_at "wv"
      have more := rnd_more (y := y) kl (by rw [← ke]; exact c)
      rw [← ke] at more
      have le := parts_le y.length (rnd40 y ns)
      exact ⟨y.length - parts40 y.length (rnd40 y ns), by omega, t + 1, by rw [rn], by rw [rn]⟩

end
section
/-! ### alike states: blocks -/
open PySem L2 PySem.W

end
end Bo
/-! ### alike states: what is put in order tells the members alone; rows of weights tell the shares alone -/
namespace Bo
open PySem L2 PySem.W PyProof.Rows
theorem toks_eq {x y : PyData} (h : alike x y = true) (e : keyToks x = keyToks y) : PyData.eqv x y = true := by
  cases q : PyData.eqv x y with
  | true => rfl
  | false =>
    exfalso
    have z := (toks_eqv x y h).2 q [.inl 0] [.inl 1]
    rw [e, lex_pre, lex_irrefl] at z
    have : PyProof.Rows.lexLt itemOrd [.inl 0] [.inl 1] = true := by
      rw [lex_one]
      rfl
    rw [this] at z
    cases z
theorem dlt_asym {x y : PyData} (h : dataLt x y = true) : dataLt y x = false := by
  cases q : dataLt y x with
  | false => rfl
  | true =>
    have := lex_trans _ _ _ h q
    rw [lex_irrefl] at this
    cases this
theorem sort_pw (l : List PyData) : (l.mergeSort (dataLe false id)).Pairwise fun a b => dataLt b a = false := by
  have := List.pairwise_mergeSort (le := dataLe false (id : PyData → PyData)) (fun a b c h1 h2 => ?_) (fun a b => ?_) l
  · refine this.imp fun {a b} h => ?_
    have h' : (!dataLt b a) = true := h
    cases q : dataLt b a with
    | false => rfl
    | true => rw [q] at h'; cases h'
  · have h1' : (!dataLt b a) = true := h1
    have h2' : (!dataLt c b) = true := h2
    show (!dataLt c a) = true
    cases q : dataLt c a with
    | false => rfl
    | true =>
      rcases lex_negTrans (O := itemOrd) (keyToks c) (keyToks b) (keyToks a) q with z | z
      · have z' : dataLt c b = true := z
        rw [z'] at h2'
        cases h2'
      · have z' : dataLt b a = true := z
        rw [z'] at h1'
        cases h1'
  · show ((!dataLt b a) || (!dataLt a b)) = true
    cases q : dataLt b a with
    | false => rfl
    | true =>
      rw [dlt_asym q]
      rfl
theorem sort_can {l m : List PyData} {n : Nat} (hp : ∀ d ∈ l, Pn n d) (al : ∀ a ∈ l, ∀ b ∈ l, alike a b = true) (p : l.Perm m) : l.mergeSort (dataLe false id) = m.mergeSort (dataLe false id) := by
  refine List.Perm.eq_of_pairwise (le := fun a b => dataLt b a = false) (fun a b ha hb h1 h2 => ?_) (sort_pw l) (sort_pw m) ((List.mergeSort_perm _ _).trans (p.trans (List.mergeSort_perm _ _).symm))
  have ha' := (List.mergeSort_perm _ _).mem_iff.mp ha
  have hb' := p.mem_iff.mpr ((List.mergeSort_perm _ _).mem_iff.mp hb)
  exact (eqv_pn (hp a ha') (hp b hb')).mp (toks_eq (al a ha' b hb') (lex_total _ _ h2 h1))
theorem seen_nd : ∀ (ks fs : List PyData), fs.Nodup → (seenD fs ks).Nodup
  | [], fs, h => h
  | k :: ks, fs, h => by
    show (seenD (@ite _ (k ∈ fs) (Classical.propDecidable _) fs (fs ++ [k])) ks).Nodup
    refine seen_nd ks _ ?_
    by_cases c : k ∈ fs
    · rw [if_pos c]
      exact h
    · rw [if_neg c]
      exact List.nodup_append.mpr ⟨h, by simp, fun x hx y hy => by
        rw [List.mem_singleton.mp hy]
        rintro rfl
        exact c hx⟩
theorem seen_iff {ks : List PyData} {d : PyData} : d ∈ seenD [] ks ↔ d ∈ ks := ⟨fun z => (seen_from z).elim (fun y => nomatch y) id, seenD_mem ks []⟩
/-- what is put in order tells the members alone -/
theorem srtS_iff {α : Type} {n : Nat} {f : α → PyData} (hp : ∀ c, Pn n (f c)) (al : ∀ c d, alike (f c) (f d) = true) (s s' : List α) :
    (seenD [] (s.map f)).mergeSort (dataLe false id) = (seenD [] (s'.map f)).mergeSort (dataLe false id) ↔ (∀ c ∈ s, ∃ c' ∈ s', f c = f c') ∧ ∀ c ∈ s', ∃ c' ∈ s, f c = f c' := by
  have go : ∀ {s s' : List α}, (seenD [] (s.map f)).mergeSort (dataLe false id) = (seenD [] (s'.map f)).mergeSort (dataLe false id) → ∀ c ∈ s, ∃ c' ∈ s', f c = f c' := fun {s s'} e c hc => by
    have h1 : f c ∈ (seenD [] (s.map f)).mergeSort (dataLe false id) := (List.mergeSort_perm _ _).mem_iff.mpr (seen_iff.mpr (List.mem_map.mpr ⟨c, hc, rfl⟩))
    rw [e] at h1
    obtain ⟨c', h2, h3⟩ := List.mem_map.mp (seen_iff.mp ((List.mergeSort_perm _ _).mem_iff.mp h1))
    exact ⟨c', h2, h3.symm⟩
  refine ⟨fun e => ⟨go e, go e.symm⟩, fun ⟨h1, h2⟩ => ?_⟩
  have from_ : ∀ {s : List α} {d : PyData}, d ∈ seenD [] (s.map f) → ∃ c ∈ s, f c = d := fun h => List.mem_map.mp (seen_iff.mp h)
  refine sort_can (n := n) (fun d hd => ?_) (fun a ha b hb => ?_) ?_
  · obtain ⟨c, _, rfl⟩ := from_ hd
    exact hp c
  · obtain ⟨c, _, rfl⟩ := from_ ha
    obtain ⟨c', _, rfl⟩ := from_ hb
    exact al c c'
  · refine (List.perm_ext_iff_of_nodup (seen_nd _ _ List.nodup_nil) (seen_nd _ _ List.nodup_nil)).mpr fun d => ?_
    rw [seen_iff, seen_iff, List.mem_map, List.mem_map]
    constructor
    · rintro ⟨c, hc, rfl⟩
      obtain ⟨c', h3, h4⟩ := h1 c hc
      exact ⟨c', h3, h4.symm⟩
    · rintro ⟨c, hc, rfl⟩
      obtain ⟨c', h3, h4⟩ := h2 c hc
      exact ⟨c', h3, h4.symm⟩
/-! weights by blocks -/
def shr (ns : List Nat) (es : List (Int × Int)) (b : Int) : Int := (es.map fun e => if ((ns.getD e.1.toNat 0 : Nat) : Int) = b then e.2 else 0).sum
theorem atR_cons (p : Int × Int) (ps : List (Int × Int)) (b : Int) : atR (p :: ps) b = if p.1 = b then p.2 else atR ps b := by
  unfold atR
  rw [List.find?_cons]
  by_cases c : p.1 = b
  · rw [if_pos c, decide_eq_true c]
    rfl
  · rw [if_neg c, decide_eq_false c]
theorem atR_none {ps : List (Int × Int)} {b : Int} (h : b ∉ ps.map (·.1)) : atR ps b = 0 := by
  induction ps with
  | nil => rfl
  | cons p r ih =>
    rw [atR_cons, if_neg fun z => h (by rw [List.map_cons, z]; exact List.mem_cons_self), ih fun z => h (List.mem_cons_of_mem _ z)]
theorem atR_mem {ps : List (Int × Int)} (nd : (ps.map (·.1)).Nodup) {p : Int × Int} (h : p ∈ ps) : atR ps p.1 = p.2 := by
  induction ps with
  | nil => cases h
  | cons q r ih =>
    obtain ⟨n1, n2⟩ := List.nodup_cons.mp nd
    rw [atR_cons]
    rcases List.mem_cons.mp h with rfl | h
    · rw [if_pos rfl]
    · rw [if_neg fun z : q.1 = p.1 => n1 (by show q.1 ∈ _; rw [z]; exact List.mem_map.mpr ⟨p, h, rfl⟩), ih n2 h]
theorem atR_app (ps : List (Int × Int)) (q : Int × Int) (b : Int) (h : q.1 ∉ ps.map (·.1)) : atR (ps ++ [q]) b = if q.1 = b then q.2 else atR ps b := by
  induction ps with
  | nil => rw [List.nil_append, atR_cons]
  | cons p r ih =>
    rw [List.cons_append, atR_cons, atR_cons, ih fun z => h (List.mem_cons_of_mem _ z)]
    by_cases c : p.1 = b
    · rw [if_pos c, if_pos c, if_neg fun z => h (by rw [z, List.map_cons, c]; exact List.mem_cons_self)]
    · rw [if_neg c, if_neg c]
theorem atR_map (ps : List (Int × Int)) (b v c : Int) : atR (ps.map fun p => if p.1 = b then (p.1, v) else p) c = if b = c ∧ b ∈ ps.map (·.1) then v else atR ps c := by
  induction ps with
  | nil =>
    rw [List.map_nil, if_neg fun z => nomatch z.2]
  | cons p r ih =>
    rw [List.map_cons, atR_cons, atR_cons, ih]
    by_cases e : p.1 = b
    · rw [if_pos e]
      show (if p.1 = c then v else _) = _
      by_cases f : p.1 = c
      · rw [if_pos f, if_pos ⟨by rw [← e, f], by rw [List.map_cons, e]; exact List.mem_cons_self⟩]
      · have ne : ¬ b = c := fun z => f (by rw [e, z])
        rw [if_neg f, if_neg f, if_neg fun z => ne z.1, if_neg fun z => ne z.1]
    · rw [if_neg e]
      by_cases f : p.1 = c
      · rw [if_pos f, if_pos f, if_neg fun z => e (by rw [f, z.1])]
      · rw [if_neg f, if_neg f]
        by_cases g : b = c ∧ b ∈ r.map (·.1)
        · rw [if_pos g, if_pos ⟨g.1, List.mem_cons_of_mem _ g.2⟩]
        · rw [if_neg g, if_neg]
          rintro ⟨g1, g2⟩
          rcases List.mem_cons.mp g2 with z | z
          · exact e z.symm
          · exact g ⟨g1, z⟩
theorem any_keys {ps : List (Int × Int)} {b : Int} : (ps.any fun p => decide (p.1 = b)) = true ↔ b ∈ ps.map (·.1) := by
  rw [List.any_eq_true, List.mem_map]
  exact ⟨fun ⟨p, h1, h2⟩ => ⟨p, h1, of_decide_eq_true h2⟩, fun ⟨p, h1, h2⟩ => ⟨p, h1, decide_eq_true h2⟩⟩
theorem atR_put (ps : List (Int × Int)) (b v c : Int) : atR (putR ps b v) c = if b = c then v else atR ps c := by
  unfold putR
  by_cases h : (ps.any fun p => decide (p.1 = b)) = true
  · rw [if_pos h, atR_map]
    have m := any_keys.mp h
    by_cases e : b = c
    · rw [if_pos ⟨e, m⟩, if_pos e]
    · rw [if_neg fun z => e z.1, if_neg e]
  · rw [if_neg h]
    exact atR_app ps (b, v) c fun z => h (any_keys.mpr z)
theorem atR_row (ns : List Nat) (b : Int) : ∀ {n : Nat} {es : List (Int × Int)}, es.length = n → atR (rowR ns es) b = shr ns es b
  | 0, es, h => by
    rw [List.length_eq_zero_iff.mp h]
    rfl
  | n + 1, es, h => by
    obtain ⟨m, a, rfl⟩ := snoc_of h
    rw [List.length_append, List.length_singleton] at h
    have ih := fun c => atR_row ns c (es := m) (n := n) (by omega)
    rw [rowR_snoc]
    unfold stepR
    rw [atR_put, ih, ih]
    unfold shr
    rw [List.map_append, List.sum_append, List.map_singleton, List.sum_singleton]
    by_cases c : ((ns.getD a.1.toNat 0 : Nat) : Int) = b
    · rw [if_pos c, if_pos c, c]
    · rw [if_neg c, if_neg c, Int.add_zero]
theorem sum_mapR (ps : List (Int × Int)) (b v : Int) (nd : (ps.map (·.1)).Nodup) : ((ps.map fun p => if p.1 = b then (p.1, v) else p).map (·.2)).sum = if b ∈ ps.map (·.1) then (ps.map (·.2)).sum - atR ps b + v else (ps.map (·.2)).sum := by
  induction ps with
  | nil => rfl
  | cons p r ih =>
    obtain ⟨n1, n2⟩ := List.nodup_cons.mp nd
    have ih := ih n2
    rw [List.map_cons, List.map_cons, List.sum_cons, ih, List.map_cons, List.map_cons, List.sum_cons, atR_cons]
    by_cases e : p.1 = b
    · have nm : b ∉ r.map (·.1) := fun z => n1 (by show p.1 ∈ _; rw [e]; exact z)
      have mm : b ∈ p.1 :: r.map (·.1) := by rw [e]; exact List.mem_cons_self
      rw [if_pos e, if_neg nm, if_pos mm, if_pos e]
      show v + _ = _
      omega
    · rw [if_neg e, if_neg e]
      by_cases g : b ∈ r.map (·.1)
      · have mm : b ∈ p.1 :: r.map (·.1) := List.mem_cons_of_mem _ g
        rw [if_pos g, if_pos mm]
        omega
      · have mm : b ∉ p.1 :: r.map (·.1) := fun z => by
          rcases List.mem_cons.mp z with z | z
          · exact e z.symm
          · exact g z
        rw [if_neg g, if_neg mm]
theorem sum_put (ps : List (Int × Int)) (b v : Int) (nd : (ps.map (·.1)).Nodup) : ((putR ps b v).map (·.2)).sum = (ps.map (·.2)).sum - atR ps b + v := by
  unfold putR
  by_cases h : (ps.any fun p => decide (p.1 = b)) = true
  · rw [if_pos h, sum_mapR ps b v nd, if_pos (any_keys.mp h)]
  · rw [if_neg h, List.map_append, List.sum_append, atR_none fun z => h (any_keys.mpr z)]
    show (ps.map (·.2)).sum + (v + 0) = _
    omega
theorem sum_row (ns : List Nat) : ∀ {n : Nat} {es : List (Int × Int)}, es.length = n → ((rowR ns es).map (·.2)).sum = wsum es
  | 0, es, h => by
    rw [List.length_eq_zero_iff.mp h]
    rfl
  | n + 1, es, h => by
    obtain ⟨m, a, rfl⟩ := snoc_of h
    rw [List.length_append, List.length_singleton] at h
    have ih := sum_row ns (es := m) (n := n) (by omega)
    rw [rowR_snoc]
    unfold stepR
    rw [sum_put _ _ _ (rowR_nd ns rfl), ih]
    unfold wsum
    rw [List.map_append, List.sum_append, List.map_singleton, List.sum_singleton]
    omega
theorem atR_perm {ps qs : List (Int × Int)} (nd : (ps.map (·.1)).Nodup) (p : ps.Perm qs) (b : Int) : atR ps b = atR qs b := by
  by_cases c : b ∈ ps.map (·.1)
  · obtain ⟨x, hx, rfl⟩ := List.mem_map.mp c
    rw [atR_mem nd hx, atR_mem ((p.map _).nodup_iff.mp nd) (p.mem_iff.mp hx)]
  · rw [atR_none c, atR_none fun z => c ((p.map _).mem_iff.mpr z)]
theorem atR_scale (ps : List (Int × Int)) (a b : Int) : atR (ps.map fun p => (p.1, p.2 * a)) b = atR ps b * a := by
  induction ps with
  | nil =>
    show (0 : Int) = 0 * a
    rw [Int.zero_mul]
  | cons p r ih =>
    rw [List.map_cons, atR_cons, atR_cons, ih]
    by_cases c : p.1 = b
    · rw [if_pos c, if_pos c]
    · rw [if_neg c, if_neg c]
/-- rows that are alike at each place -/
theorem rows_iff {P Q : List (Int × Int)} (hP : P.Pairwise fun x y => x.1 < y.1) (hQ : Q.Pairwise fun x y => x.1 < y.1) (pP : ∀ p ∈ P, 1 ≤ p.2) (pQ : ∀ p ∈ Q, 1 ≤ p.2) {a c : Int} (ha : 0 < a) (hc : 0 < c) :
    P.map (fun p => (p.1, p.2 * a)) = Q.map (fun p => (p.1, p.2 * c)) ↔ ∀ b, atR P b * a = atR Q b * c := by
  refine ⟨fun e b => by rw [← atR_scale, ← atR_scale, e], fun h => ?_⟩
  have ndk : ∀ {P : List (Int × Int)}, P.Pairwise (fun x y => x.1 < y.1) → (P.map (·.1)).Nodup := fun h => List.pairwise_map.mpr (h.imp fun z => by omega)
  have pw : ∀ {P : List (Int × Int)} (a : Int), P.Pairwise (fun x y => x.1 < y.1) → (P.map fun p => (p.1, p.2 * a)).Pairwise fun x y => x.1 < y.1 := fun a h => List.pairwise_map.mpr h
  have nd : ∀ {P : List (Int × Int)}, P.Pairwise (fun x y => x.1 < y.1) → P.Nodup := fun h => h.imp fun {x y} z e => by rw [e] at z; omega
  have go : ∀ {P Q : List (Int × Int)} {a c : Int}, P.Pairwise (fun x y => x.1 < y.1) → Q.Pairwise (fun x y => x.1 < y.1) → (∀ p ∈ P, 1 ≤ p.2) → 0 < a → 0 < c → (∀ b, atR P b * a = atR Q b * c) → ∀ x ∈ P.map (fun p => (p.1, p.2 * a)), x ∈ Q.map (fun p => (p.1, p.2 * c)) := fun {P Q a c} hP hQ pP ha hc h x hx => by
    obtain ⟨p, hp, rfl⟩ := List.mem_map.mp hx
    have e := h p.1
    rw [atR_mem (ndk hP) hp] at e
    have pos : 0 < p.2 * a := Int.mul_pos (by have := pP p hp; omega) ha
    by_cases m : p.1 ∈ Q.map (·.1)
    · obtain ⟨q, hq, eq⟩ := List.mem_map.mp m
      refine List.mem_map.mpr ⟨q, hq, ?_⟩
      have e2 := atR_mem (ndk hQ) hq
      have eq' : q.1 = p.1 := eq
      rw [eq'] at e2
      rw [e2] at e
      show (q.1, q.2 * c) = (p.1, p.2 * a)
      rw [e, eq']
    · rw [atR_none m, Int.zero_mul] at e
      omega
  refine List.Perm.eq_of_pairwise (le := fun x y : Int × Int => x.1 < y.1) (fun x y _ _ h1 h2 => absurd h1 (by omega)) (pw a hP) (pw c hQ) ?_
  exact (List.perm_ext_iff_of_nodup (nd (pw a hP)) (nd (pw c hQ))).mpr fun x => ⟨go hP hQ pP ha hc h x, go hQ hP pQ hc ha (fun b => (h b).symm) x⟩
end Bo

/-! ### alike states: lowest terms and shares tell the same choices apart -/
namespace Bo
open PySem L2 PySem.W
/-- a choice as the law tells it -/
def lawE (ns : List Nat) (es : List (Int × Int)) : PyData := .tuple ((sortP (rowR ns es)).map fun p => .tuple [.int p.1, dQ (Rat.divInt p.2 (wsum es))])
def lrD (ns : List Nat) (c : Cho) : PyData := .tuple [.int c.1, lawE ns c.2]
theorem pairs_iff {α β γ δ : Type} (f : α → γ) (g : α → δ) (f' : β → γ) (g' : β → δ) : ∀ (l : List α) (m : List β), l.map (fun p => (f p, g p)) = m.map (fun p => (f' p, g' p)) ↔ l.map f = m.map f' ∧ l.map g = m.map g'
  | [], [] => ⟨fun _ => ⟨rfl, rfl⟩, fun _ => rfl⟩
  | [], _ :: _ => ⟨fun h => (nomatch h), fun h => (nomatch h.1)⟩
  | _ :: _, [] => ⟨fun h => (nomatch h), fun h => (nomatch h.1)⟩
  | a :: l, b :: m => by
    simp only [List.map_cons, List.cons.injEq, Prod.mk.injEq, pairs_iff f g f' g' l m]
    constructor
    · rintro ⟨⟨a, b⟩, c, d⟩
      exact ⟨⟨a, c⟩, b, d⟩
    · rintro ⟨⟨a, c⟩, b, d⟩
      exact ⟨⟨a, b⟩, c, d⟩
theorem maps_iff {α β γ δ : Type} {f : α → γ} {f' : β → γ} {g : α → δ} {g' : β → δ} (h : ∀ a b, f a = f' b ↔ g a = g' b) : ∀ (l : List α) (m : List β), l.map f = m.map f' ↔ l.map g = m.map g'
  | [], [] => ⟨fun _ => rfl, fun _ => rfl⟩
  | [], _ :: _ => ⟨fun h => (nomatch h), fun h => (nomatch h)⟩
  | _ :: _, [] => ⟨fun h => (nomatch h), fun h => (nomatch h)⟩
  | a :: l, b :: m => by
    simp only [List.map_cons, List.cons.injEq, h a b, maps_iff h l m]
theorem tups_iff {α β γ : Type} {h : γ → PyData} (hi : ∀ a b, h a = h b → a = b) (f : α → Int) (g : α → γ) (f' : β → Int) (g' : β → γ) (l : List α) (m : List β) :
    PyData.tuple (l.map fun p => .tuple [.int (f p), h (g p)]) = .tuple (m.map fun p => .tuple [.int (f' p), h (g' p)]) ↔ l.map f = m.map f' ∧ l.map g = m.map g' := by
  rw [← pairs_iff]
  have inj : ∀ a b : Int × γ, PyData.tuple [.int a.1, h a.2] = .tuple [.int b.1, h b.2] → a = b := by
    rintro ⟨a1, a2⟩ ⟨b1, b2⟩ z
    injection z with z
    injection z with z1 z2
    injection z1 with z1
    injection z2 with z2 _
    have z1' : a1 = b1 := z1
    rw [z1', hi a2 b2 z2]
  have e1 : ∀ {α : Type} (f : α → Int) (g : α → γ) (l : List α), (l.map fun p => PyData.tuple [.int (f p), h (g p)]) = (l.map fun p => (f p, g p)).map fun a => PyData.tuple [.int a.1, h a.2] := fun f g l => by
    rw [List.map_map]
    rfl
  rw [e1 f g l, e1 f' g' m]
  constructor
  · intro e
    injection e with e
    exact (List.map_inj_right inj).mp e
  · intro e
    rw [e]
theorem gcdI_N : ∀ (ws : List Int) (g : Nat), gcdI (g : Nat) ws = (((ws.map Int.natAbs).foldl Nat.gcd g : Nat) : Int)
  | [], g => rfl
  | w :: ws, g => by
    show gcdI ((Nat.gcd (g : Int).natAbs w.natAbs : Nat) : Int) ws = _
    rw [gcdI_N ws]
    rfl
def natW (P : List (Int × Int)) : List Nat := P.map fun p => p.2.toNat
theorem natW_abs {P : List (Int × Int)} (h : ∀ p ∈ P, 1 ≤ p.2) : (P.map (·.2)).map Int.natAbs = natW P := by
  unfold natW
  rw [List.map_map]
  refine List.map_congr_left fun p hp => ?_
  have := h p hp
  show p.2.natAbs = p.2.toNat
  omega
theorem natW_sum : ∀ {P : List (Int × Int)}, (∀ p ∈ P, 1 ≤ p.2) → (((natW P).sum : Nat) : Int) = (P.map (·.2)).sum
  | [], _ => rfl
  | p :: P, h => by
    have ih := natW_sum fun q hq => h q (List.mem_cons_of_mem _ hq)
    have h1 := h p List.mem_cons_self
    show (((p.2.toNat + (natW P).sum : Nat)) : Int) = p.2 + (P.map (·.2)).sum
    rw [← ih]
    omega
/-- the row of a choice's ends, put in order -/
def srow (ns : List Nat) (es : List (Int × Int)) : List (Int × Int) := sortP (rowR ns es)
theorem srow_rise (ns : List Nat) (es : List (Int × Int)) : (srow ns es).Pairwise fun x y => x.1 < y.1 := sortP_rise (rowR_nd ns rfl)
theorem srow_pos {ns : List Nat} {es : List (Int × Int)} (h : ∀ e ∈ es, 1 ≤ e.2) : ∀ p ∈ srow ns es, 1 ≤ p.2 := fun p hp => rowR_pos ns rfl h p ((sortP_perm _).mem_iff.mp hp)
theorem srow_at (ns : List Nat) (es : List (Int × Int)) (b : Int) : atR (srow ns es) b = shr ns es b := by
  unfold srow
  rw [← atR_perm (rowR_nd ns rfl) (sortP_perm _).symm, atR_row ns b rfl]
theorem perm_sumI {a b : List Int} (p : a.Perm b) : a.sum = b.sum := by
  induction p with
  | nil => rfl
  | cons x _ ih => rw [List.sum_cons, List.sum_cons, ih]
  | swap x y l =>
    rw [List.sum_cons, List.sum_cons, List.sum_cons, List.sum_cons]
    omega
  | trans _ _ h1 h2 => rw [h1, h2]
theorem srow_sum (ns : List Nat) (es : List (Int × Int)) : ((srow ns es).map (·.2)).sum = wsum es := by
  rw [← sum_row ns (es := es) rfl]
  exact perm_sumI ((sortP_perm _).map _)
theorem wsum_pos40 {es : List (Int × Int)} (ne : es ≠ []) (h : ∀ e ∈ es, 1 ≤ e.2) : 0 < wsum es := by
  have ge : ∀ {es : List (Int × Int)}, (∀ e ∈ es, 1 ≤ e.2) → 0 ≤ wsum es := fun {es} h => by
    induction es with
    | nil => exact Int.le_refl _
    | cons e r ih =>
      have := ih fun x hx => h x (List.mem_cons_of_mem _ hx)
      have := h e List.mem_cons_self
      show 0 ≤ e.2 + wsum r
      omega
  cases es with
  | nil => exact absurd rfl ne
  | cons e r =>
    have := ge fun x hx => h x (List.mem_cons_of_mem _ hx)
    have := h e List.mem_cons_self
    show 0 < e.2 + wsum r
    omega
theorem bet_rows {ns : List Nat} {es : List (Int × Int)} (h : ∀ e ∈ es, 1 ≤ e.2) : (srow ns es).map (fun p => Int.fdiv p.2 (gcdI 0 ((rowR ns es).map (·.2)))) = (lowN (natW (srow ns es))).map fun x : Nat => (x : Int) := by
  have g : gcdI 0 ((rowR ns es).map (·.2)) = ((gcdN (natW (srow ns es)) : Nat) : Int) := by
    have := gcdI_N ((rowR ns es).map (·.2)) 0
    rw [show ((0 : Nat) : Int) = 0 from rfl] at this
    rw [this, natW_abs (rowR_pos ns rfl h)]
    congr 1
    exact gcdN_perm (((sortP_perm _).symm).map _)
  rw [g]
  unfold lowN natW
  rw [List.map_map, List.map_map]
  refine List.map_congr_left fun p hp => ?_
  have := srow_pos h p hp
  show Int.fdiv p.2 _ = ((p.2.toNat / _ : Nat) : Int)
  rw [Int.fdiv_eq_ediv_of_nonneg _ (Int.natCast_nonneg _), Int.natCast_ediv, Int.toNat_of_nonneg (by omega)]
theorem bet_iff {ns : List Nat} {es fs : List (Int × Int)} (ne : es ≠ []) (he : ∀ e ∈ es, 1 ≤ e.2) (hf : ∀ e ∈ fs, 1 ≤ e.2) :
    betD ns es = betD ns fs ↔ (srow ns es).map (·.1) = (srow ns fs).map (·.1) ∧ (srow ns es).map (fun p => p.2 * wsum fs) = (srow ns fs).map (fun p => p.2 * wsum es) := by
  have b := tups_iff (h := PyData.int) (fun a b e => by injection e) (fun p : Int × Int => p.1) (fun p : Int × Int => Int.fdiv p.2 (gcdI 0 ((rowR ns es).map (·.2)))) (fun p : Int × Int => p.1) (fun p : Int × Int => Int.fdiv p.2 (gcdI 0 ((rowR ns fs).map (·.2)))) (srow ns es) (srow ns fs)
  refine b.trans (and_congr_right fun ek => ?_)
  rw [bet_rows he, bet_rows hf]
  have pe := srow_pos (ns := ns) he
  have pf := srow_pos (ns := ns) hf
  have pn : ∀ {P : List (Int × Int)}, (∀ p ∈ P, 1 ≤ p.2) → ∀ w ∈ natW P, 0 < w := fun h w hw => by
    obtain ⟨p, hp, rfl⟩ := List.mem_map.mp hw
    have := h p hp
    show 0 < p.2.toNat
    omega
  have nn : natW (srow ns es) ≠ [] := fun z => by
    have s0 := srow_sum ns es
    have z' : srow ns es = [] := List.map_eq_nil_iff.mp z
    rw [z'] at s0
    have := wsum_pos40 ne he
    rw [← s0] at this
    exact absurd this (by decide)
  have c : (lowN (natW (srow ns es))).map (fun x : Nat => (x : Int)) = (lowN (natW (srow ns fs))).map (fun x : Nat => (x : Int)) ↔ lowN (natW (srow ns es)) = lowN (natW (srow ns fs)) := ⟨fun e => (List.map_inj_right fun a b e => Int.ofNat.inj e).mp e, fun e => by rw [e]⟩
  rw [c, low_iff nn (pn pe) (pn pf)]
  have up : ∀ {P Q : List (Int × Int)}, (∀ p ∈ P, 1 ≤ p.2) → (∀ p ∈ Q, 1 ≤ p.2) → P.map (fun p => p.2 * (Q.map (·.2)).sum) = ((natW P).map (· * (natW Q).sum)).map fun x : Nat => (x : Int) := fun {P Q} hP hQ => by
    rw [← natW_sum hQ]
    unfold natW
    rw [List.map_map, List.map_map]
    refine List.map_congr_left fun p hp => ?_
    have := hP p hp
    show p.2 * _ = ((p.2.toNat * _ : Nat) : Int)
    rw [Int.natCast_mul, Int.toNat_of_nonneg (by omega)]
  have u1 := up pe pf
  have u2 := up pf pe
  rw [srow_sum] at u1 u2
  rw [u1, u2]
  have kl : (natW (srow ns es)).length = (natW (srow ns fs)).length := by
    have := congrArg List.length ek
    unfold natW
    simpa using this
  exact ⟨fun h => by rw [h.2], fun h => ⟨kl, (List.map_inj_right fun a b e => Int.ofNat.inj e).mp h⟩⟩
theorem law_iff {ns : List Nat} {es fs : List (Int × Int)} (ne : es ≠ []) (nf : fs ≠ []) (he : ∀ e ∈ es, 1 ≤ e.2) (hf : ∀ e ∈ fs, 1 ≤ e.2) :
    lawE ns es = lawE ns fs ↔ (srow ns es).map (·.1) = (srow ns fs).map (·.1) ∧ (srow ns es).map (fun p => p.2 * wsum fs) = (srow ns fs).map (fun p => p.2 * wsum es) := by
  have b := tups_iff (h := dQ) (fun _ _ e => dQ_inj e) (fun p : Int × Int => p.1) (fun p : Int × Int => Rat.divInt p.2 (wsum es)) (fun p : Int × Int => p.1) (fun p : Int × Int => Rat.divInt p.2 (wsum fs)) (srow ns es) (srow ns fs)
  refine b.trans (and_congr_right fun _ => maps_iff (fun p q => ?_) _ _)
  have := wsum_pos40 ne he
  have := wsum_pos40 nf hf
  exact Rat.divInt_eq_divInt_iff (by omega) (by omega)
theorem mid_iff {ns : List Nat} {es fs : List (Int × Int)} (ne : es ≠ []) (nf : fs ≠ []) (he : ∀ e ∈ es, 1 ≤ e.2) (hf : ∀ e ∈ fs, 1 ≤ e.2) :
    ((srow ns es).map (·.1) = (srow ns fs).map (·.1) ∧ (srow ns es).map (fun p => p.2 * wsum fs) = (srow ns fs).map (fun p => p.2 * wsum es)) ↔ ∀ b, shr ns es b * wsum fs = shr ns fs b * wsum es := by
  rw [← pairs_iff, rows_iff (srow_rise ns es) (srow_rise ns fs) (srow_pos he) (srow_pos hf) (wsum_pos40 nf hf) (wsum_pos40 ne he)]
  exact ⟨fun h b => by rw [← srow_at, ← srow_at]; exact h b, fun h b => by rw [srow_at, srow_at]; exact h b⟩
/-! names that tell the same parts -/
def al40 (m : Nat) (ns ms : List Nat) : Prop := ∀ i j, i < m → j < m → (ns[i]? = ns[j]? ↔ ms[i]? = ms[j]?)
theorem shr_al {m : Nat} {ns ms : List Nat} {es : List (Int × Int)} (hn : ns.length = m) (hm : ms.length = m) (h : al40 m ns ms) (he : ∀ e ∈ es, 0 ≤ e.1 ∧ e.1 < (m : Int)) {i : Nat} (hi : i < m) : shr ns es ((ns.getD i 0 : Nat) : Int) = shr ms es ((ms.getD i 0 : Nat) : Int) := by
  unfold shr
  congr 1
  refine List.map_congr_left fun e hx => ?_
  have ⟨e1, e2⟩ := he e hx
  have lt : e.1.toNat < m := by omega
  have q : ((ns.getD e.1.toNat 0 : Nat) : Int) = ((ns.getD i 0 : Nat) : Int) ↔ ((ms.getD e.1.toNat 0 : Nat) : Int) = ((ms.getD i 0 : Nat) : Int) := by
    rw [Int.ofNat_inj, Int.ofNat_inj, getD_eq (by omega) (by omega), getD_eq (by omega) (by omega)]
    exact h _ _ lt hi
  by_cases c : ((ns.getD e.1.toNat 0 : Nat) : Int) = ((ns.getD i 0 : Nat) : Int)
  · rw [if_pos c, if_pos (q.mp c)]
  · rw [if_neg c, if_neg fun z => c (q.mpr z)]
theorem shr_zero {ns : List Nat} {es : List (Int × Int)} {b : Int} (h : ∀ e ∈ es, ((ns.getD e.1.toNat 0 : Nat) : Int) ≠ b) : shr ns es b = 0 := by
  unfold shr
  induction es with
  | nil => rfl
  | cons e r ih =>
    rw [List.map_cons, List.sum_cons, ih fun x hx => h x (List.mem_cons_of_mem _ hx), if_neg (h e List.mem_cons_self)]
    rfl
theorem shr_all {m : Nat} {ns : List Nat} {es fs : List (Int × Int)} {a c : Int} (he : ∀ e ∈ es, 0 ≤ e.1 ∧ e.1 < (m : Int)) (hf : ∀ e ∈ fs, 0 ≤ e.1 ∧ e.1 < (m : Int)) :
    (∀ b, shr ns es b * a = shr ns fs b * c) ↔ ∀ i, i < m → shr ns es ((ns.getD i 0 : Nat) : Int) * a = shr ns fs ((ns.getD i 0 : Nat) : Int) * c := by
  refine ⟨fun h i _ => h _, fun h b => ?_⟩
  by_cases x : ∃ i, i < m ∧ ((ns.getD i 0 : Nat) : Int) = b
  · obtain ⟨i, hi, rfl⟩ := x
    exact h i hi
  · have z : ∀ {es : List (Int × Int)}, (∀ e ∈ es, 0 ≤ e.1 ∧ e.1 < (m : Int)) → shr ns es b = 0 := fun he => shr_zero fun e hx z => x ⟨e.1.toNat, by have := he e hx; omega, z⟩
    rw [z he, z hf, Int.zero_mul, Int.zero_mul]
def Ends41 (m : Nat) (es : List (Int × Int)) : Prop := Ends40 m es ∧ es ≠ []
theorem cho_iff {m : Nat} {ns ms : List Nat} {c d : Cho} (hn : ns.length = m) (hm : ms.length = m) (h : al40 m ns ms) (hc : Ends41 m c.2) (hd : Ends41 m d.2) : cbD ns c = cbD ns d ↔ lrD ms c = lrD ms d := by
  have one : ∀ {c : Cho}, Ends41 m c.2 → (∀ e ∈ c.2, 1 ≤ e.2) ∧ ∀ e ∈ c.2, 0 ≤ e.1 ∧ e.1 < (m : Int) := fun h => ⟨fun e hx => (h.1.2 e hx).2.2.1, fun e hx => ⟨(h.1.2 e hx).1, (h.1.2 e hx).2.1⟩⟩
  have e1 : betD ns c.2 = betD ns d.2 ↔ lawE ms c.2 = lawE ms d.2 := by
    rw [bet_iff hc.2 (one hc).1 (one hd).1, mid_iff hc.2 hd.2 (one hc).1 (one hd).1, law_iff hc.2 hd.2 (one hc).1 (one hd).1, mid_iff hc.2 hd.2 (one hc).1 (one hd).1, shr_all (one hc).2 (one hd).2, shr_all (one hc).2 (one hd).2]
    refine forall_congr' fun i => forall_congr' fun hi => ?_
    rw [shr_al hn hm h (one hc).2 hi, shr_al hn hm h (one hd).2 hi]
  have split : ∀ (a b : PyData), PyData.tuple [.int c.1, a] = .tuple [.int d.1, b] ↔ c.1 = d.1 ∧ a = b := fun a b => by
    constructor
    · intro z
      injection z with z
      injection z with z1 z2
      injection z1 with z1
      injection z2 with z2 _
      exact ⟨z1, z2⟩
    · rintro ⟨z1, z2⟩
      rw [z1, z2]
  unfold cbD lrD
  rw [split, split, e1]
end Bo

/-! ### alike states: the law's rounds tell the same parts as the program's -/
namespace Bo
open PySem L2 PySem.W
noncomputable def sgtD (ns : List Nat) (s : List Cho) : List PyData := (seenD [] (s.map (lrD ns))).mergeSort (dataLe false id)
noncomputable def lkD (ns : List Nat) (n : Nat) (s : List Cho) : PyData := .tuple [.int (n : Nat), .list (sgtD ns s)]
noncomputable def lkys (y : List (List Cho)) (ns : List Nat) : List PyData := (y.zip ns).map fun p => lkD ns p.2 p.1
noncomputable def fstD (ks : List PyData) : List Nat := ks.map (posD ks)
noncomputable def lrn40 (y : List (List Cho)) (ns : List Nat) : List Nat := fstD (lkys y ns)
theorem pn_lr (ns : List Nat) (c : Cho) : Pn 4 (lrD ns c) := by
  intro d hd
  simp only [List.mem_cons, List.not_mem_nil, or_false] at hd
  rcases hd with rfl | rfl
  · exact pn_int _
  · refine pn_mapT fun p _ => ?_
    intro d hd
    simp only [List.mem_cons, List.not_mem_nil, or_false] at hd
    rcases hd with rfl | rfl
    · exact pn_int _
    · exact pn_Q _
theorem alike_lr (ns : List Nat) (c d : Cho) : alike (lrD ns c) (lrD ns d) = true := by
  have go : ∀ (ps qs : List (Int × Int)) (a b : Int), alikeAll (ps.map fun p => PyData.tuple [.int p.1, dQ (Rat.divInt p.2 a)]) (qs.map fun p => PyData.tuple [.int p.1, dQ (Rat.divInt p.2 b)]) = true := by
    intro ps
    induction ps with
    | nil =>
      intro qs a b
      rw [List.map_nil]
      unfold alikeAll
      rfl
    | cons p ps ih =>
      intro qs a b
      cases qs with
      | nil => rfl
      | cons q qs =>
        show (alike _ _ && alikeAll (ps.map _) (qs.map _)) = true
        rw [ih qs a b]
        unfold dQ
        simp [alike, alikeAll]
  show (alike (.int c.1) (.int d.1) && (alikeAll _ _ && alikeAll [] [])) = true
  rw [go]
  rfl
theorem zip_at {α β : Type} {y : List α} {ns : List β} {m : Nat} (hy : y.length = m) (hn : ns.length = m) {t : Nat} (ht : t < m) (a : α) (b : β) : (y.zip ns)[t]? = some (y.getD t a, ns.getD t b) := by
  rw [List.getD_eq_getElem?_getD, List.getD_eq_getElem?_getD, List.getElem?_eq_getElem (show t < y.length by omega), List.getElem?_eq_getElem (show t < ns.length by omega)]
  rw [List.getElem?_eq_getElem (by rw [List.length_zip]; omega), List.getElem_zip]
  rfl
theorem fst_eq {ks : List PyData} {i j : Nat} (hi : i < ks.length) (hj : j < ks.length) : (fstD ks)[i]? = (fstD ks)[j]? ↔ ks[i]? = ks[j]? := by
  unfold fstD
  rw [List.getElem?_map, List.getElem?_map, List.getElem?_eq_getElem hi, List.getElem?_eq_getElem hj]
  constructor
  · intro h
    have h' : posD ks ks[i] = posD ks ks[j] := Option.some.inj h
    rw [posD_inj (List.getElem_mem hi) (List.getElem_mem hj) h']
  · intro h
    rw [Option.some.inj h]
theorem fst_len (ks : List PyData) : (fstD ks).length = ks.length := by
  unfold fstD
  rw [List.length_map]
theorem lkys_len {y : List (List Cho)} {ns : List Nat} (h : ns.length = y.length) : (lkys y ns).length = y.length := by
  unfold lkys
  rw [List.length_map, List.length_zip, h, Nat.min_self]
def Sys41 (y : List (List Cho)) : Prop := ∀ s ∈ y, ∀ c ∈ s, Ends41 y.length c.2
theorem rnd_al {y : List (List Cho)} (hy : Sys41 y) {ns ms : List Nat} (hn : ns.length = y.length) (hm : ms.length = y.length) (h : al40 y.length ns ms) : al40 y.length (rnd40 y ns) (lrn40 y ms) := by
  intro i j hi hj
  have k1 := kys_len (y := y) hn
  have k2 := lkys_len (y := y) hm
  unfold rnd40 lrn40
  rw [num_eq (by omega) (by omega), fst_eq (by omega) (by omega)]
  have a1 : ∀ t, t < y.length → (kys40 y ns)[t]? = some (key40 ns (ns.getD t 0) (y.getD t [])) := fun t ht => by
    unfold kys40
    rw [List.getElem?_map, zip_at rfl hn ht [] 0]
    rfl
  have a2 : ∀ t, t < y.length → (lkys y ms)[t]? = some (lkD ms (ms.getD t 0) (y.getD t [])) := fun t ht => by
    unfold lkys
    rw [List.getElem?_map, zip_at rfl hm ht [] 0]
    rfl
  rw [a1 i hi, a1 j hj, a2 i hi, a2 j hj, Option.some_inj, Option.some_inj]
  have mem : ∀ t, t < y.length → y.getD t [] ∈ y := fun t ht => by
    rw [List.getD_eq_getElem?_getD, List.getElem?_eq_getElem ht]
    exact List.getElem_mem ht
  have hc : ∀ t, t < y.length → ∀ c ∈ y.getD t [], Ends41 y.length c.2 := fun t ht c hx => hy _ (mem t ht) c hx
  generalize hsi : y.getD i [] = si
  generalize hsj : y.getD j [] = sj
  have ci := hc i hi
  have cj := hc j hj
  rw [hsi] at ci
  rw [hsj] at cj
  have e1 : key40 ns (ns.getD i 0) si = key40 ns (ns.getD j 0) sj ↔ ns.getD i 0 = ns.getD j 0 ∧ srtD ns si = srtD ns sj := by
    unfold key40
    constructor
    · intro z
      injection z with z
      injection z with z1 z2
      injection z1 with z1
      injection z2 with z2 _
      injection z2 with z2
      exact ⟨Int.ofNat.inj z1, z2⟩
    · rintro ⟨z1, z2⟩
      rw [z1, z2]
  have e2 : lkD ms (ms.getD i 0) si = lkD ms (ms.getD j 0) sj ↔ ms.getD i 0 = ms.getD j 0 ∧ sgtD ms si = sgtD ms sj := by
    unfold lkD
    constructor
    · intro z
      injection z with z
      injection z with z1 z2
      injection z1 with z1
      injection z2 with z2 _
      injection z2 with z2
      exact ⟨Int.ofNat.inj z1, z2⟩
    · rintro ⟨z1, z2⟩
      rw [z1, z2]
  have e3 : srtD ns si = srtD ns sj ↔ sgtD ms si = sgtD ms sj := by
    refine (srtS_iff (f := cbD ns) (pn_cb ns) (alike_cb ns) si sj).trans (Iff.trans ?_ (srtS_iff (f := lrD ms) (pn_lr ms) (alike_lr ms) si sj).symm)
    have q : ∀ {c d : Cho}, Ends41 y.length c.2 → Ends41 y.length d.2 → (cbD ns c = cbD ns d ↔ lrD ms c = lrD ms d) := fun a b => cho_iff hn hm h a b
    constructor
    · rintro ⟨h1, h2⟩
      exact ⟨fun c hx => by obtain ⟨d, hd, e⟩ := h1 c hx; exact ⟨d, hd, (q (ci c hx) (cj d hd)).mp e⟩, fun c hx => by obtain ⟨d, hd, e⟩ := h2 c hx; exact ⟨d, hd, (q (cj c hx) (ci d hd)).mp e⟩⟩
    · rintro ⟨h1, h2⟩
      exact ⟨fun c hx => by obtain ⟨d, hd, e⟩ := h1 c hx; exact ⟨d, hd, (q (ci c hx) (cj d hd)).mpr e⟩, fun c hx => by obtain ⟨d, hd, e⟩ := h2 c hx; exact ⟨d, hd, (q (cj c hx) (ci d hd)).mpr e⟩⟩
  rw [e1, e2, e3, getD_eq (by omega) (by omega), getD_eq (by omega) (by omega), h i j hi hj]
noncomputable def lit40 (y : List (List Cho)) (gs : List Int) : Nat → List Nat
  | 0 => fstD (gs.map PyData.int)
  | t + 1 => lrn40 y (lit40 y gs t)
theorem lit_len (y : List (List Cho)) {gs : List Int} (h : gs.length = y.length) : ∀ t, (lit40 y gs t).length = y.length
  | 0 => by
    show (fstD _).length = _
    rw [fst_len, List.length_map, h]
  | t + 1 => by
    show (fstD _).length = _
    rw [fst_len, lkys_len (lit_len y h t)]
theorem lit_fst (y : List (List Cho)) {gs : List Int} (h : gs.length = y.length) : ∀ t, ∃ ls, ls.length = y.length ∧ lit40 y gs t = fstD ls
  | 0 => ⟨_, by rw [List.length_map, h], rfl⟩
  | t + 1 => ⟨_, lkys_len (lit_len y h t), rfl⟩
theorem it_al {y : List (List Cho)} (hy : Sys41 y) {gs : List Int} (h : gs.length = y.length) : ∀ t, al40 y.length (it40 y gs t) (lit40 y gs t)
  | 0 => fun i j hi hj => by
    show (numD _)[i]? = (numD _)[j]? ↔ (fstD _)[i]? = (fstD _)[j]?
    have : (gs.map PyData.int).length = y.length := by rw [List.length_map, h]
    rw [num_eq (by omega) (by omega), fst_eq (by omega) (by omega)]
  | t + 1 => rnd_al hy (it_len y h t) (lit_len y h t) (it_al hy h t)
theorem it_stay {y : List (List Cho)} {gs : List Int} {t : Nat} (h : rnd40 y (it40 y gs t) = it40 y gs t) : ∀ k, it40 y gs (t + k) = it40 y gs t
  | 0 => rfl
  | k + 1 => by
    show rnd40 y (it40 y gs (t + k)) = _
    rw [it_stay h k, h]
/-- where nothing changes, what is told is what stands there after as many rounds as there are states -/
theorem it_end {y : List (List Cho)} {gs : List Int} (hg : gs.length = y.length) {t : Nat} (h : rnd40 y (it40 y gs t) = it40 y gs t) : it40 y gs t = it40 y gs y.length := by
  have fin : rnd40 y (it40 y gs y.length) = it40 y gs y.length := by
    have fe := fine_end (m := y.length) (fun t i => (it40 y gs t).getD i 0) (fun t i j hi hj e => ?_) (fun t st i j hi hj e => ?_)
    · obtain ⟨ks, kl, ke⟩ := it_num y hg y.length
      have nl := it_len y hg y.length
      have nl1 := it_len y hg (y.length + 1)
      have nl2 := rnd_len (y := y) nl
      rw [ke]
      refine rnd_still kl fun i j hi hj e => ?_
      rw [← ke] at e ⊢
      have := fe i j hi hj ((getD_eq (by omega) (by omega)).mpr e)
      exact (getD_eq (by omega) (by omega)).mp this
    · have nl := it_len y hg t
      have nl1 := it_len y hg (t + 1)
      have nl2 := rnd_len (y := y) nl
      exact (getD_eq (by omega) (by omega)).mpr (rnd_fine nl hi hj ((getD_eq (by omega) (by omega)).mp e))
    · obtain ⟨ks, kl, ke⟩ := it_num y hg t
      have nl := it_len y hg t
      have nl1 := it_len y hg (t + 1)
      have nl2 := rnd_len (y := y) nl
      have s0 : rnd40 y (numD ks) = numD ks := rnd_still kl fun i j hi hj e => by
        rw [← ke] at e ⊢
        have := st i j hi hj ((getD_eq (by omega) (by omega)).mpr e)
        exact (getD_eq (by omega) (by omega)).mp this
      rw [← ke] at s0
      have s1 := it_stay s0 1
      have s2 := it_stay s0 2
      show (it40 y gs (t + 2)).getD i 0 = (it40 y gs (t + 2)).getD j 0
      rw [s2, ← s1]
      exact e
  rcases Nat.le_total t y.length with c | c
  · obtain ⟨k, rfl'⟩ := Nat.exists_eq_add_of_le c
    rw [rfl', it_stay h k]
  · obtain ⟨k, rfl'⟩ := Nat.exists_eq_add_of_le c
    rw [rfl', it_stay fin k]
/-! the lists of the blocks -/
def finD (ms : List Nat) : PyData := .list (((List.range ms.length).filter fun k => decide (ms[k]? = some k)).map fun k => .list (((List.range ms.length).filter fun j => decide (ms[j]? = some k)).map fun s => .int (s : Nat)))
theorem posD_lt : ∀ {fs : List PyData} {d : PyData}, d ∈ fs → posD fs d < fs.length
  | f :: fs, d, h => by
    by_cases c : f = d
    · have : posD (f :: fs) d = 0 := if_pos c
      rw [this, List.length_cons]
      omega
    · have : posD (f :: fs) d = posD fs d + 1 := if_neg c
      rw [this, List.length_cons]
      have := posD_lt (fs := fs) (d := d) (by rcases List.mem_cons.mp h with z | z; exact absurd z.symm c; exact z)
      omega
theorem posD_at40 : ∀ {fs : List PyData} {d : PyData} {j : Nat}, fs[j]? = some d → posD fs d ≤ j
  | f :: fs, d, j, h => by
    by_cases c : f = d
    · have : posD (f :: fs) d = 0 := if_pos c
      omega
    · have : posD (f :: fs) d = posD fs d + 1 := if_neg c
      cases j with
      | zero => exact absurd (Option.some.inj h) c
      | succ j =>
        have := posD_at40 (fs := fs) (d := d) (j := j) h
        omega
theorem firsts_num : ∀ {n : Nat} {ks : List PyData}, ks.length = n → (firsts n fun i => (numD ks).getD i 0).map (fun i => (numD ks).getD i 0) = List.range (seenD [] ks).length
  | 0, ks, h => by
    rw [List.length_eq_zero_iff.mp h]
    rfl
  | n + 1, ks, h => by
    obtain ⟨ks', k, rfl⟩ := snoc_of h
    have hk : ks'.length = n := by rw [List.length_append, List.length_singleton] at h; omega
    have ih := firsts_num hk
    have nl : (numD ks').length = n := by rw [num_len, hk]
    have e0 := num_app ks' k
    have lo : ∀ i, i < n → (numD (ks' ++ [k])).getD i 0 = (numD ks').getD i 0 := fun i hi => by
      rw [e0, List.getD_eq_getElem?_getD, List.getElem?_append_left (by omega), ← List.getD_eq_getElem?_getD]
    have hi' : (numD (ks' ++ [k])).getD n 0 = posD (seenD [] (ks' ++ [k])) k := by
      rw [e0, List.getD_eq_getElem?_getD, snoc_at nl]
      rfl
    have fe : (firsts (n + 1) fun i => (numD (ks' ++ [k])).getD i 0) = (firsts n fun i => (numD ks').getD i 0) ++ (if ((List.range n).all fun j => decide ((numD (ks' ++ [k])).getD j 0 ≠ (numD (ks' ++ [k])).getD n 0)) = true then [n] else []) := by
      unfold firsts
      rw [List.range_succ, List.filter_append]
      rw [show ([n].filter fun i => (List.range i).all fun j => decide ((numD (ks' ++ [k])).getD j 0 ≠ (numD (ks' ++ [k])).getD i 0)) = (if ((List.range n).all fun j => decide ((numD (ks' ++ [k])).getD j 0 ≠ (numD (ks' ++ [k])).getD n 0)) = true then [n] else []) from by rw [List.filter_cons, List.filter_nil]]
      congr 1
      refine List.filter_congr fun i hx => ?_
      have il := List.mem_range.mp hx
      rw [Bool.eq_iff_iff, first_iff, first_iff]
      constructor
      · intro z j hj
        have := z j hj
        rwa [lo j (by omega), lo i il] at this
      · intro z j hj
        rw [lo j (by omega), lo i il]
        exact z j hj
    have mp : (firsts n fun i => (numD ks').getD i 0).map (fun i => (numD (ks' ++ [k])).getD i 0) = List.range (seenD [] ks').length := by
      rw [← ih]
      refine List.map_congr_left fun i hx => lo i ?_
      exact List.mem_range.mp (List.mem_filter.mp hx).1
    rw [fe, List.map_append, mp]
    have num : ∀ j (hj : j < n), (numD ks').getD j 0 = posD (seenD [] ks') ks'[j] := fun j hj => by
      unfold numD
      rw [List.getD_eq_getElem?_getD, List.getElem?_map, List.getElem?_eq_getElem (by omega)]
      rfl
    by_cases c : k ∈ ks'
    · have sd : seenD [] (ks' ++ [k]) = seenD [] ks' := by
        rw [seenD_app, if_pos (seen_iff.mpr c)]
      obtain ⟨j, hj, ej⟩ := List.getElem_of_mem c
      have nf : ((List.range n).all fun j => decide ((numD (ks' ++ [k])).getD j 0 ≠ (numD (ks' ++ [k])).getD n 0)) = false := by
        refine Bool.eq_false_iff.mpr fun z => ?_
        refine first_iff.mp z j (by omega) ?_
        rw [lo j (by omega), hi', sd, num j (by omega), ej]
      rw [if_neg (by rw [nf]; exact Bool.false_ne_true), List.map_nil, List.append_nil, sd]
    · have sd : seenD [] (ks' ++ [k]) = seenD [] ks' ++ [k] := by
        rw [seenD_app, if_neg fun z => c (seen_iff.mp z)]
      have nf : ((List.range n).all fun j => decide ((numD (ks' ++ [k])).getD j 0 ≠ (numD (ks' ++ [k])).getD n 0)) = true := by
        refine first_iff.mpr fun j hj z => ?_
        rw [lo j hj, hi', sd, posD_app_new (fun z => c (seen_iff.mp z)), num j hj] at z
        have := posD_lt (fs := seenD [] ks') (seen_iff.mpr (List.getElem_mem (show j < ks'.length by omega)))
        omega
      rw [if_pos nf, List.map_singleton, hi', sd, posD_app_new (fun z => c (seen_iff.mp z)), List.length_append, List.length_singleton, List.range_succ]
theorem top_num {ks : List PyData} (ne : ks ≠ []) : topN (numD ks) + 1 = (seenD [] ks).length := by
  have nn : numD ks ≠ [] := fun z => ne (List.map_eq_nil_iff.mp z)
  obtain ⟨h1, h2⟩ := topN_le nn
  have lt : ∀ j ∈ numD ks, j < (seenD [] ks).length := fun j hj => by
    obtain ⟨k, hk, rfl⟩ := List.mem_map.mp hj
    exact posD_lt (seen_iff.mpr hk)
  have l1 := lt _ h2
  have fn := firsts_num (ks := ks) rfl
  have m : (seenD [] ks).length - 1 ∈ List.range (seenD [] ks).length := List.mem_range.mpr (by omega)
  rw [← fn] at m
  obtain ⟨i, hi, e⟩ := List.mem_map.mp m
  have il : i < ks.length := List.mem_range.mp (List.mem_filter.mp hi).1
  have il2 : i < (numD ks).length := by rw [num_len]; exact il
  have : (numD ks).getD i 0 ∈ numD ks := by
    rw [List.getD_eq_getElem?_getD, List.getElem?_eq_getElem il2]
    exact List.getElem_mem il2
  have e' : (numD ks).getD i 0 = (seenD [] ks).length - 1 := e
  rw [e'] at this
  have := h1 _ this
  omega
/-- the program's blocks and the law's -/
theorem blocks_same {m : Nat} {ks ls : List PyData} (hk : ks.length = m) (hl : ls.length = m) (ne : 0 < m) (h : al40 m (numD ks) (fstD ls)) : memD (numD ks) (topN (numD ks) + 1) = finD (fstD ls) := by
  have kne : ks ≠ [] := fun z => by rw [z] at hk; exact absurd hk (by rw [List.length_nil]; omega)
  have nl : (numD ks).length = m := by rw [num_len, hk]
  have ml : (fstD ls).length = m := by rw [fst_len, hl]
  unfold memD finD
  rw [top_num kne, ← firsts_num hk, List.map_map, nl, ml]
  have fq : (firsts m fun i => (numD ks).getD i 0) = (List.range m).filter fun k => decide ((fstD ls)[k]? = some k) := by
    unfold firsts
    refine List.filter_congr fun k hx => ?_
    have km := List.mem_range.mp hx
    rw [Bool.eq_iff_iff, first_iff, decide_eq_true_iff]
    have ek : (fstD ls)[k]? = some (posD ls ls[k]) := by
      unfold fstD
      rw [List.getElem?_map, List.getElem?_eq_getElem (by omega)]
      rfl
    constructor
    · intro z
      rw [ek]
      congr 1
      have le := posD_at40 (fs := ls) (j := k) (List.getElem?_eq_getElem (by omega))
      rcases Nat.lt_or_ge (posD ls ls[k]) k with lt | ge
      · exfalso
        have g := posD_get (fs := ls) (List.getElem_mem (show k < ls.length by omega))
        have e2 : ls[posD ls ls[k]]? = ls[k]? := by rw [g, List.getElem?_eq_getElem (show k < ls.length by omega)]
        have e3 := (fst_eq (ks := ls) (by omega) (by omega)).mpr e2
        have e4 := (h _ _ (by omega) km).mpr e3
        exact z _ lt ((getD_eq (by omega) (by omega)).mpr e4)
      · omega
    · intro z j hj e
      have e3 := (h j k (by omega) km).mp ((getD_eq (by omega) (by omega)).mp e)
      have e2 := (fst_eq (ks := ls) (by omega) (by omega)).mp e3
      rw [ek] at z
      have := Option.some.inj z
      have le := posD_at40 (fs := ls) (d := ls[k]) (j := j) (by rw [e2, List.getElem?_eq_getElem (show k < ls.length by omega)])
      omega
  rw [fq]
  congr 1
  refine List.map_congr_left fun k hx => ?_
  obtain ⟨hx, kk⟩ := List.mem_filter.mp hx
  have km := List.mem_range.mp hx
  have kk := of_decide_eq_true kk
  show PyData.list _ = PyData.list _
  congr 2
  refine List.filter_congr fun j hj => ?_
  have jm := List.mem_range.mp hj
  rw [decide_eq_decide, ← kk, ← h j k jm km]
  show (numD ks)[j]? = some ((numD ks).getD k 0) ↔ _
  rw [List.getD_eq_getElem?_getD, List.getElem?_eq_getElem (show k < (numD ks).length by omega)]
  rfl
theorem blocks_law {y : List (List Cho)} (hy : Sys41 y) {gs : List Int} (hg : gs.length = y.length) (ne : y ≠ []) {t : Nat} (h : rnd40 y (it40 y gs t) = it40 y gs t) : memD (it40 y gs t) (topN (it40 y gs t) + 1) = finD (lit40 y gs y.length) := by
  rw [it_end hg h]
  obtain ⟨ks, kl, ke⟩ := it_num y hg y.length
  obtain ⟨ls, ll, le⟩ := lit_fst y hg y.length
  have al := it_al hy hg y.length
  rw [ke, le] at al ⊢
  exact blocks_same kl ll (List.length_pos_iff.mpr ne) al
end Bo

namespace Bo
open PySem L2
local macro_rules | `(tactic| walk_at "wv1") => `(tactic| (first
  | ((with_reducible refine w_var (d := ?wd) ?wh ?wq); (case wh => exact rfl))
  | with_reducible refine w_cons ?_
  | with_reducible refine w_nil ?_
  | with_reducible refine w_op ?_
  | with_reducible refine w_c ?_
  | with_reducible refine w_aName ?_
  | with_reducible refine w_seq ?_
  | with_reducible refine w_asg ?_
  | with_reducible refine w_toB ?_
  | with_reducible refine w_callP ?_
  | with_reducible refine w_tst ?_
  | with_reducible refine w_then ?_
  | with_reducible refine w_gIxT ?_
  | with_reducible refine w_call ?_
  | with_reducible refine w_ret ?_
  | with_reducible refine w_ifS ?_
  | with_reducible refine w_next ?_
  | ((with_reducible refine w_own (ds := ?wd) ?wh ?wq); (case wh => exact rfl))
  | with_reducible refine w_for ?_
  | with_reducible refine w_fr ?_
  | with_reducible refine w_lc ?_
  | with_reducible refine w_tup ?_
  | with_reducible refine w_iter ?_
  | with_reducible refine w_itFT ?_
  | with_reducible refine w_aCons ?_
  | with_reducible refine w_gIxL ?_
  | with_reducible refine w_tnot ?_
  | with_reducible refine w_pre ?_
  | ((with_reducible refine w_dic (kvs := ?wd) ?wh ?wq); (case wh => exact rfl))
  | with_reducible refine w_tor ?_
  | with_reducible refine w_range1 ?_
  | with_reducible refine w_yes ?_
  | with_reducible refine w_itTT ?_
  | with_reducible refine w_iterT ?_
  | with_reducible refine w_lst ?_
  | with_reducible refine w_toI ?_
  | with_reducible refine w_ownS ?_
  | with_reducible refine w_aTup rfl ?_
  | with_reducible refine w_aNil ?_
  | ((with_reducible refine w_frz (ds := ?wd) ?wh ?wq); (case wh => exact rfl))
  | with_reducible refine w_itT ?_
  | with_reducible refine w_callD ?_
  | with_reducible refine w_tand ?_
  | with_reducible refine w_gEqI ?_
  | with_reducible refine w_gNeI ?_
  | with_reducible refine w_gLenT ?_
  | with_reducible refine w_lstF ?_
  | with_reducible refine w_callB ?_
  | with_reducible refine w_app ?_
  | with_reducible refine w_setI ?_
  | with_reducible refine w_drop ?_
  | with_reducible refine w_gIB ?_
  | with_reducible refine w_gBools ?_
  | with_reducible refine w_and ?_
  | with_reducible refine w_isN ?_
  | with_reducible refine w_or ?_
  | with_reducible refine w_ixO ?_
  | with_reducible refine w_gI ?_
  | with_reducible refine w_gLenL ?_
  | with_reducible refine w_gTuple ?_
  | with_reducible refine w_gInts ?_
  | ((with_reducible refine w_newS (ns := ?wd) ?wh ?wq); (case wh => exact rfl))
  | with_reducible refine w_un ?_
  | with_reducible refine w_if ?_
  | with_reducible refine w_chain ?_
  | ((with_reducible refine w_callS (ns := ?wd) ?wh ?wq); (case wh => exact rfl))
  | with_reducible refine w_sl ?_
  | with_reducible refine w_noPart ?_
  | with_reducible refine w_part ?_
  | with_reducible refine w_listRg ?_
  | with_reducible refine w_enumK ?_
  | with_reducible refine w_repF ?_
  | with_reducible refine w_gIC ?_
  | with_reducible refine w_gCat ?_
  | with_reducible refine w_gCatT ?_
  | with_reducible refine w_notN ?_
  | with_reducible refine w_listF ?_
  | with_reducible refine w_neg ?_
  | with_reducible refine w_gIsB ?_
  | with_reducible refine w_not ?_
  | with_reducible refine w_tru ?_
  | with_reducible refine w_callL ?_
  | with_reducible refine w_consO ?_
  | with_reducible refine w_lenO ?_
  | with_reducible refine w_tupleO ?_
  | with_reducible refine w_listO ?_
  | with_reducible refine w_inO ?_
  | with_reducible refine w_truO ?_
  | with_reducible refine w_zipK ?_
  | with_reducible refine w_retN ?_
  | ((with_reducible refine w_aug (a := ?wd) ?wh ?wq); (case wh => exact rfl))
  | with_reducible refine w_gInL ?_
  | with_reducible refine w_gIntI ?_
  | with_reducible refine w_gRevL ?_
  | with_reducible refine w_gSlL ?_
  | with_reducible refine w_gSlT ?_
  | with_reducible refine w_itF ?_
  | with_reducible refine w_gList ?_
  | with_reducible refine w_gSortI ?_
  | with_reducible refine w_range2 ?_
  | ((with_reducible refine w_lcO (ds := ?wd) ?wh ?wq ?wr); (case wh => exact rfl); (case wq => exact rfl))
  | with_reducible refine w_aUnl rfl ?_
  | with_reducible refine w_brk ?_
  | with_reducible refine w_cnt ?_
  | with_reducible refine w_gIntB ?_
  | with_reducible refine w_getD ?_
  | with_reducible refine w_keyS ?_
  | with_reducible refine w_keyI ?_
  | with_reducible refine w_putD ?_
  | with_reducible refine w_ownCallD ?_
  | with_reducible refine w_callDF ?_
  | with_reducible refine w_gIxQL ?_
  | with_reducible refine w_gIxQT ?_
  | ((with_reducible refine w_revO (ds := ?wd) ?wh ?wq); (case wh => exact rfl))
  | ((with_reducible refine w_isNOd (d := ?wd) ?wh ?wq); (case wh => exact rfl))
  | ((with_reducible refine w_isNOo (ds := ?wd) ?wh ?wq); (case wh => exact rfl))
  | with_reducible refine w_toS ?_
  | with_reducible refine w_m0 ?_
  | with_reducible refine w_m1 ?_
  | with_reducible refine w_gIsdigit ?_
  | with_reducible refine w_gIsascii ?_
  | with_reducible refine w_gRemoveprefix ?_
  | with_reducible refine w_gPartition ?_
  | with_reducible refine w_gSplit ?_
  | with_reducible refine w_join ?_
  | with_reducible refine w_joinO ?_
  | with_reducible refine w_joinR ?_
  | with_reducible refine w_gInS ?_
  | with_reducible refine w_gIxS ?_
  | with_reducible refine w_gSlS ?_
  | with_reducible refine w_iterS ?_
  | with_reducible refine w_gRepS ?_
  | with_reducible refine w_gCatS ?_
  | with_reducible refine w_gLenS ?_
  | with_reducible refine w_gStrI ?_
  | with_reducible refine w_gIntS ?_
  | with_reducible refine w_fmt ?_
  | with_reducible refine w_toFmtS ?_
  | with_reducible refine w_toFmtI ?_
  | with_reducible refine w_joined ?_
  | with_reducible refine w_jsCons ?_
  | with_reducible refine w_jsNil ?_
  | with_reducible refine w_gMin2 ?_
  | with_reducible refine w_gEqS ?_
  | with_reducible refine w_gNeS ?_
  | simp only [wipeS, backS, List.set_cons_zero, List.set_cons_succ, List.getElem?_cons_zero, List.getElem?_cons_succ, Option.join_some, Option.join_none, Bool.not_true, Bool.not_false]))
local macro_rules | `(tactic| walk_at "wv") => `(tactic| ((repeat (walk_at "wv1"; try dsimp only)); try simp only [List.set_cons_zero, List.set_cons_succ]))
local macro_rules | `(tactic| walk_at "st") => `(tactic| simp only [startS, List.map_cons, List.map_nil, List.length_cons, List.length_nil, Nat.reduceAdd, Nat.reduceSub, List.replicate_succ, List.replicate_zero, List.cons_append, List.nil_append])

section
/-! ### quotients: a common divisor, and weights that are too great -/
open PySem L2
structure Eu0 (g : Nat) (P : Nat) (i : Nat) (a b : Int) : Prop where
  a0 : 0 ≤ a
  b0 : 0 ≤ b
  gc : Int.gcd a b = g
  pr : 0 < i → a < b ∨ a = 0
  fall : a.toNat * b.toNat * 2 ^ (i - 1) ≤ P
  pos : 0 < i → 0 < b
theorem Eu0.step {g P i : Nat} {a b : Int} (e : Eu0 g P i a b) (h : a ≠ 0) : Eu0 g P (i + 1) (b.fmod a) a := by
  obtain ⟨a0, b0, gc, pr, fall, pos⟩ := e
  have ha : 0 < a := by omega
  have em : b.fmod a = b % a := Int.fmod_eq_emod_of_nonneg b (by omega)
  rw [em]
  have m0 := Int.emod_nonneg b h
  have m1 := Int.emod_lt_of_pos b ha
  refine ⟨m0, a0, ?_, fun _ => .inl m1, ?_, fun _ => ha⟩
  · rw [← gc]
    exact gcd_mod0 a b
  · show (b % a).toNat * a.toNat * 2 ^ i ≤ P
    refine Nat.le_trans ?_ fall
    cases i with
    | zero =>
      show (b % a).toNat * a.toNat * 1 ≤ a.toNat * b.toNat * 1
      rw [Nat.mul_one, Nat.mul_one, Nat.mul_comm]
      have hle : b % a ≤ b := by
        by_cases hb : b < a
        · rw [Int.emod_eq_of_lt (by omega) hb]
          exact Int.le_refl _
        · omega
      exact Nat.mul_le_mul_left _ (by omega)
    | succ j =>
      have hab : a < b := by
        rcases pr (by omega) with z | z
        · exact z
        · exact absurd z h
      have hq : a + b % a ≤ b := by
        have h1 := Int.mul_ediv_add_emod b a
        have h2 : 1 ≤ b / a := Int.le_ediv_of_mul_le ha (by omega)
        have h3 : a * 1 ≤ a * (b / a) := Int.mul_le_mul_of_nonneg_left h2 (by omega)
        omega
      have h2 : 2 * (b % a).toNat ≤ b.toNat := by omega
      show (b % a).toNat * a.toNat * 2 ^ (j + 1) ≤ a.toNat * b.toNat * 2 ^ j
      rw [Nat.pow_succ, ← Nat.mul_assoc, Nat.mul_right_comm _ _ 2]
      refine Nat.mul_le_mul_right _ ?_
      rw [Nat.mul_comm ((b % a).toNat * a.toNat) 2, ← Nat.mul_assoc, Nat.mul_comm (2 * (b % a).toNat)]
      exact Nat.mul_le_mul_left _ h2
theorem Eu0.done {g P i : Nat} {a b : Int} (e : Eu0 g P i a b) (hi : 0 < i) (h : P < 2 ^ (i - 1)) : a = 0 := by
  have pos := e.pos hi
  obtain ⟨a0, b0, gc, pr, fall, _⟩ := e
  by_cases ha : a = 0
  · exact ha
  · exfalso
    have h1 : 1 ≤ a.toNat * b.toNat := Nat.mul_pos (by omega) (by omega)
    have h2 := Nat.mul_le_mul_right (2 ^ (i - 1)) h1
    omega
theorem Eu0.zero {g P i : Nat} {a b : Int} (e : Eu0 g P i a b) (h : a = 0) : b = (g : Int) := by
  obtain ⟨a0, b0, gc, pr, fall, _⟩ := e
  subst h
  rw [Int.gcd_zero_left] at gc
  omega
theorem gcdI_le41 {N : Int} (hN : 0 ≤ N) : ∀ {ws : List Int} {g : Int}, 0 ≤ g → g ≤ N → (∀ w ∈ ws, 0 ≤ w ∧ w ≤ N) → 0 ≤ gcdI g ws ∧ gcdI g ws ≤ N
  | [], g, h0, h1, _ => ⟨h0, h1⟩
  | w :: ws, g, h0, h1, h => by
    have hw := h w List.mem_cons_self
    have gN : ((Nat.gcd g.natAbs w.natAbs : Nat) : Int) ≤ N := by
      by_cases z : w.natAbs = 0
      · rw [z, Nat.gcd_zero_right]
        omega
      · have := Nat.le_of_dvd (by omega) (Nat.gcd_dvd_right g.natAbs w.natAbs)
        omega
    show 0 ≤ gcdI ((Nat.gcd g.natAbs w.natAbs : Nat) : Int) ws ∧ gcdI ((Nat.gcd g.natAbs w.natAbs : Nat) : Int) ws ≤ N
    exact gcdI_le41 hN (ws := ws) (Int.natCast_nonneg _) gN fun x hx => h x (List.mem_cons_of_mem _ hx)
theorem gcdI_snoc (ws : List Int) (w g : Int) : gcdI g (ws ++ [w]) = ((Nat.gcd (gcdI g ws).natAbs w.natAbs : Nat) : Int) := by
  unfold gcdI
  rw [List.foldl_append]
  rfl
theorem common_ok {ws : List Int} {k : PyData → Prop} (hl : ws.length ≤ 1000) (hw : ∀ w ∈ ws, 0 ≤ w ∧ w ≤ 1000000) (q : k (.int (gcdI 0 ws))) : (den_l_common [.list (ws.map PyData.int)]).okTo k := by
  unfold den_l_common body_l_common
  refine w_denP ?_
  walk_at "st"
  walk_at "wv"
  refine ⟨_, rfl, ?_⟩
  refine loop_ok (fun t S => S = [some (.dat (.list (ws.map PyData.int))), some (.dat (.int (gcdI 0 (ws.take t)))), none, none, none, none, none]) ?_ ?_ rfl
  · rintro t d S hd rfl
    rw [List.getElem?_map] at hd
    obtain ⟨w, hx, rfl⟩ := Option.map_eq_some_iff.mp hd
    have hw0 := hw w (List.mem_of_getElem? hx)
    have hc := gcdI_le41 (N := 1000000) (by decide) (ws := ws.take t) (g := 0) (Int.le_refl _) (by decide) fun x hx => hw x (List.mem_of_mem_take hx)
    have next : gcdI 0 (ws.take (t + 1)) = ((Int.gcd (gcdI 0 (ws.take t)) w : Nat) : Int) := by
      rw [List.take_add_one, hx]
      exact gcdI_snoc _ _ _
    rw [next]
    generalize gcdI 0 (ws.take t) = c at hc
    walk_at "wv"
    refine ⟨100, rfl, by decide, ?_⟩
    have fin : ∀ {i : Nat} {a b : Int}, Eu0 (Int.gcd c w) (c.natAbs * w.natAbs) i a b → a = 0 → b = ((Int.gcd c w : Nat) : Int) := fun e z => e.zero z
    refine loop_ok (fun i S => ∃ (a b : Int), Eu0 (Int.gcd c w) (c.natAbs * w.natAbs) i a b ∧ S = [some (.dat (.list (ws.map PyData.int))), none, none, some (.dat (.int a)), some (.dat (.int b)), none, none]) ?_ ?_ ⟨c, w, ⟨hc.1, hw0.1, rfl, fun z => absurd z (by decide), ?_, fun z => absurd z (by decide)⟩, rfl⟩
    · rintro i di S hi ⟨a, b, hE, rfl⟩
      walk_at "wv"
      by_cases z : a = 0
      · rw [decide_eq_true z]
        have hb := fin hE z
        subst hb
        walk_at "wv"
      · rw [decide_eq_false z]
        walk_at "wv"
        refine ⟨cMod_ok z, ?_⟩
        walk_at "wv"
        exact ⟨_, _, hE.step z, rfl⟩
    · rintro S ⟨a, b, hE, rfl⟩
      rw [rangeD_len] at hE
      have z := hE.done (by decide) (by
        show c.natAbs * w.natAbs < 2 ^ 99
        have h1 : c.natAbs * w.natAbs ≤ 1000000 * 1000000 := Nat.mul_le_mul (by omega) (by omega)
        exact Nat.lt_of_le_of_lt h1 (by decide))
      have hb := fin hE z
      subst hb
      walk_at "wv"
    · show c.toNat * w.toNat * 1 ≤ _
      rw [Nat.mul_one, show c.toNat = c.natAbs from by omega, show w.toNat = w.natAbs from by omega]
      exact Nat.le_refl _
  · rintro S rfl
    rw [List.length_map, List.take_length]
    walk_at "wv"
    exact q

end
section
/-! ### alike states: drawn systems -/
open PySem L2
theorem w_denBU {N : Nat} {fs : VS} {bs ds : List PyData} {k : PyData × List PyData → Prop} (h : (fs (some (.own bs) :: startS (N - 1) ds)).okTo fun fl => match fl with
    | .nx S => ∃ cs, S.head? = some (some (.own cs)) ∧ k (.none, cs)
    | .rt d S => ∃ cs, S.head? = some (some (.own cs)) ∧ k (d, cs)
    | _ => False) : (denB N fs bs ds).okTo k := by
  unfold denB endB
  refine okTo_bind.mpr (h.mono fun fl q => ?_)
  cases fl with
  | nx S =>
    obtain ⟨cs, e, q⟩ := q
    cases S with
    | nil => cases e
    | cons x S => cases e; exact q
  | rt d S =>
    obtain ⟨cs, e, q⟩ := q
    cases S with
    | nil => cases e
    | cons x S => cases e; exact q
  | bk S => exact q.elim
  | ct S => exact q.elim
/-- a row of choices whose ends are among m states, of weights up to w -/
def Row4 (m q b : Nat) (w : Int) (s : List Cho) : Prop := s ≠ [] ∧ s.length ≤ q ∧ ∀ c ∈ s, (0 ≤ c.1 ∧ c.1 ≤ 1000) ∧ c.2 ≠ [] ∧ c.2.length ≤ b ∧ ∀ e ∈ c.2, 0 ≤ e.1 ∧ e.1 < (m : Int) ∧ 1 ≤ e.2 ∧ e.2 ≤ w
def Sy4 (q b : Nat) (w : Int) (y : List (List Cho)) : Prop := y ≠ [] ∧ ∀ s ∈ y, Row4 y.length q b w s
theorem split_ok {ts : List Int} {n w : Int} {a c : Nat} {bs : List PyData} {k : PyData × List PyData → Prop} (b : Box ts n bs) (hn : n ≤ 2 ^ 39) (hw : 1 ≤ w ∧ w ≤ 400) (hc : 1 ≤ c ∧ c ≤ 2)
    (h : ∀ (ps : List (Int × Int)) bs', ps.length ≤ 2 → (∀ p ∈ ps, (a : Int) ≤ p.1 ∧ p.1 < (a : Int) + (c : Nat) ∧ 0 ≤ p.2 ∧ p.2 ≤ 800) → (∃ p ∈ ps, 1 ≤ p.2) → Box ts (n + 1) bs' → k (.list (ps.map prD), bs')) : (den_l_split bs [.int w, .list (rangeD (a : Int) c)]).okTo k := by
  unfold den_l_split body_l_split
  refine w_denBU ?_
  walk_at "st"
  walk_at "wv"
  rw [rangeD_len]
  have h01 : c = 1 ∨ c = 2 := by omega
  rcases h01 with rfl | rfl
  · refine ifP (by decide) ?_
    walk_at "wv"
    refine okTo_eq (a := .int (a : Nat)) (by show R.ok (PyData.int ((a : Int) + ((0 : Nat) : Int))) = _; rw [show ((a : Int) + ((0 : Nat) : Int)) = (a : Int) from by omega]) ?_
    walk_at "wv"
    refine ⟨cMulS_l (by decide), ?_⟩
    walk_at "wv"
    refine ⟨by simp, by simp, _, rfl, ?_⟩
    refine h [((a : Int), 2 * w)] bs (by simp) (fun p hp => ?_) ⟨_, List.mem_singleton.mpr rfl, by show 1 ≤ 2 * w; omega⟩ (b.up (by omega))
    rw [List.mem_singleton.mp hp]
    dsimp only
    omega
  · refine ifN (by decide) ?_
    walk_at "wv"
    refine ⟨cMulS_l (by decide), ?_⟩
    walk_at "wv"
    refine ⟨rfl, take_ok b (by omega) (by omega) fun r bs1 r0 r1 b1 => ?_⟩
    walk_at "wv"
    refine okTo_eq (a := .int (a : Nat)) (by show R.ok (PyData.int ((a : Int) + ((0 : Nat) : Int))) = _; rw [show ((a : Int) + ((0 : Nat) : Int)) = (a : Int) from by omega]) ?_
    walk_at "wv"
    refine ⟨by simp, ?_⟩
    walk_at "wv"
    refine okTo_eq (a := .int ((a : Int) + ((1 : Nat) : Int))) rfl ?_
    walk_at "wv"
    refine ⟨cMulS_l (by decide), ?_⟩
    walk_at "wv"
    refine ⟨by simp, by simp, _, rfl, ?_⟩
    refine h [((a : Int), r), ((a : Int) + ((1 : Nat) : Int), 2 * w - r)] bs1 (by simp) (fun p hp => ?_) ?_ b1
    · simp only [List.mem_cons, List.not_mem_nil, or_false] at hp
      rcases hp with rfl | rfl <;> dsimp only <;> omega
    · by_cases z : 1 ≤ r
      · exact ⟨_, List.mem_cons_self, z⟩
      · exact ⟨_, List.mem_cons_of_mem _ (List.mem_singleton.mpr rfl), by show 1 ≤ 2 * w - r; omega⟩
theorem light_ok {ts : List Int} {n : Int} {bs : List PyData} {k : PyData × List PyData → Prop} (b : Box ts n bs) (hn : n ≤ 2 ^ 36)
    (h : ∀ (y : List (List Cho)) bs', Sy4 3 3 400 y → y.length ≤ 3 → Box ts (n + 10000) bs' → k (dY y, bs')) : (den_l_light bs []).okTo k := by
  unfold den_l_light body_l_light
  refine w_denBU ?_
  walk_at "st"
  walk_at "wv"
  refine ⟨rfl, system_ok b (by omega) (by decide) fun y bs1 hy yl b1 => ?_⟩
  walk_at "wv"
  refine ⟨by simp, ?_⟩
  walk_at "wv"
  refine ⟨y.map dS, rfl, ?_⟩
  have y3 : y.length ≤ 3 := by omega
  let lc : Cho → Cho := fun c => (Int.fmod c.1 3, c.2.map fun e => (e.1, if 400 < e.2 then 400 else e.2))
  refine loop_ok (fun t S => S = [some (.own bs1), some (.dat (dY y)), some (.own ((y.take t).map fun s => dS (s.map lc))), none, none, none, none]) ?_ ?_ rfl
  · rintro t d S hd rfl
    rw [List.getElem?_map] at hd
    obtain ⟨s, hx, rfl⟩ := Option.map_eq_some_iff.mp hd
    have sm := List.mem_of_getElem? hx
    have sl := hy.st s sm
    walk_at "wv"
    refine ⟨s.map dC, rfl, ⟨rfl, by rw [List.length_map]; omega⟩, ?_⟩
    refine lc_ok (fun p acc Z => acc = (s.take p).map (fun c => dC (lc c)) ∧ Z = [some (.own bs1), some (.dat (dY y)), some (.own ((y.take t).map fun s => dS (s.map lc))), some (.dat (dS s)), none, none, none]) ?_ ?_ ⟨rfl, rfl⟩
    · rintro p dp acc Z hp ⟨rfl, rfl⟩
      rw [List.getElem?_map] at hp
      obtain ⟨c, hc, rfl⟩ := Option.map_eq_some_iff.mp hp
      have cok := hy.cho s sm c (List.mem_of_getElem? hc)
      have cl := cok.len
      rw [show dC c = .tuple [.int c.1, .tuple (c.2.map prD)] from rfl]
      refine w_aTup rfl (w_aCons (w_aName (w_aCons (w_aName (w_aNil ?_)))))
      walk_at "wv"
      refine ⟨cMod_ok (by decide), ?_⟩
      walk_at "wv"
      refine ⟨c.2.map prD, rfl, ⟨rfl, by rw [List.length_map]; omega⟩, ?_⟩
      refine lc_ok (fun p acc Z => acc = (c.2.take p).map (fun e => prD (e.1, if 400 < e.2 then 400 else e.2)) ∧ Z = [some (.own bs1), some (.dat (dY y)), some (.own ((y.take t).map fun s => dS (s.map lc))), some (.dat (dS s)), some (.dat (.int c.1)), some (.dat (.tuple (c.2.map prD))), none]) ?_ ?_ ⟨rfl, rfl⟩
      · rintro q dq acc Z hq ⟨rfl, rfl⟩
        rw [List.getElem?_map] at hq
        obtain ⟨e, he, rfl⟩ := Option.map_eq_some_iff.mp hq
        walk_at "wv"
        refine okTo_eq (a := .int e.1) rfl ?_
        walk_at "wv"
        refine okTo_eq (a := .int e.2) rfl ?_
        walk_at "wv"
        refine ⟨by simp, ?_⟩
        rw [List.take_add_one, he, List.map_append]
        exact ⟨rfl, by first | trivial | rfl⟩
      · rintro acc Z ⟨rfl, rfl⟩
        rw [List.length_map, List.take_length]
        walk_at "wv"
        refine ⟨by simp, ?_⟩
        rw [List.take_add_one, hc, List.map_append]
        refine ⟨?_, by first | trivial | rfl⟩
        congr 1
        show [PyData.tuple [.int (Int.fmod c.1 3), .tuple _]] = [PyData.tuple [.int (Int.fmod c.1 3), .tuple (List.map prD (c.2.map _))]]
        rw [List.map_map]
        rfl
    · rintro acc Z ⟨rfl, rfl⟩
      rw [List.length_map, List.take_length]
      walk_at "wv"
      refine ⟨by rw [List.length_map, List.length_take]; omega, ?_⟩
      rw [List.take_add_one, hx, List.map_append]
      have e : PyData.tuple (s.map fun c => dC (lc c)) = dS (s.map lc) := by
        unfold dS
        rw [List.map_map]
        rfl
      rw [e]
      rfl
  · rintro S rfl
    rw [List.length_map, List.take_length]
    walk_at "wv"
    refine ⟨_, rfl, ?_⟩
    have e : PyData.tuple (y.map fun s => dS (s.map lc)) = dY (y.map fun s => s.map lc) := by
      unfold dY
      rw [List.map_map]
      rfl
    rw [e]
    refine h _ _ ⟨fun z => ?_, fun s hs => ?_⟩ (by rw [List.length_map]; exact y3) b1
    · have := hy.ne
      rw [List.map_eq_nil_iff.mp z] at this
      exact absurd this (by decide)
    · obtain ⟨s, sm, rfl⟩ := List.mem_map.mp hs
      have sl := hy.st s sm
      refine ⟨fun z => ?_, by rw [List.length_map]; omega, fun c hc => ?_⟩
      · rw [List.map_eq_nil_iff.mp z] at sl
        exact absurd sl.1 (by decide)
      · obtain ⟨c, cm, rfl⟩ := List.mem_map.mp hc
        have cok := hy.cho s sm c cm
        refine ⟨?_, fun z => cok.ne (List.map_eq_nil_iff.mp z), by show (c.2.map _).length ≤ 3; have := cok.len; rw [List.length_map]; omega, fun e he => ?_⟩
        · have := modN (i := c.1) (m := 3) (by decide)
          show 0 ≤ Int.fmod c.1 3 ∧ Int.fmod c.1 3 ≤ 1000
          omega
        · obtain ⟨e, em, rfl⟩ := List.mem_map.mp he
          have := cok.ends e em
          show 0 ≤ e.1 ∧ e.1 < ((List.map (fun s => List.map lc s) y).length : Int) ∧ 1 ≤ (if 400 < e.2 then 400 else e.2) ∧ (if 400 < e.2 then 400 else e.2) ≤ 400
          rw [List.length_map]
          split <;> omega

end
section
/-! ### alike states: drawn systems with copies -/
open PySem L2
def cop (cs : List Nat) : List PyData := (List.range cs.length).map fun k => .list (rangeD (((cs.take k).sum : Nat) : Int) (cs.getD k 0))
theorem cop_len (cs : List Nat) : (cop cs).length = cs.length := by
  unfold cop
  rw [List.length_map, List.length_range]
theorem cop_snoc (cs : List Nat) (c : Nat) : cop (cs ++ [c]) = cop cs ++ [.list (rangeD ((cs.sum : Nat) : Int) c)] := by
  unfold cop
  rw [List.length_append, List.length_singleton, List.range_succ, List.map_append, List.map_singleton]
  congr 1
  · refine List.map_congr_left fun k hk => ?_
    have hk' := List.mem_range.mp hk
    rw [List.take_append_of_le_length (by omega), List.getD_eq_getElem?_getD, List.getElem?_append_left hk', ← List.getD_eq_getElem?_getD]
  · rw [List.take_left, List.getD_eq_getElem?_getD, List.getElem?_append_right (Nat.le_refl _), Nat.sub_self]
    rfl
theorem cop_at {cs : List Nat} {g : Nat} (h : g < cs.length) : ixD (cop cs) (g : Int) = .ok (.list (rangeD (((cs.take g).sum : Nat) : Int) (cs.getD g 0))) := by
  refine ixD_nat ?_
  unfold cop
  rw [List.getElem?_map, List.getElem?_range h]
  rfl
theorem sum_take1 (cs : List Nat) (g : Nat) : (cs.take (g + 1)).sum = (cs.take g).sum + cs.getD g 0 := by
  rw [List.take_add_one, List.sum_append, List.getD_eq_getElem?_getD]
  cases cs[g]? with
  | none => rfl
  | some c => simp
theorem sum_take_le (cs : List Nat) (g : Nat) : (cs.take g).sum ≤ cs.sum := by
  have := congrArg List.sum (List.take_append_drop g cs)
  rw [List.sum_append] at this
  omega
theorem sum_two {cs : List Nat} (h : ∀ c ∈ cs, 1 ≤ c ∧ c ≤ 2) : cs.length ≤ cs.sum ∧ cs.sum ≤ 2 * cs.length := by
  induction cs with
  | nil => exact ⟨Nat.le_refl _, Nat.le_refl _⟩
  | cons c r ih =>
    have := ih fun x hx => h x (List.mem_cons_of_mem _ hx)
    have := h c List.mem_cons_self
    rw [List.length_cons, List.sum_cons]
    omega
theorem gInt_b (b : Bool) : ∃ z : Int, gInt [PyData.bool b] = .ok (.int z) ∧ (z = 0 ∨ z = 1) := by
  cases b with
  | true => exact ⟨1, rfl, .inr rfl⟩
  | false => exact ⟨0, rfl, .inl rfl⟩
theorem ite_join40 {α : Type} {c : Prop} [Decidable c] {x y : R α} {k P : α → Prop} (h : ∀ fl, P fl → k fl) (h1 : c → x.okTo P) (h2 : ¬ c → y.okTo P) : if c then x.okTo k else y.okTo k := by
  by_cases q : c
  · rw [if_pos q]
    exact (h1 q).mono h
  · rw [if_neg q]
    exact (h2 q).mono h
theorem w_revN {i : Nat} {S : SS} {ds : List PyData} {k : List PyData × SS → Prop} (h : S[i]? = some (some (.own ds))) (q : k (ds.reverse, S)) : (vRevN i S).okTo k := by
  unfold vRevN ownD
  rw [h]
  exact q
theorem twins_ok {ts : List Int} {n : Int} {y : List (List Cho)} {bs : List PyData} {k : PyData × List PyData → Prop} (b : Box ts n bs) (hn : n ≤ 2 ^ 37) (hy : Sy4 3 3 400 y) (yl : y.length ≤ 3)
    (h : ∀ (z : List (List Cho)) bs', Sy4 4 6 800 z → z.length ≤ 6 → Box ts (n + 1000) bs' → k (dY z, bs')) : (den_l_twins bs [dY y]).okTo k := by
  obtain ⟨yne, hrow⟩ := hy
  have y1 : 1 ≤ y.length := List.length_pos_iff.mpr yne
  unfold den_l_twins body_l_twins
  refine w_denBU ?_
  walk_at "st"
  walk_at "wv"
  refine ⟨by simp, ?_⟩
  walk_at "wv"
  refine okTo_eq gLen_y ?_
  walk_at "wv"
  refine ⟨_, rfl, ⟨by omega, by omega⟩, ?_⟩
  rw [Int.toNat_natCast]
  refine loop_ok (fun t S => ∃ (cs : List Nat) (bs : List PyData), S = [some (.own bs), some (.dat (dY y)), some (.own (cop cs)), some (.dat (.int (cs.sum : Nat))), none, none, none, none, none, none, none, none, none, none, none] ∧ Box ts (n + t) bs ∧ cs.length = t ∧ ∀ c ∈ cs, 1 ≤ c ∧ c ≤ 2) ?_ ?_ ⟨[], bs, rfl, b.up (by omega), rfl, by simp⟩
  · rintro t d S hd ⟨cs, bs2, rfl, b2, cl, hc⟩
    obtain ⟨ht, rfl⟩ := rangeD_get hd
    have s2 := sum_two hc
    walk_at "wv"
    refine ifP (decide_eq_true (by omega)) ?_
    walk_at "wv"
    refine ⟨rfl, take_ok b2 (by omega) (by decide) fun r bs3 r0 r1 b3 => ?_⟩
    walk_at "wv"
    obtain ⟨z, hz, z01⟩ := gInt_b (decide (r = 0))
    refine okTo_eq hz ?_
    walk_at "wv"
    refine w_listRg2 ?_
    walk_at "wv"
    refine ⟨⟨⟨by omega, by omega⟩, by omega, by omega⟩, ?_⟩
    obtain ⟨c, hcz, c1⟩ : ∃ c : Nat, 1 + z = (c : Int) ∧ (1 ≤ c ∧ c ≤ 2) := ⟨(1 + z).toNat, by omega, by omega⟩
    rw [hcz, show (((cs.sum : Nat) : Int) + (c : Int) - ((cs.sum : Nat) : Int)).toNat = c from by omega]
    walk_at "wv"
    refine ⟨by rw [cop_len]; omega, cs ++ [c], bs3, ?_, b3.up (by omega), by rw [List.length_append, List.length_singleton]; omega, fun x hx => ?_⟩
    · rw [cop_snoc, List.sum_append, List.sum_singleton]
      rfl
    · rcases List.mem_append.mp hx with q | q
      · exact hc x q
      · rw [List.mem_singleton.mp q]
        exact c1
  rintro S ⟨cs, bs2, rfl, b2, cl, hc⟩
  rw [rangeD_len] at b2 cl
  have s2 := sum_two hc
  walk_at "wv"
  refine ⟨by simp, ?_⟩
  walk_at "wv"
  refine okTo_eq gLen_y ?_
  walk_at "wv"
  refine ⟨_, rfl, ⟨by omega, by omega⟩, ?_⟩
  rw [Int.toNat_natCast]
  refine loop_ok (fun t S => ∃ (z : List (List Cho)) (bs : List PyData), S = [some (.own bs), some (.dat (dY y)), some (.own (cop cs)), none, none, some (.own (z.map dS)), none, none, none, none, none, none, none, none, none] ∧ Box ts (n + 10 + 100 * t) bs ∧ z.length = (cs.take t).sum ∧ ∀ s ∈ z, Row4 cs.sum 4 6 800 s) ?_ ?_ ⟨[], bs2, rfl, b2.up (by omega), by simp, by simp⟩
  · rintro t d S hd ⟨z, bs3, rfl, b3, zl, hz⟩
    obtain ⟨ht, rfl⟩ := rangeD_get hd
    rw [Int.zero_add]
    walk_at "wv"
    refine okTo_eq (cop_at (by omega)) ?_
    walk_at "wv"
    have he := hrow
    obtain ⟨s, hs⟩ : ∃ s, y[t]? = some s := ⟨y[t], List.getElem?_eq_getElem ht⟩
    obtain ⟨sne, sl, sc⟩ := hrow s (List.mem_of_getElem? hs)
    have c2 : 1 ≤ cs.getD t 0 ∧ cs.getD t 0 ≤ 2 := by
      rw [List.getD_eq_getElem?_getD, List.getElem?_eq_getElem (show t < cs.length by omega)]
      exact hc _ (List.getElem_mem _)
    have st1 := sum_take1 cs t
    have stl := sum_take_le cs (t + 1)
    generalize ha : (cs.take t).sum = a at zl st1
    generalize hcc : cs.getD t 0 = c at c2 st1
    generalize hM : cs.sum = M at stl hz s2
    refine ⟨_, rfl, ?_⟩
    refine loop_ok (fun u S => ∃ (z : List (List Cho)) (bs : List PyData), S = [some (.own bs), some (.dat (dY y)), some (.own (cop cs)), none, some (.dat (.int (t : Nat))), some (.own (z.map dS)), none, none, none, none, none, none, none, none, none] ∧ Box ts (n + 10 + 100 * t + 20 * u) bs ∧ z.length = a + u ∧ ∀ s ∈ z, Row4 M 4 6 800 s) ?_ ?_ ⟨z, bs3, rfl, b3.up (by omega), by omega, hz⟩
    · rintro u d S hd ⟨z, bs3, rfl, b3, zl, hz⟩
      obtain ⟨hu, rfl⟩ := rangeD_get hd
      walk_at "wv"
      refine ⟨by simp, ?_⟩
      walk_at "wv"
      refine okTo_eq (a := dS s) (ixD_nat (ds := y.map dS) (by rw [List.getElem?_map, hs]; rfl)) ?_
      walk_at "wv"
      refine ⟨s.map dC, rfl, ?_⟩
      refine loop_ok (fun v S => ∃ (ch : List Cho) (bs : List PyData), S = [some (.own bs), some (.dat (dY y)), some (.own (cop cs)), none, some (.dat (.int (t : Nat))), some (.own (z.map dS)), none, none, some (.own (ch.map dC)), none, none, none, none, none, none] ∧ Box ts (n + 10 + 100 * t + 20 * u + 4 * v) bs ∧ ch.length = v ∧ ∀ c ∈ ch, (0 ≤ c.1 ∧ c.1 ≤ 1000) ∧ c.2 ≠ [] ∧ c.2.length ≤ 6 ∧ ∀ e ∈ c.2, 0 ≤ e.1 ∧ e.1 < (M : Int) ∧ 1 ≤ e.2 ∧ e.2 ≤ 800) ?_ ?_ ⟨[], bs3, rfl, b3.up (by omega), rfl, by simp⟩
      · rintro v d S hd ⟨ch, bs4, rfl, b4, chl, hch⟩
        rw [List.getElem?_map] at hd
        obtain ⟨x, hx, rfl⟩ := Option.map_eq_some_iff.mp hd
        obtain ⟨x1, x2, x3, x4⟩ := sc x (List.mem_of_getElem? hx)
        have hv : v < s.length := (List.getElem?_eq_some_iff.mp hx).1
        rw [show dC x = .tuple [.int x.1, .tuple (x.2.map prD)] from rfl]
        refine w_aTup rfl (w_aCons (w_aName (w_aCons (w_aName (w_aNil ?_)))))
        walk_at "wv"
        refine ⟨by simp, ?_⟩
        walk_at "wv"
        refine ⟨x.2.map prD, rfl, ?_⟩
        refine loop_ok (fun w S => ∃ (ps : List (Int × Int)) (bs : List PyData), S = [some (.own bs), some (.dat (dY y)), some (.own (cop cs)), none, some (.dat (.int (t : Nat))), some (.own (z.map dS)), none, none, some (.own (ch.map dC)), some (.dat (.int x.1)), some (.dat (.tuple (x.2.map prD))), some (.dat (.list (ps.map prD))), none, none, none] ∧ Box ts (n + 10 + 100 * t + 20 * u + 4 * v + w) bs ∧ ps.length ≤ 2 * w ∧ (∀ p ∈ ps, 0 ≤ p.1 ∧ p.1 < (M : Int) ∧ 0 ≤ p.2 ∧ p.2 ≤ 800) ∧ (0 < w → ∃ p ∈ ps, 1 ≤ p.2)) ?_ ?_ ⟨[], bs4, rfl, b4.up (by omega), by simp, by simp, by simp⟩
        · rintro w d S hd ⟨ps, bs5, rfl, b5, psl, hps, _⟩
          rw [List.getElem?_map] at hd
          obtain ⟨e, hee, rfl⟩ := Option.map_eq_some_iff.mp hd
          have em := x4 e (List.mem_of_getElem? hee)
          have hw : w < x.2.length := (List.getElem?_eq_some_iff.mp hee).1
          obtain ⟨g, hg⟩ : ∃ g : Nat, e.1 = (g : Int) := ⟨e.1.toNat, by omega⟩
          have gl : g < cs.length := by omega
          have gc : 1 ≤ cs.getD g 0 ∧ cs.getD g 0 ≤ 2 := by
            rw [List.getD_eq_getElem?_getD, List.getElem?_eq_getElem gl]
            exact hc _ (List.getElem_mem _)
          have g1 := sum_take1 cs g
          have g2 := sum_take_le cs (g + 1)
          rw [show prD e = .tuple [.int (g : Nat), .int e.2] from by rw [← hg]]
          refine w_aTup rfl (w_aCons (w_aName (w_aCons (w_aName (w_aNil ?_)))))
          walk_at "wv"
          refine okTo_eq (cop_at gl) ?_
          walk_at "wv"
          refine ⟨rfl, split_ok b5 (by omega) ⟨em.2.2.1, em.2.2.2⟩ gc fun qs bs6 ql hq q1 b6 => ?_⟩
          walk_at "wv"
          refine ⟨by rw [List.length_map, List.length_map]; omega, ps ++ qs, bs6, by rw [List.map_append]; rfl, b6.up (by omega), by rw [List.length_append]; omega, fun p hp => ?_, fun _ => ?_⟩
          · rcases List.mem_append.mp hp with q | q
            · exact hps p q
            · have := hq p q
              omega
          · obtain ⟨p, hp, pe⟩ := q1
            exact ⟨p, List.mem_append_right _ hp, pe⟩
        · rintro S ⟨ps, bs5, rfl, b5, psl, hps, h1⟩
          rw [List.length_map] at b5 psl h1
          walk_at "wv"
          refine ⟨_, rfl, ⟨rfl, by rw [List.length_map]; omega⟩, ?_⟩
          refine lc_ok (fun q acc Z => acc = ((ps.take q).filter fun e => decide (0 < e.2)).map prD ∧ Z = [some (.own bs5), some (.dat (dY y)), some (.own (cop cs)), none, some (.dat (.int (t : Nat))), some (.own (z.map dS)), none, none, some (.own (ch.map dC)), some (.dat (.int x.1)), some (.dat (.tuple (x.2.map prD))), some (.dat (.list (ps.map prD))), none, none, none]) ?_ ?_ ⟨rfl, rfl⟩
          · rintro q d acc Z hq ⟨rfl, rfl⟩
            rw [List.getElem?_map] at hq
            obtain ⟨e, hee, rfl⟩ := Option.map_eq_some_iff.mp hq
            walk_at "wv"
            refine okTo_eq (a := .int e.2) rfl ?_
            walk_at "wv"
            rw [List.take_add_one, hee, Option.toList_some, List.filter_append, List.map_append]
            have f1 : [e].filter (fun e => decide (0 < e.2)) = if decide (0 < e.2) = true then [e] else [] := by rw [List.filter_cons, List.filter_nil]
            by_cases cc : decide (0 < e.2) = true
            · rw [if_pos cc, f1, if_pos cc]
              exact ⟨rfl, by first | trivial | rfl⟩
            · rw [if_neg cc, f1, if_neg cc, List.map_nil, List.append_nil]
              exact ⟨rfl, by first | trivial | rfl⟩
          · rintro acc Z ⟨rfl, rfl⟩
            rw [List.length_map, List.take_length]
            walk_at "wv"
            have fl := List.length_filter_le (fun e : Int × Int => decide (0 < e.2)) ps
            have x2p := List.length_pos_iff.mpr x2
            refine ⟨by simp, by rw [List.length_map]; omega, ch ++ [(x.1, ps.filter fun e => decide (0 < e.2))], bs5, by rw [List.map_append]; rfl, b5.up (by omega), by rw [List.length_append, List.length_singleton]; omega, fun c hx => ?_⟩
            rcases List.mem_append.mp hx with q | q
            · exact hch c q
            · rw [List.mem_singleton.mp q]
              refine ⟨x1, fun q0 => ?_, by show (ps.filter _).length ≤ 6; omega, fun e he => ?_⟩
              · obtain ⟨p, hp, pe⟩ := h1 x2p
                have : p ∈ ps.filter fun e => decide (0 < e.2) := List.mem_filter.mpr ⟨hp, decide_eq_true (by omega)⟩
                have q0' : (ps.filter fun e => decide (0 < e.2)) = [] := q0
                rw [q0'] at this
                cases this
              · obtain ⟨e1, e2⟩ := List.mem_filter.mp he
                have := of_decide_eq_true e2
                have := hps e e1
                omega
      · rintro S ⟨ch, bs4, rfl, b4, chl, hch⟩
        rw [List.length_map] at b4 chl
        walk_at "wv"
        refine ⟨rfl, take_ok b4 (by omega) (by decide) fun r bs5 r0 r1 b5 => ?_⟩
        walk_at "wv"
        refine ite_join40 (P := fun fl => ∃ (ch : List Cho), fl = .nx [some (.own bs5), some (.dat (dY y)), some (.own (cop cs)), none, some (.dat (.int (t : Nat))), some (.own (z.map dS)), none, none, some (.own (ch.map dC)), none, none, none, none, none, none] ∧ ch.length = s.length ∧ ∀ c ∈ ch, (0 ≤ c.1 ∧ c.1 ≤ 1000) ∧ c.2 ≠ [] ∧ c.2.length ≤ 6 ∧ ∀ e ∈ c.2, 0 ≤ e.1 ∧ e.1 < (M : Int) ∧ 1 ≤ e.2 ∧ e.2 ≤ 800) ?_ (fun cc => ?_) (fun cc => ?_)
        rotate_left 1
        · walk_at "wv"
          refine w_revN rfl ?_
          walk_at "wv"
          exact ⟨ch.reverse, by rw [List.map_reverse], by rw [List.length_reverse]; exact chl, fun c hc => hch c (List.mem_reverse.mp hc)⟩
        · walk_at "wv"
          exact ⟨ch, rfl, chl, hch⟩
        rintro fl ⟨ch, rfl, chl, hch⟩
        dsimp only
        walk_at "wv"
        refine ⟨rfl, take_ok b5 (by omega) (by decide) fun r2 bs6 q0 q1 b6 => ?_⟩
        walk_at "wv"
        obtain ⟨i, hi, i01⟩ := gInt_b (decide (r2 = 0))
        refine okTo_eq hi ?_
        walk_at "wv"
        obtain ⟨sub, es, ss, s1⟩ : ∃ sub : List Cho, cutD (ch.map dC) none (some i) = sub.map dC ∧ (∀ c ∈ sub, c ∈ ch) ∧ sub.length ≤ 1 := by
          refine ⟨ch.take i.toNat, ?_, fun c hc => List.mem_of_mem_take hc, by rw [List.length_take]; omega⟩
          have hs2 : HT.sIx (ch.map dC).length (ch.map dC).length (some i) = min i.toNat (ch.map dC).length := by
            show (if i < 0 then (i + ((ch.map dC).length : Int)).toNat else min i.toNat (ch.map dC).length) = _
            rw [if_neg (by omega)]
          unfold cutD
          show ((ch.map dC).drop 0).take (HT.sIx (ch.map dC).length (ch.map dC).length (some i) - 0) = _
          rw [hs2, List.drop_zero, Nat.sub_zero, ← List.map_take, List.length_map]
          congr 1
          rcases i01 with rfl | rfl
          · rfl
          · have : 1 ≤ ch.length := by have := List.length_pos_iff.mpr sne; omega
            rw [show min (1 : Int).toNat ch.length = 1 from by omega]
            rfl
        rw [es]
        refine ⟨by rw [List.length_map, List.length_map]; omega, ?_⟩
        walk_at "wv"
        refine ⟨by rw [List.length_map]; omega, z ++ [ch ++ sub], bs6, ?_, b6.up (by omega), by rw [List.length_append, List.length_singleton]; omega, fun r hr => ?_⟩
        · rw [← List.map_append, List.map_append (f := dS)]
          rfl
        · rcases List.mem_append.mp hr with q | q
          · exact hz r q
          · rw [List.mem_singleton.mp q]
            refine ⟨fun q0 => ?_, by rw [List.length_append]; omega, fun c hx => ?_⟩
            · have := List.length_pos_iff.mpr sne
              have := congrArg List.length q0
              rw [List.length_append, List.length_nil] at this
              omega
            · rcases List.mem_append.mp hx with w | w
              · exact hch c w
              · exact hch c (ss c w)
    · rintro S ⟨z, bs4, rfl, b4, zl, hz⟩
      rw [rangeD_len] at b4 zl
      walk_at "wv"
      exact ⟨z, bs4, rfl, b4.up (by omega), by rw [st1]; exact zl, hz⟩
  · rintro S ⟨z, bs3, rfl, b3, zl, hz⟩
    rw [rangeD_len] at b3 zl
    walk_at "wv"
    have e : PyData.tuple (z.map dS) = dY z := rfl
    rw [e]
    have zs : z.length = cs.sum := by rw [zl, ← cl, List.take_length]
    refine ⟨_, rfl, h z bs3 ⟨fun q => ?_, fun s hs => ?_⟩ (by omega) (b3.up (by omega))⟩
    · rw [q] at zs
      simp at zs
      omega
    · rw [zs]
      exact hz s hs

end
section
/-! ### quotients: weights that are too great -/
open PySem L2
theorem w_lc2 {vs vs1 : List Nat} {fi fi1 : VF} {fg fg1 : PyData → SS → R SS} {ft ft1 : VT} {fe : VE} {S : SS} {k : List PyData × SS → Prop} (h : (fi S).okTo fun p => (okS vs p.2 = true ∧ p.1.length ≤ 900) ∧ (lc2F fg ft fi1 fg1 ft1 fe vs vs1 p.1 (wipeS p.2 vs)).okTo fun r => k (r.1, backS p.2 r.2 vs)) : (vLc2 vs vs1 fi fg ft fi1 fg1 ft1 fe S).okTo k := by
  unfold vLc2
  refine okTo_bind.mpr (h.mono fun p hp => okTo_when.mpr ⟨hp.1, okTo_bind.mpr (hp.2.mono fun r hr => okTo_ok.mpr hr)⟩)
theorem lc2_ok {vs vs1 : List Nat} {fi1 : VF} {fg fg1 : PyData → SS → R SS} {ft ft1 : VT} {fe : VE} {ds : List PyData} {k : List PyData × SS → Prop} (I : Nat → List PyData → SS → Prop)
    (step : ∀ i d acc S, ds[i]? = some d → I i acc S → (fg d S).okTo fun S1 => (ft S1).okTo fun p => if p.1 = true then (fi1 p.2).okTo fun q => q.1.length ≤ 100 ∧ (lcF fg1 ft1 fe vs1 q.1 (wipeS q.2 vs1)).okTo fun r => r.1.length ≤ 100 ∧ I (i + 1) (acc ++ r.1) (wipeS r.2 vs) else I (i + 1) acc (wipeS p.2 vs))
    (done : ∀ acc S, I ds.length acc S → k (acc, S)) {S : SS} (h0 : I 0 [] S) : (lc2F fg ft fi1 fg1 ft1 fe vs vs1 ds S).okTo k := by
  have go : ∀ (es : List PyData) (i : Nat) (acc : List PyData) (S : SS), ds.drop i = es → i + es.length = ds.length → I i acc S → (lc2F fg ft fi1 fg1 ft1 fe vs vs1 es S).okTo fun r => k (acc ++ r.1, r.2) := by
    intro es
    induction es with
    | nil =>
      intro i acc S _ hl h
      have e : i = ds.length := by simpa using hl
      rw [e] at h
      refine okTo_ok.mpr ?_
      rw [List.append_nil]
      exact done acc S h
    | cons d es ih =>
      intro i acc S hd hl h
      have hi : ds[i]? = some d := by
        have := congrArg (fun l => l[0]?) hd
        simpa using this
      have hd2 : ds.drop (i + 1) = es := by
        have := congrArg List.tail hd
        simpa using this
      have hl2 : i + 1 + es.length = ds.length := by
        rw [List.length_cons] at hl
        omega
      unfold lc2F
      rw [okTo_bind]
      refine (step i d acc S hi h).mono fun S1 h1 => ?_
      rw [okTo_bind]
      refine h1.mono fun p h2 => ?_
      obtain ⟨c, S2⟩ := p
      cases c with
      | false => exact ih (i + 1) acc _ hd2 hl2 h2
      | true =>
        show ((fi1 S2).bind _).okTo _
        rw [okTo_bind]
        refine R.okTo.mono (show (fi1 S2).okTo _ from h2) fun q h3 => okTo_when.mpr ⟨h3.1, ?_⟩
        rw [okTo_bind]
        refine h3.2.mono fun r h4 => okTo_when.mpr ⟨h4.1, ?_⟩
        rw [okTo_bind]
        refine (ih (i + 1) (acc ++ r.1) _ hd2 hl2 h4.2).mono fun t h5 => okTo_ok.mpr ?_
        show k (acc ++ (r.1 ++ t.1), t.2)
        rw [← List.append_assoc]
        exact h5
  exact (go ds 0 [] S rfl (by omega) h0).mono fun r hr => hr
def grE (c : Cho) : Bool := c.2.any fun p => decide (1000 < p.2)
theorem great_ok {l : List Cho} {k : PyData → Prop} (hl : l.length ≤ 100) (hc : ∀ c ∈ l, c.2.length ≤ 100) (q : k (.bool (l.any grE))) : (den_has_great_weight [dS l]).okTo k := by
  unfold den_has_great_weight body_has_great_weight
  refine w_denP ?_
  walk_at "st"
  walk_at "wv"
  refine w_lc2 ?_
  walk_at "wv"
  refine ⟨l.map dC, rfl, ⟨rfl, by rw [List.length_map]; omega⟩, ?_⟩
  refine lc2_ok (fun i acc S => acc = ((l.take i).flatMap fun c => c.2.map fun p => decide (1000 < p.2)).map PyData.bool ∧ S = [some (.dat (dS l)), none, none, none]) ?_ ?_ ⟨rfl, rfl⟩
  · rintro i d acc S hd ⟨rfl, rfl⟩
    rw [List.getElem?_map] at hd
    obtain ⟨c, hx, rfl⟩ := Option.map_eq_some_iff.mp hd
    have cl := hc c (List.mem_of_getElem? hx)
    rw [show dC c = .tuple [.int c.1, .tuple (c.2.map prD)] from rfl]
    refine w_aTup rfl (w_aCons (w_aName (w_aCons (w_aName (w_aNil ?_)))))
    walk_at "wv"
    refine ⟨c.2.map prD, rfl, by rw [List.length_map]; exact cl, ?_⟩
    refine lc_ok (fun j acc S => acc = ((c.2.take j).map fun p => decide (1000 < p.2)).map PyData.bool ∧ S = [some (.dat (dS l)), none, some (.dat (PyData.tuple (c.2.map prD))), none]) ?_ ?_ ⟨rfl, rfl⟩
    · rintro j d acc S hd ⟨rfl, rfl⟩
      rw [List.getElem?_map] at hd
      obtain ⟨e, he, rfl⟩ := Option.map_eq_some_iff.mp hd
      rw [show prD e = .tuple [.int e.1, .int e.2] from rfl]
      refine w_aTup rfl (w_aCons (w_aName (w_aCons (w_aName (w_aNil ?_)))))
      walk_at "wv"
      rw [List.take_add_one, he, List.map_append, List.map_append]
      exact ⟨rfl, by first | trivial | rfl⟩
    · rintro acc S ⟨rfl, rfl⟩
      rw [show c.2.take (c.2.map prD).length = c.2 from by rw [List.length_map]; exact List.take_length]
      dsimp only
      refine ⟨by rw [List.length_map, List.length_map]; exact cl, ?_, rfl⟩
      rw [List.take_add_one, hx, List.flatMap_append, List.map_append]
      congr 1
      show _ = List.map PyData.bool (List.flatMap _ [c])
      rw [List.flatMap_singleton]
  · rintro acc S ⟨rfl, rfl⟩
    rw [List.length_map, List.take_length]
    walk_at "wv"
    have e : ((l.flatMap fun c => c.2.map fun p => decide (1000 < p.2)).any id) = l.any grE := by
      rw [List.any_flatMap]
      congr 1
      funext c
      rw [List.any_map]
      rfl
    rw [e]
    exact q

end
end Bo
/-! ### quotients: choices by blocks as choices; rows as sums by blocks -/
namespace Bo
open PySem L2 PySem.W
def gS (ns : List Nat) (es : List (Int × Int)) : Int := gcdI 0 ((rowR ns es).map (·.2))
/-- a choice by blocks, as a choice -/
def cbC (ns : List Nat) (c : Cho) : Cho := (c.1, (srow ns c.2).map fun p => (p.1, Int.fdiv p.2 (gS ns c.2)))
theorem cb_dC (ns : List Nat) (c : Cho) : cbD ns c = dC (cbC ns c) := by
  show PyData.tuple [.int c.1, betD ns c.2] = .tuple [.int c.1, .tuple (((srow ns c.2).map fun p => (p.1, Int.fdiv p.2 (gS ns c.2))).map prD)]
  rw [List.map_map]
  rfl
theorem prD_inj {p q : Int × Int} (h : prD p = prD q) : p = q := by
  unfold prD at h
  injection h with h
  injection h with h1 h2
  injection h1 with h1
  injection h2 with h2 _
  injection h2 with h2
  exact Prod.ext h1 h2
theorem dC_inj41 {c d : Cho} (h : dC c = dC d) : c = d := by
  unfold dC at h
  injection h with h
  injection h with h1 h2
  injection h1 with h1
  injection h2 with h2 _
  injection h2 with h2
  exact Prod.ext h1 ((List.map_inj_right fun a b e => prD_inj e).mp h2)
/-- the different choices by blocks, as choices -/
noncomputable def cbsC (ns : List Nat) : List Cho → List Cho → List Cho
  | fs, [] => fs
  | fs, c :: s => cbsC ns (@ite _ (cbC ns c ∈ fs) (Classical.propDecidable _) fs (fs ++ [cbC ns c])) s
theorem cbs_dC (ns : List Nat) : ∀ (s fs : List Cho), seenD (fs.map dC) (s.map (cbD ns)) = (cbsC ns fs s).map dC
  | [], fs => rfl
  | c :: s, fs => by
    show seenD (@ite _ (cbD ns c ∈ fs.map dC) (Classical.propDecidable _) (fs.map dC) (fs.map dC ++ [cbD ns c])) (s.map (cbD ns)) = (cbsC ns (@ite _ (cbC ns c ∈ fs) (Classical.propDecidable _) fs (fs ++ [cbC ns c])) s).map dC
    have m : cbD ns c ∈ fs.map dC ↔ cbC ns c ∈ fs := by
      rw [cb_dC]
      constructor
      · intro h
        obtain ⟨d, hd, e⟩ := List.mem_map.mp h
        rw [← dC_inj41 e]
        exact hd
      · exact fun h => List.mem_map.mpr ⟨_, h, rfl⟩
    by_cases q : cbC ns c ∈ fs
    · rw [if_pos q, if_pos (m.mpr q)]
      exact cbs_dC ns s fs
    · rw [if_neg q, if_neg fun z => q (m.mp z)]
      rw [cb_dC, show fs.map dC ++ [dC (cbC ns c)] = (fs ++ [cbC ns c]).map dC from by rw [List.map_append]; rfl]
      exact cbs_dC ns s _
theorem cbs_eq (ns : List Nat) (s : List Cho) : cbsD ns s = (cbsC ns [] s).map dC := cbs_dC ns s []
theorem cbsC_mem (ns : List Nat) : ∀ (s fs : List Cho) (d : Cho), d ∈ cbsC ns fs s ↔ d ∈ fs ∨ ∃ c ∈ s, d = cbC ns c
  | [], fs, d => by
    show d ∈ fs ↔ _
    exact ⟨.inl, fun h => h.elim id fun ⟨c, hc, _⟩ => nomatch hc⟩
  | c :: s, fs, d => by
    show d ∈ cbsC ns (@ite _ (cbC ns c ∈ fs) (Classical.propDecidable _) fs (fs ++ [cbC ns c])) s ↔ _
    rw [cbsC_mem ns s]
    by_cases q : cbC ns c ∈ fs
    · rw [if_pos q]
      constructor
      · rintro (h | ⟨x, hx, e⟩)
        · exact .inl h
        · exact .inr ⟨x, List.mem_cons_of_mem _ hx, e⟩
      · rintro (h | ⟨x, hx, e⟩)
        · exact .inl h
        · rcases List.mem_cons.mp hx with rfl | hx
          · exact .inl (by rw [e]; exact q)
          · exact .inr ⟨x, hx, e⟩
    · rw [if_neg q]
      constructor
      · rintro (h | ⟨x, hx, e⟩)
        · rcases List.mem_append.mp h with h | h
          · exact .inl h
          · exact .inr ⟨c, List.mem_cons_self, List.mem_singleton.mp h⟩
        · exact .inr ⟨x, List.mem_cons_of_mem _ hx, e⟩
      · rintro (h | ⟨x, hx, e⟩)
        · exact .inl (List.mem_append_left _ h)
        · rcases List.mem_cons.mp hx with rfl | hx
          · exact .inl (List.mem_append_right _ (by rw [e]; exact List.mem_singleton.mpr rfl))
          · exact .inr ⟨x, hx, e⟩
theorem cbsC_len (ns : List Nat) : ∀ (s fs : List Cho), (cbsC ns fs s).length ≤ fs.length + s.length
  | [], fs => Nat.le_refl _
  | c :: s, fs => by
    show (cbsC ns (@ite _ (cbC ns c ∈ fs) (Classical.propDecidable _) fs (fs ++ [cbC ns c])) s).length ≤ _
    have := cbsC_len ns s (@ite _ (cbC ns c ∈ fs) (Classical.propDecidable _) fs (fs ++ [cbC ns c]))
    rw [List.length_cons]
    by_cases q : cbC ns c ∈ fs
    · rw [if_pos q] at this ⊢
      omega
    · rw [if_neg q] at this ⊢
      rw [List.length_append, List.length_singleton] at this
      omega
/-- the row is the sums by blocks that are above 0 -/
theorem srow_sums {ns : List Nat} {es : List (Int × Int)} {M : Nat} (hM : ∀ e ∈ es, (ns.getD e.1.toNat 0) < M) (hp : ∀ e ∈ es, 1 ≤ e.2) :
    srow ns es = ((List.range M).filter fun (k : Nat) => decide (0 < shr ns es (k : Int))).map fun (k : Nat) => ((k : Int), shr ns es (k : Int)) := by
  have nd : ((srow ns es).map (·.1)).Nodup := List.pairwise_map.mpr ((srow_rise ns es).imp fun z => by omega)
  have pw : (((List.range M).filter fun (k : Nat) => decide (0 < shr ns es (k : Int))).map fun (k : Nat) => ((k : Int), shr ns es (k : Int))).Pairwise fun x y => x.1 < y.1 := by
    refine List.pairwise_map.mpr (List.Pairwise.filter _ ?_)
    exact List.pairwise_lt_range.imp fun {a b} h => by show (a : Int) < (b : Int); omega
  have one : ∀ {l : List (Int × Int)}, l.Pairwise (fun x y => x.1 < y.1) → l.Nodup := fun h => h.imp fun {x y} z e => by rw [e] at z; omega
  refine List.Perm.eq_of_pairwise (le := fun x y : Int × Int => x.1 < y.1) (fun x y _ _ h1 h2 => absurd h1 (by omega)) (srow_rise ns es) pw ?_
  refine (List.perm_ext_iff_of_nodup (one (srow_rise ns es)) (one pw)).mpr fun x => ?_
  constructor
  · intro hx
    have at_ := atR_mem nd hx
    rw [srow_at] at at_
    have pos := srow_pos hp x hx
    have ne : ¬ ∀ e ∈ es, ((ns.getD e.1.toNat 0 : Nat) : Int) ≠ x.1 := fun z => by
      rw [shr_zero z] at at_
      omega
    have ⟨e, h⟩ := Classical.not_forall.mp ne
    have ⟨he, h⟩ := Classical.not_imp.mp h
    have h' : ((ns.getD e.1.toNat 0 : Nat) : Int) = x.1 := Classical.not_not.mp h
    refine List.mem_map.mpr ⟨ns.getD e.1.toNat 0, List.mem_filter.mpr ⟨List.mem_range.mpr (hM e he), decide_eq_true ?_⟩, ?_⟩
    · rw [h', at_]
      omega
    · rw [h', at_]
  · intro hx
    obtain ⟨k, hk, rfl⟩ := List.mem_map.mp hx
    have pos := of_decide_eq_true (List.mem_filter.mp hk).2
    rw [← srow_at] at pos
    have m : (k : Int) ∈ (srow ns es).map (·.1) := Classical.not_not.mp fun z => by
      rw [atR_none z] at pos
      omega
    obtain ⟨p, hpm, e⟩ := List.mem_map.mp m
    have at_ := atR_mem nd hpm
    have e' : p.1 = (k : Int) := e
    rw [e', srow_at] at at_
    rw [at_, ← e']
    exact hpm
/-- zeros do not change a common divisor -/
theorem gcdI_filter : ∀ (ws : List Int) (g : Int), (∀ w ∈ ws, 0 ≤ w) → gcdI g.natAbs ws = gcdI g.natAbs (ws.filter fun w => decide (0 < w))
  | [], g, _ => rfl
  | w :: ws, g, h => by
    have hw := h w List.mem_cons_self
    have ih := fun g => gcdI_filter ws g fun x hx => h x (List.mem_cons_of_mem _ hx)
    have e0 : gcdI g.natAbs (w :: ws) = gcdI ((Nat.gcd g.natAbs w.natAbs : Nat) : Int).natAbs ws := by
      show gcdI ((Nat.gcd (g.natAbs : Int).natAbs w.natAbs : Nat) : Int) ws = _
      rw [Int.natAbs_natCast, Int.natAbs_natCast]
    rw [e0, ih]
    by_cases c : 0 < w
    · rw [List.filter_cons, if_pos (decide_eq_true c)]
      show _ = gcdI ((Nat.gcd (g.natAbs : Int).natAbs w.natAbs : Nat) : Int) _
      rw [Int.natAbs_natCast, Int.natAbs_natCast]
    · rw [List.filter_cons, if_neg (by rw [decide_eq_false c]; exact Bool.false_ne_true), Int.natAbs_natCast, show w.natAbs = 0 from by omega, Nat.gcd_zero_right]
theorem gcdI_perm {ws vs : List Int} (p : ws.Perm vs) : gcdI 0 ws = gcdI 0 vs := by
  have e1 := gcdI_N ws 0
  have e2 := gcdI_N vs 0
  rw [show ((0 : Nat) : Int) = 0 from rfl] at e1 e2
  rw [e1, e2]
  congr 1
  exact gcdN_perm (p.map _)
theorem gS_sums {ns : List Nat} {es : List (Int × Int)} {M : Nat} (hM : ∀ e ∈ es, (ns.getD e.1.toNat 0) < M) (hp : ∀ e ∈ es, 1 ≤ e.2) : gS ns es = gcdI 0 ((List.range M).map fun (k : Nat) => shr ns es (k : Int)) := by
  have nn : ∀ b, 0 ≤ shr ns es b := fun b => by
    rw [← srow_at]
    exact atR_nn (srow_pos hp) b
  have e : gS ns es = gcdI 0 ((srow ns es).map (·.2)) := gcdI_perm ((sortP_perm _).symm.map _)
  have f := gcdI_filter ((List.range M).map fun (k : Nat) => shr ns es (k : Int)) 0 fun w hw => by
    obtain ⟨k, _, rfl⟩ := List.mem_map.mp hw
    exact nn _
  rw [show ((0 : Int).natAbs : Int) = 0 from rfl] at f
  rw [e, f, srow_sums hM hp, List.map_map, List.filter_map]
  rfl
end Bo

namespace Bo
open PySem L2
local macro_rules | `(tactic| walk_at "wv1") => `(tactic| (first
  | ((with_reducible refine w_var (d := ?wd) ?wh ?wq); (case wh => exact rfl))
  | with_reducible refine w_cons ?_
  | with_reducible refine w_nil ?_
  | with_reducible refine w_op ?_
  | with_reducible refine w_c ?_
  | with_reducible refine w_aName ?_
  | with_reducible refine w_seq ?_
  | with_reducible refine w_asg ?_
  | with_reducible refine w_toB ?_
  | with_reducible refine w_callP ?_
  | with_reducible refine w_tst ?_
  | with_reducible refine w_gIxT ?_
  | with_reducible refine w_call ?_
  | with_reducible refine w_ret ?_
  | with_reducible refine w_ifS ?_
  | with_reducible refine w_next ?_
  | ((with_reducible refine w_own (ds := ?wd) ?wh ?wq); (case wh => exact rfl))
  | with_reducible refine w_for ?_
  | with_reducible refine w_fr ?_
  | with_reducible refine w_lc ?_
  | with_reducible refine w_tup ?_
  | with_reducible refine w_iter ?_
  | with_reducible refine w_itFT ?_
  | with_reducible refine w_aCons ?_
  | with_reducible refine w_gIxL ?_
  | with_reducible refine w_tnot ?_
  | with_reducible refine w_tor ?_
  | with_reducible refine w_range1 ?_
  | with_reducible refine w_yes ?_
  | with_reducible refine w_itTT ?_
  | with_reducible refine w_iterT ?_
  | with_reducible refine w_lst ?_
  | with_reducible refine w_toI ?_
  | with_reducible refine w_ownS ?_
  | with_reducible refine w_aTup rfl ?_
  | with_reducible refine w_aNil ?_
  | ((with_reducible refine w_frz (ds := ?wd) ?wh ?wq); (case wh => exact rfl))
  | with_reducible refine w_itT ?_
  | with_reducible refine w_tand ?_
  | with_reducible refine w_gEqI ?_
  | with_reducible refine w_gNeI ?_
  | with_reducible refine w_gLenT ?_
  | with_reducible refine w_lstF ?_
  | with_reducible refine w_callB ?_
  | with_reducible refine w_app ?_
  | with_reducible refine w_setI ?_
  | with_reducible refine w_gNeD ?_
  | with_reducible refine w_gEqD ?_
  | with_reducible refine w_drop ?_
  | with_reducible refine w_gIB ?_
  | with_reducible refine w_gBools ?_
  | with_reducible refine w_and ?_
  | with_reducible refine w_isN ?_
  | with_reducible refine w_or ?_
  | with_reducible refine w_ixO ?_
  | with_reducible refine w_gI ?_
  | with_reducible refine w_gLenL ?_
  | with_reducible refine w_gTuple ?_
  | with_reducible refine w_gInts ?_
  | with_reducible refine w_un ?_
  | with_reducible refine w_if ?_
  | with_reducible refine w_chain ?_
  | ((with_reducible refine w_callS (ns := ?wd) ?wh ?wq); (case wh => exact rfl))
  | with_reducible refine w_sl ?_
  | with_reducible refine w_noPart ?_
  | with_reducible refine w_part ?_
  | with_reducible refine w_listRg ?_
  | with_reducible refine w_enumK ?_
  | with_reducible refine w_repF ?_
  | with_reducible refine w_gIC ?_
  | with_reducible refine w_gCat ?_
  | with_reducible refine w_gCatT ?_
  | with_reducible refine w_notN ?_
  | with_reducible refine w_listF ?_
  | with_reducible refine w_neg ?_
  | with_reducible refine w_not ?_
  | with_reducible refine w_tru ?_
  | with_reducible refine w_callL ?_
  | with_reducible refine w_consO ?_
  | with_reducible refine w_lenO ?_
  | with_reducible refine w_tupleO ?_
  | with_reducible refine w_listO ?_
  | with_reducible refine w_inO ?_
  | with_reducible refine w_truO ?_
  | with_reducible refine w_zipK ?_
  | with_reducible refine w_retN ?_
  | ((with_reducible refine w_aug (a := ?wd) ?wh ?wq); (case wh => exact rfl))
  | with_reducible refine w_gInL ?_
  | with_reducible refine w_gIntI ?_
  | with_reducible refine w_gRevL ?_
  | with_reducible refine w_gSlL ?_
  | with_reducible refine w_gSlT ?_
  | with_reducible refine w_itF ?_
  | with_reducible refine w_gList ?_
  | with_reducible refine w_gSortI ?_
  | with_reducible refine w_range2 ?_
  | ((with_reducible refine w_lcO (ds := ?wd) ?wh ?wq ?wr); (case wh => exact rfl); (case wq => exact rfl))
  | with_reducible refine w_aUnl rfl ?_
  | with_reducible refine w_brk ?_
  | with_reducible refine w_cnt ?_
  | with_reducible refine w_gIntB ?_
  | simp only [wipeS, backS, List.set_cons_zero, List.set_cons_succ, List.getElem?_cons_zero, List.getElem?_cons_succ, Option.join_some, Option.join_none, Bool.not_true, Bool.not_false]))
local macro_rules | `(tactic| walk_at "wv") => `(tactic| ((repeat (walk_at "wv1"; try dsimp only)); try simp only [List.set_cons_zero, List.set_cons_succ]))
local macro_rules | `(tactic| walk_at "st") => `(tactic| simp only [startS, List.map_cons, List.map_nil, List.length_cons, List.length_nil, Nat.reduceAdd, Nat.reduceSub, List.replicate_succ, List.replicate_zero, List.cons_append, List.nil_append])

section
/-! ### chains: the right sides, and what is settled -/
open PySem L2
/-- a chain of at most 20 states -/
structure ChOk (z : List (List Cho)) : Prop where
  len : z.length ≤ 20
  at_ : ∀ i, i < z.length → z[i]? = some [cAt z i 0] ∧ EsOk z.length (cAt z i 0).2
def eAt (z : List (List Cho)) (i : Nat) : List (Int × Int) := (cAt z i 0).2
/-- numbers that are known, and what is paid -/
structure ValOk (n t u : Nat) (vals paid : List Rat) : Prop where
  lv : vals.length = n
  lp : paid.length = n
  v : ∀ q ∈ vals, Pd t u q
  p : ∀ i, i < n → Pd t u (paid.getD i 0)
  t0 : t ≠ 0
  t1 : t < 2 ^ 1000
  u1 : u < 2 ^ 1000
def rowsOf (z : List (List Cho)) (hp : List Nat) : List (List Rat) := hp.map fun i => rowOf hp (eAt z i) i

end
end Bo
/-! ### elimination upwards and downwards, rows divided by their leading numbers: what its rows are -/
namespace Bo
theorem Spn.smul {rs : List Row} {z : Row} (a : Rat) (s : Spn rs z) : Spn rs fun j => a * z j := by
  have := Spn.plus a (Spn.zero (rs := rs)) s
  have e : rAdd (fun _ => 0) z a = fun j => a * z j := by
    funext j
    simp only [rAdd]
    grind
  rwa [e] at this
theorem Clr.spn {cs : List Nat} {rs : List Row} {x y : Row} (k : Clr cs rs x y) : Spn (rs ++ [x]) y := by
  obtain ⟨⟨z, s, e⟩, _⟩ := k
  have h0 : Spn (rs ++ [x]) (rAdd (fun _ => 0) x 1) := .add 1 (List.mem_append_right _ List.mem_cons_self) .zero
  have h := Spn.plus (-1) h0 s.more
  have e2 : rAdd (rAdd (fun _ => 0) x 1) z (-1) = y := by
    funext j
    have : x j = y j + 1 * z j := by rw [e]; rfl
    simp only [rAdd]
    grind
  rwa [e2] at h
/-- behind c columns: m rows R, made of whole rows W; the first c are units on these columns, the others are cleared of them -/
structure J (m c : Nat) (R : Nat → Row) (rs : List RowZ) (xs : Nat → RowZ) (L : Nat → Rat) (W : List RowZ) : Prop where
  le : c ≤ m
  e : Elim (List.range c) (rs.map rQ)
  low : ∀ k, k < c → Spn (rs.map rQ) (R k) ∧ ∀ d, d < c → R k d = if d = k then 1 else 0
  high : ∀ k, c ≤ k → k < m → L k ≠ 0 ∧ ∃ y, Clr (List.range c) (rs.map rQ) (rQ (xs k)) y ∧ R k = fun j => L k * y j
  cov : ∀ w ∈ W, w ∈ rs ∨ ∃ k, c ≤ k ∧ k < m ∧ w = xs k
  rin : ∀ r ∈ rs, r ∈ W
  xin : ∀ k, c ≤ k → k < m → xs k ∈ W
theorem J.start {m : Nat} {R : Nat → Row} {xs : Nat → RowZ} {L : Nat → Rat} {W : List RowZ} (hL : ∀ k, k < m → L k ≠ 0) (hR : ∀ k, k < m → R k = fun j => L k * rQ (xs k) j) (hc : ∀ w ∈ W, ∃ k, k < m ∧ w = xs k) (hx : ∀ k, k < m → xs k ∈ W) : J m 0 R [] xs L W where
  le := Nat.zero_le m
  e := .nil
  low := fun k h => absurd h (Nat.not_lt_zero k)
  high := fun k _ hk => ⟨hL k hk, rQ (xs k), ⟨⟨fun _ => 0, .zero, by funext j; simp only [rAdd]; grind⟩, fun d hd => by simp at hd⟩, hR k hk⟩
  cov := fun w hw => let ⟨k, hk, e⟩ := hc w hw; .inr ⟨k, Nat.zero_le k, hk, e⟩
  rin := fun r h => nomatch h
  xin := fun k _ hk => hx k hk
def gjStep (R : Nat → Row) (c f : Nat) : Nat → Row := fun k =>
  if k = c then (fun j => R f j / R f c) else rAdd (if k = f then R c else R k) (fun j => R f j / R f c) (-((if k = f then R c else R k) c))
theorem J.step {m c f : Nat} {R : Nat → Row} {rs : List RowZ} {xs : Nat → RowZ} {L : Nat → Rat} {W : List RowZ} (h : J m c R rs xs L W) (h1 : c ≤ f) (h2 : f < m) (h3 : R f c ≠ 0) :
    J m (c + 1) (gjStep R c f) (rs ++ [xs f]) (fun k => if k = f then xs c else xs k) (fun k => if k = f then L c else L k) W := by
  obtain ⟨lf, y, ky, ey⟩ := h.high f h1 h2
  have yc : y c ≠ 0 := fun z => h3 (by rw [ey]; show L f * y c = 0; rw [z, Rat.mul_zero])
  have hmap : (rs ++ [xs f]).map rQ = rs.map rQ ++ [rQ (xs f)] := by simp
  have ch : (fun j => R f j / R f c) = fun j => y j / y c := by
    funext j
    rw [ey]
    show L f * y j / (L f * y c) = _
    grind
  have chs : Spn (rs.map rQ ++ [rQ (xs f)]) fun j => y j / y c := by
    have := Spn.smul (1 / y c) ky.spn
    have e : (fun j => 1 / y c * y j) = fun j => y j / y c := by
      funext j
      grind
    rwa [e] at this
  have cho : ∀ d, d < c → y d / y c = 0 := fun d hd => by
    rw [ky.out d (List.mem_range.mpr hd)]
    grind
  refine ⟨by omega, ?_, ?_, ?_, ?_, ?_, ?_⟩
  · rw [hmap, List.range_succ]
    exact .step h.e ky yc (by simp)
  · intro k hk
    rw [hmap]
    unfold gjStep
    by_cases e : k = c
    · subst e
      rw [if_pos rfl, ch]
      refine ⟨chs, fun d hd => ?_⟩
      by_cases q : d = k
      · subst q
        rw [if_pos rfl]
        grind
      · rw [if_neg q]
        have e2 : R f d / R f k = y d / y k := congrFun ch d
        exact e2.trans (cho d (by omega))
    · rw [if_neg e]
      have kf : ¬ k = f := by omega
      simp only [if_neg kf]
      obtain ⟨s, u⟩ := h.low k (by omega)
      rw [ch]
      refine ⟨Spn.plus _ s.more chs, fun d hd => ?_⟩
      simp only [rAdd]
      by_cases q : d = c
      · subst q
        rw [if_neg fun z => e z.symm]
        have : y d / y d = 1 := by grind
        rw [this]
        grind
      · rw [cho d (by omega), u d (by omega)]
        grind
  · intro k hk1 hk2
    have kc : ¬ k = c := by omega
    unfold gjStep
    rw [if_neg kc, hmap, List.range_succ, ch]
    have go : ∀ (x : RowZ) (l : Rat) (r : Row), (l ≠ 0 ∧ ∃ y', Clr (List.range c) (rs.map rQ) (rQ x) y' ∧ r = fun j => l * y' j) → l ≠ 0 ∧ ∃ y', Clr (List.range c ++ [c]) (rs.map rQ ++ [rQ (xs f)]) (rQ x) y' ∧ rAdd r (fun j => y j / y c) (-(r c)) = fun j => l * y' j := by
      rintro x l r ⟨hl, y', k', rfl⟩
      refine ⟨hl, _, k'.step ky yc, ?_⟩
      funext j
      simp only [rAdd]
      grind
    by_cases e : k = f
    · subst e
      simp only [if_pos]
      exact go (xs c) (L c) (R c) (h.high c (Nat.le_refl c) (by omega))
    · simp only [if_neg e]
      exact go (xs k) (L k) (R k) (h.high k (by omega) hk2)
  · intro w hw
    rcases h.cov w hw with q | ⟨k, q1, q2, q3⟩
    · exact .inl (List.mem_append_left _ q)
    · by_cases e : k = f
      · subst e
        exact .inl (List.mem_append_right _ (List.mem_singleton.mpr q3))
      · by_cases e2 : k = c
        · subst e2
          exact .inr ⟨f, by omega, h2, by rw [if_pos rfl]; exact q3⟩
        · exact .inr ⟨k, by omega, q2, by rw [if_neg e]; exact q3⟩
  · intro r hr
    rcases List.mem_append.mp hr with q | q
    · exact h.rin r q
    · rw [List.mem_singleton.mp q]
      exact h.xin f h1 h2
  · intro k hk1 hk2
    split
    · exact h.xin c (Nat.le_refl c) (by omega)
    · exact h.xin k (by omega) hk2
/-- no row with a number in the column: the column is made of those before it -/
theorem J.stop {m c : Nat} {R : Nat → Row} {rs : List RowZ} {xs : Nat → RowZ} {L : Nat → Rat} {W : List RowZ} (h : J m c R rs xs L W) (z : ∀ k, c ≤ k → k < m → R k c = 0) : ∃ v : Nat → Rat, ∀ w ∈ W, Is (List.range c) v c (rQ w) := by
  obtain ⟨v, hv⟩ := h.e.sol c
  refine ⟨v, fun w hw => ?_⟩
  rcases h.cov w hw with q | ⟨k, q1, q2, rfl⟩
  · exact hv _ (List.mem_map_of_mem q)
  · obtain ⟨l, y, ky, ey⟩ := h.high k q1 q2
    have g := ky.gap hv
    have y0 : y c = 0 := by
      have := z k q1 q2
      rw [ey] at this
      have this : L k * y c = 0 := this
      exact (Rat.mul_eq_zero.mp this).resolve_left l
    rw [y0] at g
    show rQ (xs k) c = sm v (rQ (xs k)) (List.range c)
    grind
theorem sm_one {u : Nat → Rat} {r : Row} {k : Nat} : ∀ n, (∀ d, d < n → r d = if d = k then 1 else 0) → sm u r (List.range n) = if k < n then u k else 0
  | 0, _ => by simp [sm]
  | n + 1, h => by
    rw [List.range_succ, sm_app, sm_one n fun d hd => h d (by omega)]
    simp only [sm]
    rw [h n (by omega)]
    by_cases e : n = k
    · subst e
      rw [if_pos rfl, if_neg (by omega), if_pos (by omega)]
      grind
    · rw [if_neg e]
      by_cases q : k < n
      · rw [if_pos q, if_pos (by omega)]
        grind
      · rw [if_neg q, if_neg (by omega)]
        grind
/-- behind all columns: the last numbers are the solution -/
theorem J.done {m : Nat} {R : Nat → Row} {rs : List RowZ} {xs : Nat → RowZ} {L : Nat → Rat} {W : List RowZ} {u : Nat → Rat} (h : J m m R rs xs L W) (hu : ∀ w ∈ W, Is (List.range m) u m (rQ w)) {k : Nat} (hk : k < m) : R k m = u k := by
  obtain ⟨s, d⟩ := h.low k hk
  have i : Is (List.range m) u m (R k) := Is.sp (fun r hr => by
    obtain ⟨w, hw, rfl⟩ := List.mem_map.mp hr
    exact hu w (h.rin w hw)) s
  have i' : R k m = sm u (R k) (List.range m) := i
  rw [i', sm_one m d, if_pos hk]
/-! how great the numbers are -/
def Frac (M : Nat) (q : Rat) : Prop := ∃ a b : Int, b ≠ 0 ∧ a.natAbs ≤ M ∧ b.natAbs ≤ M ∧ q = (a : Rat) / (b : Rat)
theorem J.lead {m c B : Nat} {R : Nat → Row} {rs : List RowZ} {xs : Nat → RowZ} {L : Nat → Rat} {W : List RowZ} (h : J m c R rs xs L W) : lapZ (List.range c) rs ≠ 0 := fun z => h.e.ne (by rw [lapZ_cast, z]; rfl)
theorem J.rlen {m c : Nat} {R : Nat → Row} {rs : List RowZ} {xs : Nat → RowZ} {L : Nat → Rat} {W : List RowZ} (h : J m c R rs xs L W) : rs.length = c := by
  have := h.e.len
  rwa [List.length_map, List.length_range] at this
/-- the numbers of whole rows: B at most, and B2 on the right -/
def colB (m B B2 : Nat) (d : Nat) : Nat := (if d = m then B2 else B) + 1
theorem Frac.mono {M N : Nat} {q : Rat} (h : Frac M q) (l : M ≤ N) : Frac N q :=
  let ⟨a, b, h1, h2, h3, h4⟩ := h
  ⟨a, b, h1, Nat.le_trans h2 l, Nat.le_trans h3 l, h4⟩
theorem Frac.zero {M : Nat} (h : 1 ≤ M) : Frac M 0 := ⟨0, 1, by decide, Nat.zero_le M, h, by
  have : ((1 : Int) : Rat) = 1 := rfl
  rw [this]
  have : ((0 : Int) : Rat) = 0 := rfl
  rw [this]
  grind⟩
theorem Frac.one {M : Nat} (h : 1 ≤ M) : Frac M 1 := ⟨1, 1, by decide, h, h, by
  have : ((1 : Int) : Rat) = 1 := rfl
  rw [this]
  grind⟩
/-- what stays of the rows' divisors -/
def Lok (m c s : Nat) (L : Nat → Rat) : Prop := ∀ k, c ≤ k → k < m → ∃ l : Nat, l ≠ 0 ∧ l ≤ s ∧ L k = 1 / (l : Rat)
theorem Lok.step {m c s f : Nat} {L : Nat → Rat} (h : Lok m c s L) (h1 : c ≤ f) (h2 : f < m) : Lok m (c + 1) s fun k => if k = f then L c else L k := fun k hk1 hk2 => by
  by_cases e : k = f
  · simp only [if_pos e]
    exact h c (Nat.le_refl c) (by omega)
  · simp only [if_neg e]
    exact h k (by omega) hk2
end Bo

namespace Bo
open PySem L2
local macro_rules | `(tactic| walk_at "wv1") => `(tactic| (first
  | ((with_reducible refine w_var (d := ?wd) ?wh ?wq); (case wh => exact rfl))
  | with_reducible refine w_cons ?_
  | with_reducible refine w_nil ?_
  | with_reducible refine w_op ?_
  | with_reducible refine w_c ?_
  | with_reducible refine w_aName ?_
  | with_reducible refine w_seq ?_
  | with_reducible refine w_asg ?_
  | with_reducible refine w_toB ?_
  | with_reducible refine w_callP ?_
  | with_reducible refine w_tst ?_
  | with_reducible refine w_gIxT ?_
  | with_reducible refine w_call ?_
  | with_reducible refine w_ret ?_
  | with_reducible refine w_ifS ?_
  | with_reducible refine w_next ?_
  | ((with_reducible refine w_own (ds := ?wd) ?wh ?wq); (case wh => exact rfl))
  | with_reducible refine w_for ?_
  | with_reducible refine w_fr ?_
  | with_reducible refine w_lc ?_
  | with_reducible refine w_tup ?_
  | with_reducible refine w_iter ?_
  | with_reducible refine w_itFT ?_
  | with_reducible refine w_aCons ?_
  | with_reducible refine w_gIxL ?_
  | with_reducible refine w_tnot ?_
  | with_reducible refine w_tor ?_
  | with_reducible refine w_range1 ?_
  | with_reducible refine w_yes ?_
  | with_reducible refine w_itTT ?_
  | with_reducible refine w_iterT ?_
  | with_reducible refine w_lst ?_
  | with_reducible refine w_toI ?_
  | with_reducible refine w_ownS ?_
  | with_reducible refine w_aTup rfl ?_
  | with_reducible refine w_aNil ?_
  | ((with_reducible refine w_frz (ds := ?wd) ?wh ?wq); (case wh => exact rfl))
  | with_reducible refine w_itT ?_
  | with_reducible refine w_tand ?_
  | with_reducible refine w_gEqI ?_
  | with_reducible refine w_gNeI ?_
  | with_reducible refine w_gLenT ?_
  | with_reducible refine w_lstF ?_
  | with_reducible refine w_callB ?_
  | with_reducible refine w_app ?_
  | with_reducible refine w_setI ?_
  | with_reducible refine w_gNeD ?_
  | with_reducible refine w_gEqD ?_
  | with_reducible refine w_drop ?_
  | with_reducible refine w_gIB ?_
  | with_reducible refine w_gBools ?_
  | with_reducible refine w_and ?_
  | with_reducible refine w_isN ?_
  | with_reducible refine w_or ?_
  | with_reducible refine w_ixO ?_
  | with_reducible refine w_gI ?_
  | with_reducible refine w_gLenL ?_
  | with_reducible refine w_gTuple ?_
  | with_reducible refine w_gInts ?_
  | with_reducible refine w_un ?_
  | with_reducible refine w_if ?_
  | with_reducible refine w_chain ?_
  | ((with_reducible refine w_callS (ns := ?wd) ?wh ?wq); (case wh => exact rfl))
  | with_reducible refine w_sl ?_
  | with_reducible refine w_noPart ?_
  | with_reducible refine w_part ?_
  | with_reducible refine w_listRg ?_
  | with_reducible refine w_enumK ?_
  | with_reducible refine w_repF ?_
  | with_reducible refine w_gIC ?_
  | with_reducible refine w_gCat ?_
  | with_reducible refine w_gCatT ?_
  | with_reducible refine w_notN ?_
  | with_reducible refine w_listF ?_
  | with_reducible refine w_neg ?_
  | with_reducible refine w_not ?_
  | with_reducible refine w_tru ?_
  | with_reducible refine w_callL ?_
  | with_reducible refine w_consO ?_
  | with_reducible refine w_lenO ?_
  | with_reducible refine w_tupleO ?_
  | with_reducible refine w_listO ?_
  | with_reducible refine w_inO ?_
  | with_reducible refine w_truO ?_
  | with_reducible refine w_zipK ?_
  | with_reducible refine w_retN ?_
  | ((with_reducible refine w_aug (a := ?wd) ?wh ?wq); (case wh => exact rfl))
  | with_reducible refine w_gInL ?_
  | with_reducible refine w_gIntI ?_
  | with_reducible refine w_gRevL ?_
  | with_reducible refine w_gSlL ?_
  | with_reducible refine w_gSlT ?_
  | with_reducible refine w_itF ?_
  | with_reducible refine w_gList ?_
  | with_reducible refine w_gSortI ?_
  | with_reducible refine w_range2 ?_
  | ((with_reducible refine w_lcO (ds := ?wd) ?wh ?wq ?wr); (case wh => exact rfl); (case wq => exact rfl))
  | with_reducible refine w_aUnl rfl ?_
  | with_reducible refine w_brk ?_
  | with_reducible refine w_cnt ?_
  | with_reducible refine w_gIntB ?_
  | simp only [wipeS, backS, List.set_cons_zero, List.set_cons_succ, List.getElem?_cons_zero, List.getElem?_cons_succ, Option.join_some, Option.join_none, Bool.not_true, Bool.not_false]))
local macro_rules | `(tactic| walk_at "wv") => `(tactic| ((repeat (walk_at "wv1"; try dsimp only)); try simp only [List.set_cons_zero, List.set_cons_succ]))
local macro_rules | `(tactic| walk_at "st") => `(tactic| simp only [startS, List.map_cons, List.map_nil, List.length_cons, List.length_nil, Nat.reduceAdd, Nat.reduceSub, List.replicate_succ, List.replicate_zero, List.cons_append, List.nil_append])

section
/-! ### k10: what its defs answer -/
open PySem L2

end
section
/-! ### k10: a row of fractions made whole -/
open PySem L2
def lcms (qs : List Rat) : Nat := qs.foldl (fun c q => Nat.lcm c q.den) 1
def whole (qs : List Rat) : List Int := qs.map fun q => q.num * Int.fdiv (lcms qs : Int) (q.den : Int)

end
section
/-! ### k10: the values, from the last step back -/
open PySem L2
structure BkOk (b : Int) (acc s : List Int) : Prop where
  ne : s ≠ []
  last : cMul b (s.getLastD 0) = true
  pair : ∀ p ∈ s.tail.zip acc, cMul p.1 p.2 = true
  div : ∀ i, cFdiv i (s.headD 0) = true

end
section
/-! ### k10: solve -/
open PySem L2
/-- what holds of the table, the steps and the number before, at each turn -/
structure Steady (Gd : List (List Int) → List (List Int) → Int → Prop) : Prop where
  size : ∀ {t st b}, Gd t st b → t.length ≤ 1000 ∧ (∀ r ∈ t, r ≠ [] ∧ r.length ≤ 1000) ∧ st.length ≤ 1000 ∧ cFdiv 0 b = true
  mul : ∀ {t st b i s}, Gd t st b → pick t = some i → t[i]? = some s → ∀ row ∈ t, (∀ x ∈ row.tail, cMul (s.headD 0) x = true) ∧ ∀ x ∈ s.tail, cMul (row.headD 0) x = true
  next : ∀ {t st b i s}, Gd t st b → pick t = some i → t[i]? = some s → Gd ((t.eraseIdx i).map fun row => bRow s row b) (st ++ [s]) (s.headD 0)
  last : ∀ {st b}, Gd [] st b → b ≠ 0 ∧ b.natAbs < 2 ^ 8000 ∧ (∀ s ∈ st, s.length ≤ 1000) ∧ ∀ p s, st.reverse[p]? = some s → BkOk b (bBack b (st.reverse.take p) []) s

end
end Bo
/-! ### k10: what holds at each turn of solve -/
namespace Bo
open PySem L2
structure GdT (n B : Nat) (A : List RowZ) (t st : List (List Int)) (b : Int) : Prop where
  ex : ∃ xs rs : List RowZ, t = xs.map (tRow (n + 1) rs.length rs) ∧ st = stp (n + 1) rs ∧ b = lapZ (List.range rs.length) rs ∧ Elim (List.range rs.length) (rs.map rQ) ∧ (rs ++ xs).Perm A
end Bo

/-! ### k10: what solve answers -/
namespace Bo
open PySem L2
def rowZ (w : List Int) : RowZ := fun c => w.getD c 0
end Bo

/-! ### solve, told of its fractions: none where a column is made of those before it, else the one solution -/
namespace Bo
open PySem L2
theorem lcms_dvd {s : Nat} : ∀ {qs : List Rat}, (∀ q ∈ qs, q.den ∣ s) → lcms qs ∣ s := by
  intro qs
  unfold lcms
  have go : ∀ (qs : List Rat) (c : Nat), c ∣ s → (∀ q ∈ qs, q.den ∣ s) → qs.foldl (fun c q => Nat.lcm c q.den) c ∣ s := by
    intro qs
    induction qs with
    | nil => exact fun c h _ => h
    | cons q qs ih => exact fun c h g => ih _ (Nat.lcm_dvd h (g q List.mem_cons_self)) fun x hx => g x (List.mem_cons_of_mem q hx)
  exact go qs 1 (Nat.one_dvd s)
theorem dvd_lcms {qs : List Rat} {q : Rat} (h : q ∈ qs) : q.den ∣ lcms qs := by
  unfold lcms
  have keep : ∀ (qs : List Rat) (c : Nat), c ∣ qs.foldl (fun c q => Nat.lcm c q.den) c := by
    intro qs
    induction qs with
    | nil => exact fun c => Nat.dvd_refl c
    | cons q qs ih => exact fun c => Nat.dvd_trans (Nat.dvd_lcm_left c q.den) (ih _)
  have go : ∀ (qs : List Rat) (c : Nat), q ∈ qs → q.den ∣ qs.foldl (fun c q => Nat.lcm c q.den) c := by
    intro qs
    induction qs with
    | nil => exact fun c h => nomatch h
    | cons x qs ih =>
      intro c h
      rcases List.mem_cons.mp h with rfl | h
      · exact Nat.dvd_trans (Nat.dvd_lcm_right c q.den) (keep qs _)
      · exact ih _ h
  exact go qs 1 h
theorem whole_cast {qs : List Rat} {q : Rat} (h : q ∈ qs) : ((q.num * Int.fdiv (lcms qs : Int) (q.den : Int) : Int) : Rat) = (lcms qs : Rat) * q := by
  obtain ⟨c, hc⟩ := dvd_lcms h
  have dn := den_ne q
  have e : Int.fdiv (lcms qs : Int) (q.den : Int) = (c : Int) := fdiv_of dn (by rw [hc, Int.natCast_mul])
  rw [e, hc, Rat.intCast_mul, Rat.intCast_natCast, Rat.natCast_mul]
  have : q = (q.num : Rat) / (q.den : Rat) := by
    have := num_den q
    rw [Rat.intCast_natCast] at this
    exact this.symm
  have dq : (q.den : Rat) ≠ 0 := by exact_mod_cast q.den_nz
  grind
theorem whole_at {qs : List Rat} {c : Nat} (h : c < qs.length) : ((rowZ (whole qs) c : Int) : Rat) = (lcms qs : Rat) * qs.getD c 0 := by
  unfold rowZ whole
  rw [List.getD_eq_getElem?_getD, List.getElem?_map, List.getElem?_eq_getElem h, List.getD_eq_getElem?_getD, List.getElem?_eq_getElem h]
  exact whole_cast (List.getElem_mem h)
/-- the number of row i at c -/
def cell (rows : List (List Rat)) (i c : Nat) : Rat := (rows.getD i []).getD c 0
/-- what solve is asked with: n rows of n fractions and n of them on the right, whose whole rows stay small -/
structure Asked (n B : Nat) (rows : List (List Rat)) (right : List Rat) : Prop where
  len : rows.length = n
  row : ∀ r ∈ rows, r.length = n
  rgt : right.length = n
  few : n ≤ 900
  lcm : ∀ p ∈ rows.zip right, ∀ i, lcms ((p.1 ++ [p.2]).take i) < 2 ^ 3000
  num : ∀ p ∈ rows.zip right, ∀ q ∈ p.1 ++ [p.2], q.den < 2 ^ 3000 ∧ q.num.natAbs < 2 ^ 3000
  bnd : ∀ p ∈ rows.zip right, ∀ z ∈ whole (p.1 ++ [p.2]), z.natAbs ≤ B
  pow : ((n + 1) * (B + 1)) ^ (n + 1) < 2 ^ 4400
def wOf (rows : List (List Rat)) (right : List Rat) : List (List Int) := (rows.zip right).map fun p => whole (p.1 ++ [p.2])
theorem Asked.zip {n B : Nat} {rows : List (List Rat)} {right : List Rat} (a : Asked n B rows right) {i : Nat} (hi : i < n) : (rows.zip right)[i]? = some (rows.getD i [], right.getD i 0) := by
  have h1 := a.len
  have h2 := a.rgt
  rw [List.getElem?_zip_eq_some]
  rw [List.getD_eq_getElem?_getD, List.getD_eq_getElem?_getD, List.getElem?_eq_getElem (show i < rows.length by omega), List.getElem?_eq_getElem (show i < right.length by omega)]
  exact ⟨rfl, rfl⟩
theorem Asked.at_ {n B : Nat} {rows : List (List Rat)} {right : List Rat} (a : Asked n B rows right) {i : Nat} (hi : i < n) : (wOf rows right)[i]? = some (whole (rows.getD i [] ++ [right.getD i 0])) := by
  unfold wOf
  rw [List.getElem?_map, a.zip hi]
  rfl
theorem Asked.get {n B : Nat} {rows : List (List Rat)} {right : List Rat} (a : Asked n B rows right) {i : Nat} (hi : i < n) : (wOf rows right).getD i [] = whole (rows.getD i [] ++ [right.getD i 0]) := by
  rw [List.getD_eq_getElem?_getD, a.at_ hi]
  rfl
theorem Asked.wlen {n B : Nat} {rows : List (List Rat)} {right : List Rat} (a : Asked n B rows right) : (wOf rows right).length = n := by
  unfold wOf
  rw [List.length_map, List.length_zip, a.len, a.rgt, Nat.min_self]
theorem Asked.rlen {n B : Nat} {rows : List (List Rat)} {right : List Rat} (a : Asked n B rows right) {i : Nat} (hi : i < n) : (rows.getD i []).length = n := by
  rw [List.getD_eq_getElem?_getD, List.getElem?_eq_getElem (show i < rows.length by have := a.len; omega)]
  exact a.row _ (List.getElem_mem _)
/-- the number of the whole row i at c -/
theorem Asked.cell {n B : Nat} {rows : List (List Rat)} {right : List Rat} (a : Asked n B rows right) {i c : Nat} (hi : i < n) (hc : c < n) : ((rowZ ((wOf rows right).getD i []) c : Int) : Rat) = (lcms (rows.getD i [] ++ [right.getD i 0]) : Rat) * cell rows i c := by
  have rl := a.rlen hi
  rw [List.getD_eq_getElem?_getD, a.at_ hi, Option.getD_some, whole_at (by rw [List.length_append, List.length_singleton]; omega)]
  congr 1
  unfold Bo.cell
  rw [List.getD_eq_getElem?_getD, List.getElem?_append_left (by omega), ← List.getD_eq_getElem?_getD]
theorem Asked.last {n B : Nat} {rows : List (List Rat)} {right : List Rat} (a : Asked n B rows right) {i : Nat} (hi : i < n) : ((rowZ ((wOf rows right).getD i []) n : Int) : Rat) = (lcms (rows.getD i [] ++ [right.getD i 0]) : Rat) * right.getD i 0 := by
  have rl := a.rlen hi
  rw [List.getD_eq_getElem?_getD, a.at_ hi, Option.getD_some, whole_at (by rw [List.length_append, List.length_singleton]; omega)]
  congr 1
  rw [List.getD_eq_getElem?_getD, List.getElem?_append_right (by omega), rl, Nat.sub_self]
  rfl
theorem Asked.mem {n B : Nat} {rows : List (List Rat)} {right : List Rat} (a : Asked n B rows right) {w : List Int} (h : w ∈ wOf rows right) : ∃ i, i < n ∧ w = (wOf rows right).getD i [] := by
  obtain ⟨i, hi, rfl⟩ := List.getElem_of_mem h
  refine ⟨i, by have := a.wlen; omega, ?_⟩
  rw [List.getD_eq_getElem?_getD, List.getElem?_eq_getElem hi]
  rfl
end Bo

/-! ### chains: the equations have one solution, and how great their numbers are -/
namespace Bo
open PySem L2
theorem sm_congr {u v : Nat → Rat} {r : Row} : ∀ cs : List Nat, (∀ c ∈ cs, u c = v c) → sm u r cs = sm v r cs
  | [], _ => rfl
  | c :: cs, h => by
    simp only [sm]
    rw [h c List.mem_cons_self, sm_congr cs fun d hd => h d (List.mem_cons_of_mem c hd)]
theorem sm_congr2 {u : Nat → Rat} {r s : Row} : ∀ cs : List Nat, (∀ c ∈ cs, r c = s c) → sm u r cs = sm u s cs
  | [], _ => rfl
  | c :: cs, h => by
    simp only [sm]
    rw [h c List.mem_cons_self, sm_congr2 cs fun d hd => h d (List.mem_cons_of_mem c hd)]
theorem sm_uz {u : Nat → Rat} {r : Row} : ∀ cs : List Nat, (∀ c ∈ cs, u c = 0) → sm u r cs = 0
  | [], _ => rfl
  | c :: cs, h => by
    simp only [sm]
    rw [h c List.mem_cons_self, sm_uz cs fun d hd => h d (List.mem_cons_of_mem c hd)]
    grind
/-- what x is worth at the state o -/
def xAt (hp : List Nat) (x : Nat → Rat) (o : Nat) : Rat := sm x (fun j => if hp.getD j 0 = o then 1 else 0) (List.range hp.length)
theorem nd_at {hp : List Nat} (nd : hp.Nodup) {i j : Nat} (hi : i < hp.length) (hj : j < hp.length) (h : hp.getD j 0 = hp.getD i 0) : j = i := by
  rw [List.getD_eq_getElem?_getD, List.getD_eq_getElem?_getD, List.getElem?_eq_getElem hi, List.getElem?_eq_getElem hj] at h
  have h : hp[j] = hp[i] := h
  have pw := List.pairwise_iff_getElem.mp nd
  rcases Nat.lt_trichotomy j i with q | q | q
  · exact absurd h (pw j i hj hi q)
  · exact q
  · exact absurd h.symm (pw i j hi hj q)
theorem xAt_at {hp : List Nat} {x : Nat → Rat} (nd : hp.Nodup) {i : Nat} (hi : i < hp.length) : xAt hp x (hp.getD i 0) = x i := by
  unfold xAt
  rw [sm_one (k := i) hp.length fun d hd => by
    by_cases e : d = i
    · subst e
      rw [if_pos rfl, if_pos rfl]
    · rw [if_neg e, if_neg fun z => e (nd_at nd hi hd z)], if_pos hi]
theorem xAt_out {hp : List Nat} {x : Nat → Rat} {o : Nat} (h : o ∉ hp) : xAt hp x o = 0 := by
  unfold xAt
  refine sm_zero _ fun c hc => if_neg fun z => h ?_
  have cl := List.mem_range.mp hc
  rw [← z, List.getD_eq_getElem?_getD, List.getElem?_eq_getElem cl]
  exact List.getElem_mem cl
def pSum (W : Int) (es : List (Int × Int)) (o : Int) : Rat := match es with
  | [] => 0
  | e :: es => (if e.1 = o then Rat.divInt e.2 W else 0) + pSum W es o
theorem pSum_none {W o : Int} : ∀ {es : List (Int × Int)}, (∀ e ∈ es, e.1 ≠ o) → pSum W es o = 0
  | [], _ => rfl
  | e :: es, h => by
    unfold pSum
    rw [if_neg (h e List.mem_cons_self), pSum_none fun x hx => h x (List.mem_cons_of_mem e hx)]
    grind
theorem prE_sum {W o : Int} : ∀ {es : List (Int × Int)}, (es.Pairwise fun x y => x.1 < y.1) → prE W es o = pSum W es o
  | [], _ => rfl
  | e :: es, p => by
    have pe := List.pairwise_cons.mp p
    have ih := prE_sum (W := W) (o := o) pe.2
    unfold prE at ih ⊢
    unfold pSum
    rw [List.find?_cons]
    by_cases c : e.1 = o
    · simp only [decide_eq_true c, if_pos c]
      rw [pSum_none fun x hx z => by have := pe.1 x hx; omega]
      show Rat.divInt e.2 W = Rat.divInt e.2 W + 0
      grind
    · simp only [decide_eq_false c, if_neg c]
      rw [ih]
      grind
/-- the mean of what x is worth behind a choice -/
def mX (W : Int) (X : Nat → Rat) : List (Int × Int) → Rat
  | [] => 0
  | e :: es => Rat.divInt e.2 W * X e.1.toNat + mX W X es
theorem sm_prob {W : Int} {hp : List Nat} {x : Nat → Rat} : ∀ es : List (Int × Int), (∀ e ∈ es, 0 ≤ e.1) → sm x (fun j => pSum W es (hp.getD j 0 : Nat)) (List.range hp.length) = mX W (xAt hp x) es
  | [], _ => sm_zero _ fun _ _ => rfl
  | e :: es, h => by
    have ih := sm_prob (W := W) (hp := hp) (x := x) es fun y hy => h y (List.mem_cons_of_mem e hy)
    have e0 := h e List.mem_cons_self
    unfold mX
    rw [← ih]
    have split : ∀ cs : List Nat, sm x (fun j => pSum W (e :: es) (hp.getD j 0 : Nat)) cs = Rat.divInt e.2 W * sm x (fun j => if hp.getD j 0 = e.1.toNat then 1 else 0) cs + sm x (fun j => pSum W es (hp.getD j 0 : Nat)) cs := by
      intro cs
      induction cs with
      | nil => simp only [sm]; grind
      | cons c cs ihc =>
        simp only [sm]
        rw [ihc]
        have : pSum W (e :: es) (hp.getD c 0 : Nat) = (if hp.getD c 0 = e.1.toNat then Rat.divInt e.2 W else 0) + pSum W es (hp.getD c 0 : Nat) := by
          show (if e.1 = ((hp.getD c 0 : Nat) : Int) then _ else _) + _ = _
          by_cases q : hp.getD c 0 = e.1.toNat
          · rw [if_pos (by omega), if_pos q]
          · rw [if_neg (by omega), if_neg q]
        rw [this]
        by_cases q : hp.getD c 0 = e.1.toNat
        · rw [if_pos q, if_pos q]
          grind
        · rw [if_neg q, if_neg q]
          grind
    rw [split]
    rfl
theorem cell_at {z : List (List Cho)} {hp : List Nat} {i j : Nat} (hi : i < hp.length) (hj : j < hp.length) : cell (rowsOf z hp) i j = (if hp.getD j 0 = hp.getD i 0 then 1 else 0) - prob (eAt z (hp.getD i 0)) (hp.getD j 0 : Nat) := by
  unfold cell rowsOf
  have ei : hp[i]? = some (hp.getD i 0) := by rw [List.getD_eq_getElem?_getD, List.getElem?_eq_getElem hi]; rfl
  have ej : hp[j]? = some (hp.getD j 0) := by rw [List.getD_eq_getElem?_getD, List.getElem?_eq_getElem hj]; rfl
  have e1 : (hp.map fun i => rowOf hp (eAt z i) i).getD i [] = rowOf hp (eAt z (hp.getD i 0)) (hp.getD i 0) := by
    rw [List.getD_eq_getElem?_getD, List.getElem?_map, ei]
    rfl
  rw [e1]
  unfold rowOf
  rw [List.getD_eq_getElem?_getD, List.getElem?_map, ej]
  rfl
theorem cell_sm {z : List (List Cho)} {hp : List Nat} {x : Nat → Rat} (hz : ChOk z) (hh : ∀ i ∈ hp, i < z.length) (nd : hp.Nodup) {i : Nat} (hi : i < hp.length) : sm x (cell (rowsOf z hp) i) (List.range hp.length) = x i - mX (wsum (eAt z (hp.getD i 0))) (xAt hp x) (eAt z (hp.getD i 0)) := by
  have hm : hp.getD i 0 < z.length := by
    refine hh _ ?_
    rw [List.getD_eq_getElem?_getD, List.getElem?_eq_getElem hi]
    exact List.getElem_mem hi
  have he := (hz.at_ _ hm).2
  have ee : (cAt z (hp.getD i 0) 0).2 = eAt z (hp.getD i 0) := rfl
  rw [ee] at he
  rw [sm_congr2 (s := rAdd (fun j => if hp.getD j 0 = hp.getD i 0 then 1 else 0) (fun j => pSum (wsum (eAt z (hp.getD i 0))) (eAt z (hp.getD i 0)) (hp.getD j 0 : Nat)) (-1)) _ fun c hc => by
    rw [cell_at hi (List.mem_range.mp hc)]
    simp only [rAdd]
    unfold prob
    rw [prE_sum he.rise]
    grind, sm_add, sm_prob _ fun e h => (he.ends e h).1.1]
  have := xAt_at (x := x) nd hi
  unfold xAt at this
  rw [this]
  grind
theorem frac_pos {a W : Int} (ha : 1 ≤ a) (hW : 1 ≤ W) : 0 < Rat.divInt a W := by
  rw [Rat.divInt_eq_div]
  have h1 : (0 : Rat) < (a : Rat) := by exact_mod_cast (show (0 : Int) < a by omega)
  have h2 : (0 : Rat) < (W : Rat) := by exact_mod_cast (show (0 : Int) < W by omega)
  rw [Rat.div_def]
  exact Rat.mul_pos h1 (Rat.inv_pos.mpr h2)
theorem mX_le {W : Int} {X : Nat → Rat} {M : Rat} (hW : 1 ≤ W) : ∀ es : List (Int × Int), (∀ e ∈ es, 1 ≤ e.2) → (∀ e ∈ es, X e.1.toNat ≤ M) → mX W X es ≤ Rat.divInt (wsum es) W * M ∧ ((∃ e ∈ es, X e.1.toNat < M) → mX W X es < Rat.divInt (wsum es) W * M)
  | [], _, _ => by
    have : Rat.divInt (wsum []) W * M = 0 := by
      have : wsum [] = 0 := rfl
      rw [this, Rat.zero_divInt]
      grind
    rw [this]
    exact ⟨by show (0 : Rat) ≤ 0; grind, fun ⟨_, h, _⟩ => nomatch h⟩
  | e :: es, h, g => by
    obtain ⟨i1, i2⟩ := mX_le (X := X) (M := M) hW es (fun x hx => h x (List.mem_cons_of_mem e hx)) fun x hx => g x (List.mem_cons_of_mem e hx)
    have fp := frac_pos (h e List.mem_cons_self) hW
    have ge := g e List.mem_cons_self
    have wn : W ≠ 0 := by omega
    have ws : Rat.divInt (wsum (e :: es)) W = Rat.divInt e.2 W + Rat.divInt (wsum es) W := by
      have : wsum (e :: es) = e.2 + wsum es := rfl
      rw [this, Rat.divInt_add_divInt _ _ wn wn, ← Int.add_mul, Rat.divInt_mul_right wn]
    unfold mX
    rw [ws]
    have m1 : Rat.divInt e.2 W * X e.1.toNat ≤ Rat.divInt e.2 W * M := Rat.mul_le_mul_of_nonneg_left ge (Rat.le_of_lt fp)
    refine ⟨by grind, ?_⟩
    rintro ⟨x, hx, lt⟩
    rcases List.mem_cons.mp hx with rfl | hx
    · have m2 : Rat.divInt x.2 W * X x.1.toNat < Rat.divInt x.2 W * M := Rat.mul_lt_mul_of_pos_left lt fp
      grind
    · have := i2 ⟨x, hx, lt⟩
      grind
theorem arg_max (x : Nat → Rat) : ∀ m, 0 < m → ∃ i, i < m ∧ ∀ j, j < m → x j ≤ x i
  | 1, _ => ⟨0, by omega, fun j hj => by
    have : j = 0 := by omega
    rw [this]
    grind⟩
  | m + 2, _ => by
    obtain ⟨i, h1, h2⟩ := arg_max x (m + 1) (by omega)
    by_cases c : x (m + 1) ≤ x i
    · refine ⟨i, by omega, fun j hj => ?_⟩
      by_cases e : j = m + 1
      · rw [e]; exact c
      · exact h2 j (by omega)
    · refine ⟨m + 1, by omega, fun j hj => ?_⟩
      by_cases e : j = m + 1
      · rw [e]; grind
      · have := h2 j (by omega)
        grind
end Bo

/-! ### chains, by the law: the worth of its defs, as gen2 reads them -/
namespace Bo
open PySem L2
noncomputable section
end
end Bo

namespace Bo
open PySem L2
local macro_rules | `(tactic| walk_at "wv1") => `(tactic| (first
  | ((with_reducible refine w_var (d := ?wd) ?wh ?wq); (case wh => exact rfl))
  | with_reducible refine w_cons ?_
  | with_reducible refine w_nil ?_
  | with_reducible refine w_op ?_
  | with_reducible refine w_c ?_
  | with_reducible refine w_aName ?_
  | with_reducible refine w_seq ?_
  | with_reducible refine w_asg ?_
  | with_reducible refine w_toB ?_
  | with_reducible refine w_callP ?_
  | with_reducible refine w_tst ?_
  | with_reducible refine w_gIxT ?_
  | with_reducible refine w_call ?_
  | with_reducible refine w_ret ?_
  | with_reducible refine w_ifS ?_
  | with_reducible refine w_next ?_
  | ((with_reducible refine w_own (ds := ?wd) ?wh ?wq); (case wh => exact rfl))
  | with_reducible refine w_for ?_
  | with_reducible refine w_fr ?_
  | with_reducible refine w_lc ?_
  | with_reducible refine w_tup ?_
  | with_reducible refine w_iter ?_
  | with_reducible refine w_itFT ?_
  | with_reducible refine w_aCons ?_
  | with_reducible refine w_gIxL ?_
  | with_reducible refine w_tnot ?_
  | with_reducible refine w_tor ?_
  | with_reducible refine w_range1 ?_
  | with_reducible refine w_yes ?_
  | with_reducible refine w_itTT ?_
  | with_reducible refine w_iterT ?_
  | with_reducible refine w_lst ?_
  | with_reducible refine w_toI ?_
  | with_reducible refine w_ownS ?_
  | with_reducible refine w_aTup rfl ?_
  | with_reducible refine w_aNil ?_
  | ((with_reducible refine w_frz (ds := ?wd) ?wh ?wq); (case wh => exact rfl))
  | with_reducible refine w_itT ?_
  | with_reducible refine w_tand ?_
  | with_reducible refine w_gEqI ?_
  | with_reducible refine w_gNeI ?_
  | with_reducible refine w_gLenT ?_
  | with_reducible refine w_lstF ?_
  | with_reducible refine w_callB ?_
  | with_reducible refine w_app ?_
  | with_reducible refine w_setI ?_
  | with_reducible refine w_gNeD ?_
  | with_reducible refine w_gEqD ?_
  | with_reducible refine w_drop ?_
  | with_reducible refine w_gIB ?_
  | with_reducible refine w_gBools ?_
  | with_reducible refine w_and ?_
  | with_reducible refine w_isN ?_
  | with_reducible refine w_or ?_
  | with_reducible refine w_ixO ?_
  | with_reducible refine w_gI ?_
  | with_reducible refine w_gLenL ?_
  | with_reducible refine w_gTuple ?_
  | with_reducible refine w_gInts ?_
  | with_reducible refine w_un ?_
  | with_reducible refine w_if ?_
  | with_reducible refine w_chain ?_
  | ((with_reducible refine w_callS (ns := ?wd) ?wh ?wq); (case wh => exact rfl))
  | with_reducible refine w_sl ?_
  | with_reducible refine w_noPart ?_
  | with_reducible refine w_part ?_
  | with_reducible refine w_listRg ?_
  | with_reducible refine w_enumK ?_
  | with_reducible refine w_repF ?_
  | with_reducible refine w_gIC ?_
  | with_reducible refine w_gCat ?_
  | with_reducible refine w_gCatT ?_
  | with_reducible refine w_notN ?_
  | with_reducible refine w_listF ?_
  | with_reducible refine w_neg ?_
  | with_reducible refine w_not ?_
  | with_reducible refine w_tru ?_
  | with_reducible refine w_callL ?_
  | with_reducible refine w_consO ?_
  | with_reducible refine w_lenO ?_
  | with_reducible refine w_tupleO ?_
  | with_reducible refine w_listO ?_
  | with_reducible refine w_inO ?_
  | with_reducible refine w_truO ?_
  | with_reducible refine w_zipK ?_
  | with_reducible refine w_retN ?_
  | ((with_reducible refine w_aug (a := ?wd) ?wh ?wq); (case wh => exact rfl))
  | with_reducible refine w_gInL ?_
  | with_reducible refine w_gIntI ?_
  | with_reducible refine w_gRevL ?_
  | with_reducible refine w_gSlL ?_
  | with_reducible refine w_gSlT ?_
  | with_reducible refine w_itF ?_
  | with_reducible refine w_gList ?_
  | with_reducible refine w_gSortI ?_
  | with_reducible refine w_range2 ?_
  | ((with_reducible refine w_lcO (ds := ?wd) ?wh ?wq ?wr); (case wh => exact rfl); (case wq => exact rfl))
  | with_reducible refine w_aUnl rfl ?_
  | with_reducible refine w_brk ?_
  | with_reducible refine w_cnt ?_
  | with_reducible refine w_gIntB ?_
  | simp only [wipeS, backS, List.set_cons_zero, List.set_cons_succ, List.getElem?_cons_zero, List.getElem?_cons_succ, Option.join_some, Option.join_none, Bool.not_true, Bool.not_false]))
local macro_rules | `(tactic| walk_at "wv") => `(tactic| ((repeat (walk_at "wv1"; try dsimp only)); try simp only [List.set_cons_zero, List.set_cons_succ]))
local macro_rules | `(tactic| walk_at "st") => `(tactic| simp only [startS, List.map_cons, List.map_nil, List.length_cons, List.length_nil, Nat.reduceAdd, Nat.reduceSub, List.replicate_succ, List.replicate_zero, List.cons_append, List.nil_append])

section
/-! ### k16: the law's own elimination -/
open PySem L2
theorem Frac.b {M : Nat} {q : Rat} (h : Frac M q) : q.num.natAbs ≤ M ∧ q.den ≤ M := by
  obtain ⟨a, b, h1, h2, h3, rfl⟩ := h
  rw [← divInt_eq]
  have e1 := rN_le (n := a) h1
  have e2 := rD_le (n := a) h1
  rw [rN_rat h1] at e1
  rw [rD_rat h1, Int.natAbs_natCast] at e2
  exact ⟨by omega, by omega⟩
theorem Frac.b3 {M : Nat} {q : Rat} (h : Frac M q) (l : M < 2 ^ 400) : Bq3 q := ⟨Nat.lt_of_le_of_lt h.b.1 l, Nat.lt_of_le_of_lt h.b.2 l⟩
theorem Frac.neg {M : Nat} {q : Rat} (h : Frac M q) : Frac M (-q) := by
  obtain ⟨a, b, h1, h2, h3, rfl⟩ := h
  refine ⟨-a, b, h1, by omega, h3, ?_⟩
  rw [Rat.intCast_neg]
  grind
theorem Frac.mul {M N : Nat} {q r : Rat} (h : Frac M q) (g : Frac N r) : Frac (M * N) (q * r) := by
  obtain ⟨a, b, h1, h2, h3, rfl⟩ := h
  obtain ⟨c, d, g1, g2, g3, rfl⟩ := g
  refine ⟨a * c, b * d, Int.mul_ne_zero h1 g1, by rw [Int.natAbs_mul]; exact Nat.mul_le_mul h2 g2, by rw [Int.natAbs_mul]; exact Nat.mul_le_mul h3 g3, ?_⟩
  rw [Rat.intCast_mul, Rat.intCast_mul]
  have : (b : Rat) ≠ 0 := by exact_mod_cast h1
  have : (d : Rat) ≠ 0 := by exact_mod_cast g1
  grind
def rowL (m : Nat) (r : Row) : List Rat := (List.range (m + 1)).map r
/-- a table that is cleared column by column, as the law does it: how great its numbers stay, and what it tells -/
structure GJ (m M : Nat) (u : Nat → Rat) (Tb : Nat → (Nat → Row) → Prop) : Prop where
  ent : ∀ {c : Nat} {R : Nat → Row}, Tb c R → c < m → ∀ k j, k < m → j < m + 1 → Frac M (R k j)
  cho : ∀ {c f : Nat} {R : Nat → Row}, Tb c R → c < m → c ≤ f → f < m → R f c ≠ 0 → ∀ j, j < m + 1 → Frac M (R f j / R f c)
  one : ∀ {c : Nat} {R : Nat → Row}, Tb c R → c < m → ∃ f, c ≤ f ∧ f < m ∧ R f c ≠ 0
  step : ∀ {c f : Nat} {R : Nat → Row}, Tb c R → c < m → c ≤ f → f < m → R f c ≠ 0 → Tb (c + 1) (gjStep R c f)
  done : ∀ {R : Nat → Row}, Tb m R → ∀ k, k < m → R k m = u k

end
end Bo
/-! ### chains: one solution, told by the program and by the law -/
namespace Bo
open PySem L2
/-- from a state that is asked some way leads out of these -/
inductive Rc (z : List (List Cho)) (hp : List Nat) : Nat → Prop where
  | out {s : Nat} {e : Int × Int} : s ∈ hp → e ∈ eAt z s → e.1.toNat ∉ hp → Rc z hp s
  | step {s : Nat} {e : Int × Int} : s ∈ hp → e ∈ eAt z s → Rc z hp e.1.toNat → Rc z hp s
theorem Rc.mem {z : List (List Cho)} {hp : List Nat} {s : Nat} (h : Rc z hp s) : s ∈ hp := by cases h <;> assumption
/-- the states that are asked, in a chain -/
structure Hop (z : List (List Cho)) (hp : List Nat) : Prop where
  ch : ChOk z
  lt : ∀ i ∈ hp, i < z.length
  nd : hp.Nodup
  rc : ∀ i ∈ hp, Rc z hp i
theorem Hop.get {z : List (List Cho)} {hp : List Nat} (h : Hop z hp) {i : Nat} (hi : i < hp.length) : hp.getD i 0 ∈ hp ∧ hp.getD i 0 < z.length ∧ EsOk z.length (eAt z (hp.getD i 0)) := by
  have m : hp.getD i 0 ∈ hp := by
    rw [List.getD_eq_getElem?_getD, List.getElem?_eq_getElem hi]
    exact List.getElem_mem hi
  exact ⟨m, h.lt _ m, (h.ch.at_ _ (h.lt _ m)).2⟩
theorem Hop.idx {z : List (List Cho)} {hp : List Nat} (h : Hop z hp) {s : Nat} (hs : s ∈ hp) : ∃ i, i < hp.length ∧ hp.getD i 0 = s := by
  obtain ⟨i, hi, e⟩ := List.getElem_of_mem hs
  refine ⟨i, hi, ?_⟩
  rw [List.getD_eq_getElem?_getD, List.getElem?_eq_getElem hi]
  exact e
theorem Hop.less {z : List (List Cho)} {hp : List Nat} (h : Hop z hp) {x : Nat → Rat} {M : Rat} (hM : 0 < M) (hx : ∀ i, i < hp.length → x i ≤ M) (ker : ∀ i, i < hp.length → x i ≤ mX (wsum (eAt z (hp.getD i 0))) (xAt hp x) (eAt z (hp.getD i 0))) {s : Nat} (r : Rc z hp s) : ∀ i, i < hp.length → hp.getD i 0 = s → x i < M := by
  have all : ∀ o, xAt hp x o ≤ M := fun o => by
    by_cases q : o ∈ hp
    · obtain ⟨j, hj, rfl⟩ := h.idx q
      rw [xAt_at h.nd hj]
      exact hx j hj
    · rw [xAt_out q]
      exact Rat.le_of_lt hM
  have fin : ∀ i, i < hp.length → (∃ e ∈ eAt z (hp.getD i 0), xAt hp x e.1.toNat < M) → x i < M := fun i hi ex => by
    have he := (h.get hi).2.2
    have w := he.pos
    have := (mX_le (W := wsum (eAt z (hp.getD i 0))) (X := xAt hp x) (M := M) w.1 _ (fun e hh => (he.ends e hh).2.1) fun e _ => all _).2 ex
    have le := ker i hi
    have one : Rat.divInt (wsum (eAt z (hp.getD i 0))) (wsum (eAt z (hp.getD i 0))) = 1 := by
      have e := Rat.divInt_mul_right (n := 1) (d := 1) (a := wsum (eAt z (hp.getD i 0))) (by omega)
      rw [Int.one_mul] at e
      rw [e]
      rfl
    rw [one, Rat.one_mul] at this
    grind
  induction r with
  | @out s e hs he no => exact fun i hi es => fin i hi ⟨e, by rw [es]; exact he, by rw [xAt_out no]; exact hM⟩
  | @step s e hs he r' ih =>
    intro i hi es
    obtain ⟨j, hj, ej⟩ := h.idx r'.mem
    refine fin i hi ⟨e, by rw [es]; exact he, ?_⟩
    rw [← ej, xAt_at h.nd hj]
    exact ih j hj ej
theorem Hop.top {z : List (List Cho)} {hp : List Nat} (h : Hop z hp) {x : Nat → Rat} (ker : ∀ i, i < hp.length → sm x (cell (rowsOf z hp) i) (List.range hp.length) = 0) : ∀ i, i < hp.length → x i ≤ 0 := by
  intro i hi
  obtain ⟨i0, h0, h1⟩ := arg_max x hp.length (by omega)
  have k2 : ∀ i, i < hp.length → x i = mX (wsum (eAt z (hp.getD i 0))) (xAt hp x) (eAt z (hp.getD i 0)) := fun i hi => by
    have := ker i hi
    rw [cell_sm h.ch h.lt h.nd hi] at this
    grind
  have h2 := h1 i hi
  by_cases c : 0 < x i0
  · have := h.less c h1 (fun i hi => by rw [← k2 i hi]; exact Rat.le_refl) (h.rc _ (h.get h0).1) i0 h0 rfl
    grind
  · grind
theorem Hop.ker {z : List (List Cho)} {hp : List Nat} (h : Hop z hp) {x : Nat → Rat} (ker : ∀ i, i < hp.length → sm x (cell (rowsOf z hp) i) (List.range hp.length) = 0) (i : Nat) (hi : i < hp.length) : x i = 0 := by
  have a := h.top ker i hi
  have b := h.top (x := fun j => 0 - 1 * x j) (fun i hi => by
    rw [sm_mix (u := fun _ => 0) (v := x) (t := 1) _ fun c _ => rfl, ker i hi, sm_uz _ fun _ _ => rfl]
    grind) i hi
  grind
/-- where nothing but nothing comes to nothing, no column is made of those before it -/
theorem ker_free {n : Nat} {A : Nat → Row} (ker : ∀ x : Nat → Rat, (∀ i, i < n → sm x (A i) (List.range n) = 0) → ∀ i, i < n → x i = 0) {c : Nat} (hc : c < n) {v : Nat → Rat} : ¬ ∀ i, i < n → A i c = sm v (A i) (List.range c) := fun q => by
  have := ker ( fun j => if j < c then v j else if j = c then -1 else 0) (fun i hi => by
    have e : List.range n = List.range c ++ (c :: List.range' (c + 1) (n - (c + 1))) := by
      rw [List.range_eq_range', List.range_eq_range', ← List.range'_succ, show n - (c + 1) + 1 = n - c by omega]
      have := List.range'_append (s := 0) (m := c) (n := n - c) (step := 1)
      rw [show 0 + 1 * c = c by omega, show c + (n - c) = n by omega] at this
      exact this.symm
    rw [e, sm_app, sm_congr (u := fun j => if j < c then v j else if j = c then -1 else 0) (v := v) (List.range c) fun d hd => if_pos (List.mem_range.mp hd), ← q i hi]
    simp only [sm]
    rw [sm_uz _ fun d hd => by
      have := (List.mem_range'_1.mp hd).1
      show (if d < c then v d else if d = c then -1 else 0) = (0 : Rat)
      rw [if_neg (by omega), if_neg (by omega)], if_neg (Nat.lt_irrefl c), if_pos trivial]
    grind) c hc
  have e : (if c < c then v c else if c = c then (-1 : Rat) else 0) = -1 := by rw [if_neg (Nat.lt_irrefl c), if_pos rfl]
  have this : (if c < c then v c else if c = c then (-1 : Rat) else 0) = 0 := this
  rw [e] at this
  grind
/-- no column of the equations is made of those before it -/
theorem Hop.free {z : List (List Cho)} {hp : List Nat} (h : Hop z hp) {c : Nat} (hc : c < hp.length) {v : Nat → Rat} : ¬ ∀ i, i < hp.length → cell (rowsOf z hp) i c = sm v (cell (rowsOf z hp) i) (List.range c) :=
  ker_free (A := cell (rowsOf z hp)) (fun _ k => h.ker k) hc
/-- two solutions are the same -/
theorem Hop.one {z : List (List Cho)} {hp : List Nat} (h : Hop z hp) {u v : Nat → Rat} {b : Nat → Rat} (hu : ∀ i, i < hp.length → b i = sm u (cell (rowsOf z hp) i) (List.range hp.length)) (hv : ∀ i, i < hp.length → b i = sm v (cell (rowsOf z hp) i) (List.range hp.length)) (i : Nat) (hi : i < hp.length) : u i = v i := by
  have := h.ker (x := fun j => u j - 1 * v j) (fun i hi => by
    rw [sm_mix (u := u) (v := v) (t := 1) _ fun c _ => rfl, ← hu i hi, ← hv i hi]
    grind) i hi
  grind
end Bo

/-! ### chains: solve and the law's elimination tell the same -/
namespace Bo
open PySem L2
theorem whole_le {s b : Nat} {qs : List Rat} {q : Rat} (hq : q ∈ qs) (h0 : s ≠ 0) (h : ∀ q ∈ qs, q.den ∣ s) (hb : Pd s b q) : (q.num * Int.fdiv (lcms qs : Int) (q.den : Int)).natAbs ≤ b := by
  have c := whole_cast hq
  obtain ⟨m, e, n⟩ := hb
  have ll : lcms qs ≤ s := Nat.le_of_dvd (by omega) (lcms_dvd h)
  generalize q.num * Int.fdiv (lcms qs : Int) (q.den : Int) = z at c ⊢
  have e2 : z * (s : Int) = (lcms qs : Int) * m := by
    have : ((z * (s : Int) : Int) : Rat) = (((lcms qs : Int) * m : Int) : Rat) := by
      rw [Rat.intCast_mul, Rat.intCast_mul, c, Rat.intCast_natCast, Rat.intCast_natCast, ← e]
      grind
    exact_mod_cast this
  have e3 : z.natAbs * s = lcms qs * m.natAbs := by
    have := congrArg Int.natAbs e2
    rwa [Int.natAbs_mul, Int.natAbs_mul, Int.natAbs_natCast, Int.natAbs_natCast] at this
  have e4 : z.natAbs * s ≤ b * s := by
    rw [e3, Nat.mul_comm b]
    exact Nat.mul_le_mul ll n
  exact Nat.le_of_mul_le_mul_right e4 (by omega)
/-- rows whose numbers are over small denominators -/
structure RowsOk (n S B B2 : Nat) (rows : List (List Rat)) (right : List Rat) : Prop where
  len : rows.length = n
  row : ∀ r ∈ rows, r.length = n
  rgt : right.length = n
  two : B ≤ B2
  pd : ∀ i, i < n → ∃ s, s ≠ 0 ∧ s ≤ S ∧ (∀ q ∈ rows.getD i [], Pd s B q) ∧ Pd s B2 (right.getD i 0)
theorem RowsOk.all {n S B B2 : Nat} {rows : List (List Rat)} {right : List Rat} (h : RowsOk n S B B2 rows right) {i : Nat} (hi : i < n) : ∃ s, s ≠ 0 ∧ s ≤ S ∧ (∀ q ∈ rows.getD i [], Pd s B q) ∧ Pd s B2 (right.getD i 0) ∧ ∀ q ∈ rows.getD i [] ++ [right.getD i 0], Pd s B2 q := by
  obtain ⟨s, h0, h1, h2, h3⟩ := h.pd i hi
  refine ⟨s, h0, h1, h2, h3, fun q hq => ?_⟩
  rcases List.mem_append.mp hq with c | c
  · exact (h2 q c).mono h.two
  · rw [List.mem_singleton.mp c]
    exact h3
theorem RowsOk.asked {n S B B2 : Nat} {rows : List (List Rat)} {right : List Rat} (h : RowsOk n S B B2 rows right) (hn : n ≤ 900) (hS : S < 2 ^ 3000) (hB : B2 < 2 ^ 3000) (hP : ((n + 1) * (B2 + 1)) ^ (n + 1) < 2 ^ 4400) : Asked n B2 rows right := by
  have at_ : ∀ p ∈ rows.zip right, ∃ s, s ≠ 0 ∧ s ≤ S ∧ ∀ q ∈ p.1 ++ [p.2], Pd s B2 q := fun p hp => by
    obtain ⟨i, hi, e⟩ := List.getElem_of_mem hp
    have l : i < n := by
      rw [List.length_zip, h.len, h.rgt, Nat.min_self] at hi
      exact hi
    obtain ⟨s, h0, h1, _, _, h3⟩ := h.all l
    refine ⟨s, h0, h1, ?_⟩
    have e1 : rows.getD i [] = p.1 := by
      rw [List.getD_eq_getElem?_getD, List.getElem?_eq_getElem (show i < rows.length by rw [h.len]; exact l), ← e]
      rw [List.getElem_zip]
      rfl
    have e2 : right.getD i 0 = p.2 := by
      rw [List.getD_eq_getElem?_getD, List.getElem?_eq_getElem (show i < right.length by rw [h.rgt]; exact l), ← e]
      rw [List.getElem_zip]
      rfl
    rw [← e1, ← e2]
    exact h3
  refine ⟨h.len, h.row, h.rgt, hn, fun p hp i => ?_, fun p hp q hq => ?_, fun p hp z hz => ?_, hP⟩
  · obtain ⟨s, h0, h1, h3⟩ := at_ p hp
    exact Nat.lt_of_le_of_lt (Nat.le_trans (Nat.le_of_dvd (by omega) (lcms_dvd fun q hq => (h3 q (List.mem_of_mem_take hq)).dvd h0)) h1) hS
  · obtain ⟨s, h0, h1, h3⟩ := at_ p hp
    have := (h3 q hq).small h0
    exact ⟨Nat.lt_of_le_of_lt (Nat.le_trans this.2 h1) hS, Nat.lt_of_le_of_lt this.1 hB⟩
  · obtain ⟨s, h0, h1, h3⟩ := at_ p hp
    unfold whole at hz
    obtain ⟨q, hq, rfl⟩ := List.mem_map.mp hz
    exact whole_le hq h0 (fun q hq => (h3 q hq).dvd h0) (h3 q hq)
/-- a whole row's numbers, column by column -/
theorem RowsOk.col {n S B B2 : Nat} {rows : List (List Rat)} {right : List Rat} (h : RowsOk n S B B2 rows right) (a : Asked n B2 rows right) {i : Nat} (hi : i < n) (d : Nat) : (rowZ ((wOf rows right).getD i []) d).natAbs ≤ colB n B B2 d := by
  obtain ⟨s, h0, h1, h2, h3, h4⟩ := h.all hi
  have rl := a.rlen hi
  rw [a.get hi]
  have ll : (rows.getD i [] ++ [right.getD i 0]).length = n + 1 := by rw [List.length_append, List.length_singleton]; omega
  unfold rowZ whole
  by_cases c : d < n + 1
  · rw [List.getD_eq_getElem?_getD, List.getElem?_map, List.getElem?_eq_getElem (by omega)]
    show (_ * Int.fdiv _ _).natAbs ≤ _
    unfold colB
    by_cases e : d = n
    · rw [if_pos e]
      exact Nat.le_succ_of_le (whole_le (List.getElem_mem _) h0 (fun q hq => (h4 q hq).dvd h0) (h4 _ (List.getElem_mem _)))
    · rw [if_neg e]
      refine Nat.le_succ_of_le (whole_le (List.getElem_mem _) h0 (fun q hq => (h4 q hq).dvd h0) (h2 _ ?_))
      rw [List.getElem_append_left (by omega)]
      exact List.getElem_mem _
  · rw [List.getD_eq_getElem?_getD, List.getElem?_eq_none (by rw [List.length_map]; omega)]
    exact Nat.zero_le _
def R0of (rows : List (List Rat)) (right : List Rat) (i : Nat) : Row := fun j => (rows.getD i [] ++ [right.getD i 0]).getD j 0
theorem rowL_of {n : Nat} {l : List Rat} (h : l.length = n + 1) : l = rowL n fun j => l.getD j 0 := by
  refine List.ext_getElem? fun j => ?_
  unfold rowL
  by_cases c : j < n + 1
  · rw [List.getElem?_map, List.getElem?_range c, List.getElem?_eq_getElem (by omega), Option.map_some, List.getD_eq_getElem?_getD, List.getElem?_eq_getElem (by omega)]
    rfl
  · rw [List.getElem?_eq_none (by omega), List.getElem?_eq_none (by simp; omega)]
theorem Asked.r0 {n B : Nat} {rows : List (List Rat)} {right : List Rat} (a : Asked n B rows right) {i : Nat} (hi : i < n) : rows.getD i [] ++ [right.getD i 0] = rowL n (R0of rows right i) :=
  rowL_of (by have := a.rlen hi; rw [List.length_append, List.length_singleton]; omega)
end Bo

/-! ### chains: how great the numbers of the equations are -/
namespace Bo
open PySem L2
end Bo

namespace Bo
open PySem L2
local macro_rules | `(tactic| walk_at "wv1") => `(tactic| (first
  | ((with_reducible refine w_var (d := ?wd) ?wh ?wq); (case wh => exact rfl))
  | with_reducible refine w_cons ?_
  | with_reducible refine w_nil ?_
  | with_reducible refine w_op ?_
  | with_reducible refine w_c ?_
  | with_reducible refine w_aName ?_
  | with_reducible refine w_seq ?_
  | with_reducible refine w_asg ?_
  | with_reducible refine w_toB ?_
  | with_reducible refine w_callP ?_
  | with_reducible refine w_tst ?_
  | with_reducible refine w_gIxT ?_
  | with_reducible refine w_call ?_
  | with_reducible refine w_ret ?_
  | with_reducible refine w_ifS ?_
  | with_reducible refine w_next ?_
  | ((with_reducible refine w_own (ds := ?wd) ?wh ?wq); (case wh => exact rfl))
  | with_reducible refine w_for ?_
  | with_reducible refine w_fr ?_
  | with_reducible refine w_lc ?_
  | with_reducible refine w_tup ?_
  | with_reducible refine w_iter ?_
  | with_reducible refine w_itFT ?_
  | with_reducible refine w_aCons ?_
  | with_reducible refine w_gIxL ?_
  | with_reducible refine w_tnot ?_
  | with_reducible refine w_tor ?_
  | with_reducible refine w_range1 ?_
  | with_reducible refine w_yes ?_
  | with_reducible refine w_itTT ?_
  | with_reducible refine w_iterT ?_
  | with_reducible refine w_lst ?_
  | with_reducible refine w_toI ?_
  | with_reducible refine w_ownS ?_
  | with_reducible refine w_aTup rfl ?_
  | with_reducible refine w_aNil ?_
  | ((with_reducible refine w_frz (ds := ?wd) ?wh ?wq); (case wh => exact rfl))
  | with_reducible refine w_itT ?_
  | with_reducible refine w_tand ?_
  | with_reducible refine w_gEqI ?_
  | with_reducible refine w_gNeI ?_
  | with_reducible refine w_gLenT ?_
  | with_reducible refine w_lstF ?_
  | with_reducible refine w_callB ?_
  | with_reducible refine w_app ?_
  | with_reducible refine w_setI ?_
  | with_reducible refine w_gNeD ?_
  | with_reducible refine w_gEqD ?_
  | with_reducible refine w_drop ?_
  | with_reducible refine w_gIB ?_
  | with_reducible refine w_gBools ?_
  | with_reducible refine w_and ?_
  | with_reducible refine w_isN ?_
  | with_reducible refine w_or ?_
  | with_reducible refine w_ixO ?_
  | with_reducible refine w_gI ?_
  | with_reducible refine w_gLenL ?_
  | with_reducible refine w_gTuple ?_
  | with_reducible refine w_gInts ?_
  | with_reducible refine w_un ?_
  | with_reducible refine w_if ?_
  | with_reducible refine w_chain ?_
  | ((with_reducible refine w_callS (ns := ?wd) ?wh ?wq); (case wh => exact rfl))
  | with_reducible refine w_sl ?_
  | with_reducible refine w_noPart ?_
  | with_reducible refine w_part ?_
  | with_reducible refine w_listRg ?_
  | with_reducible refine w_enumK ?_
  | with_reducible refine w_repF ?_
  | with_reducible refine w_gIC ?_
  | with_reducible refine w_gCat ?_
  | with_reducible refine w_gCatT ?_
  | with_reducible refine w_notN ?_
  | with_reducible refine w_listF ?_
  | with_reducible refine w_neg ?_
  | with_reducible refine w_not ?_
  | with_reducible refine w_tru ?_
  | with_reducible refine w_callL ?_
  | with_reducible refine w_consO ?_
  | with_reducible refine w_lenO ?_
  | with_reducible refine w_tupleO ?_
  | with_reducible refine w_listO ?_
  | with_reducible refine w_inO ?_
  | with_reducible refine w_truO ?_
  | with_reducible refine w_zipK ?_
  | with_reducible refine w_retN ?_
  | ((with_reducible refine w_aug (a := ?wd) ?wh ?wq); (case wh => exact rfl))
  | with_reducible refine w_gInL ?_
  | with_reducible refine w_gIntI ?_
  | with_reducible refine w_gRevL ?_
  | with_reducible refine w_gSlL ?_
  | with_reducible refine w_gSlT ?_
  | with_reducible refine w_itF ?_
  | with_reducible refine w_gList ?_
  | with_reducible refine w_gSortI ?_
  | with_reducible refine w_range2 ?_
  | ((with_reducible refine w_lcO (ds := ?wd) ?wh ?wq ?wr); (case wh => exact rfl); (case wq => exact rfl))
  | with_reducible refine w_aUnl rfl ?_
  | with_reducible refine w_brk ?_
  | with_reducible refine w_cnt ?_
  | with_reducible refine w_gIntB ?_
  | simp only [wipeS, backS, List.set_cons_zero, List.set_cons_succ, List.getElem?_cons_zero, List.getElem?_cons_succ, Option.join_some, Option.join_none, Bool.not_true, Bool.not_false]))
local macro_rules | `(tactic| walk_at "wv") => `(tactic| ((repeat (walk_at "wv1"; try dsimp only)); try simp only [List.set_cons_zero, List.set_cons_succ]))
local macro_rules | `(tactic| walk_at "st") => `(tactic| simp only [startS, List.map_cons, List.map_nil, List.length_cons, List.length_nil, Nat.reduceAdd, Nat.reduceSub, List.replicate_succ, List.replicate_zero, List.cons_append, List.nil_append])

section
/-! ### backward through a chain -/
open PySem L2
def EG (z : List (List (Int × Int))) (i _k j : Nat) : Prop := ∃ es e, z[i]? = some es ∧ e ∈ es ∧ e.1 = ((j : Nat) : Int)
def Rb (z : List (List (Int × Int))) (rest known : List Nat) : Nat → Prop := Rch (EG z) (fun i k => i ∈ rest ∧ k = 0) (· ∈ known)
structure GOk (n : Nat) (z : List (List (Int × Int))) : Prop where
  len : z.length = n
  le : n ≤ 20
  es : ∀ es ∈ z, es.length ≤ 1000 ∧ ∀ e ∈ es, 0 ≤ e.1
section
variable {z : List (List (Int × Int))} {rest known F F' : List Nat} {n x : Nat} {es : List (Int × Int)}
end

end
section
/-! ### k16: the law's chain, and what it fills in -/
open PySem L2

end
end Bo
namespace Bo
open PySem L2
local macro_rules | `(tactic| walk_at "wv1") => `(tactic| (first
  | ((with_reducible refine w_var (d := ?wd) ?wh ?wq); (case wh => exact rfl))
  | with_reducible refine w_cons ?_
  | with_reducible refine w_nil ?_
  | with_reducible refine w_op ?_
  | with_reducible refine w_c ?_
  | with_reducible refine w_aName ?_
  | with_reducible refine w_seq ?_
  | with_reducible refine w_asg ?_
  | with_reducible refine w_toB ?_
  | with_reducible refine w_callP ?_
  | with_reducible refine w_tst ?_
  | with_reducible refine w_then ?_
  | with_reducible refine w_gIxT ?_
  | with_reducible refine w_call ?_
  | with_reducible refine w_ret ?_
  | with_reducible refine w_ifS ?_
  | with_reducible refine w_next ?_
  | ((with_reducible refine w_own (ds := ?wd) ?wh ?wq); (case wh => exact rfl))
  | with_reducible refine w_for ?_
  | with_reducible refine w_fr ?_
  | with_reducible refine w_lc ?_
  | with_reducible refine w_tup ?_
  | with_reducible refine w_iter ?_
  | with_reducible refine w_itFT ?_
  | with_reducible refine w_aCons ?_
  | with_reducible refine w_gIxL ?_
  | with_reducible refine w_tnot ?_
  | with_reducible refine w_pre ?_
  | ((with_reducible refine w_dic (kvs := ?wd) ?wh ?wq); (case wh => exact rfl))
  | with_reducible refine w_tor ?_
  | with_reducible refine w_range1 ?_
  | with_reducible refine w_yes ?_
  | with_reducible refine w_itTT ?_
  | with_reducible refine w_iterT ?_
  | with_reducible refine w_lst ?_
  | with_reducible refine w_toI ?_
  | with_reducible refine w_ownS ?_
  | with_reducible refine w_aTup rfl ?_
  | with_reducible refine w_aNil ?_
  | ((with_reducible refine w_frz (ds := ?wd) ?wh ?wq); (case wh => exact rfl))
  | with_reducible refine w_itT ?_
  | with_reducible refine w_callD ?_
  | with_reducible refine w_tand ?_
  | with_reducible refine w_gEqI ?_
  | with_reducible refine w_gNeI ?_
  | with_reducible refine w_gLenT ?_
  | with_reducible refine w_lstF ?_
  | with_reducible refine w_callB ?_
  | with_reducible refine w_app ?_
  | with_reducible refine w_setI ?_
  | with_reducible refine w_drop ?_
  | with_reducible refine w_gIB ?_
  | with_reducible refine w_gBools ?_
  | with_reducible refine w_and ?_
  | with_reducible refine w_isN ?_
  | with_reducible refine w_or ?_
  | with_reducible refine w_ixO ?_
  | with_reducible refine w_gI ?_
  | with_reducible refine w_gLenL ?_
  | with_reducible refine w_gTuple ?_
  | with_reducible refine w_gInts ?_
  | ((with_reducible refine w_newS (ns := ?wd) ?wh ?wq); (case wh => exact rfl))
  | with_reducible refine w_un ?_
  | with_reducible refine w_if ?_
  | with_reducible refine w_chain ?_
  | ((with_reducible refine w_callS (ns := ?wd) ?wh ?wq); (case wh => exact rfl))
  | with_reducible refine w_sl ?_
  | with_reducible refine w_noPart ?_
  | with_reducible refine w_part ?_
  | with_reducible refine w_listRg ?_
  | with_reducible refine w_enumK ?_
  | with_reducible refine w_repF ?_
  | with_reducible refine w_gIC ?_
  | with_reducible refine w_gCat ?_
  | with_reducible refine w_gCatT ?_
  | with_reducible refine w_notN ?_
  | with_reducible refine w_listF ?_
  | with_reducible refine w_neg ?_
  | with_reducible refine w_gIsB ?_
  | with_reducible refine w_not ?_
  | with_reducible refine w_tru ?_
  | with_reducible refine w_callL ?_
  | with_reducible refine w_consO ?_
  | with_reducible refine w_lenO ?_
  | with_reducible refine w_tupleO ?_
  | with_reducible refine w_listO ?_
  | with_reducible refine w_inO ?_
  | with_reducible refine w_truO ?_
  | with_reducible refine w_zipK ?_
  | with_reducible refine w_retN ?_
  | ((with_reducible refine w_aug (a := ?wd) ?wh ?wq); (case wh => exact rfl))
  | with_reducible refine w_gInL ?_
  | with_reducible refine w_gIntI ?_
  | with_reducible refine w_gRevL ?_
  | with_reducible refine w_gSlL ?_
  | with_reducible refine w_gSlT ?_
  | with_reducible refine w_itF ?_
  | with_reducible refine w_gList ?_
  | with_reducible refine w_gSortI ?_
  | with_reducible refine w_range2 ?_
  | ((with_reducible refine w_lcO (ds := ?wd) ?wh ?wq ?wr); (case wh => exact rfl); (case wq => exact rfl))
  | with_reducible refine w_aUnl rfl ?_
  | with_reducible refine w_brk ?_
  | with_reducible refine w_cnt ?_
  | with_reducible refine w_gIntB ?_
  | with_reducible refine w_getD ?_
  | with_reducible refine w_keyS ?_
  | with_reducible refine w_keyI ?_
  | with_reducible refine w_putD ?_
  | with_reducible refine w_ownCallD ?_
  | with_reducible refine w_callDF ?_
  | with_reducible refine w_gIxQL ?_
  | with_reducible refine w_gIxQT ?_
  | ((with_reducible refine w_revO (ds := ?wd) ?wh ?wq); (case wh => exact rfl))
  | ((with_reducible refine w_isNOd (d := ?wd) ?wh ?wq); (case wh => exact rfl))
  | ((with_reducible refine w_isNOo (ds := ?wd) ?wh ?wq); (case wh => exact rfl))
  | with_reducible refine w_toS ?_
  | with_reducible refine w_m0 ?_
  | with_reducible refine w_m1 ?_
  | with_reducible refine w_gIsdigit ?_
  | with_reducible refine w_gIsascii ?_
  | with_reducible refine w_gRemoveprefix ?_
  | with_reducible refine w_gPartition ?_
  | with_reducible refine w_gSplit ?_
  | with_reducible refine w_join ?_
  | with_reducible refine w_joinO ?_
  | with_reducible refine w_joinR ?_
  | with_reducible refine w_gInS ?_
  | with_reducible refine w_gIxS ?_
  | with_reducible refine w_gSlS ?_
  | with_reducible refine w_iterS ?_
  | with_reducible refine w_gRepS ?_
  | with_reducible refine w_gCatS ?_
  | with_reducible refine w_gLenS ?_
  | with_reducible refine w_gStrI ?_
  | with_reducible refine w_gIntS ?_
  | with_reducible refine w_fmt ?_
  | with_reducible refine w_toFmtS ?_
  | with_reducible refine w_toFmtI ?_
  | with_reducible refine w_joined ?_
  | with_reducible refine w_jsCons ?_
  | with_reducible refine w_jsNil ?_
  | with_reducible refine w_gMin2 ?_
  | with_reducible refine w_gEqS ?_
  | with_reducible refine w_gNeS ?_
  | simp only [wipeS, backS, List.set_cons_zero, List.set_cons_succ, List.getElem?_cons_zero, List.getElem?_cons_succ, Option.join_some, Option.join_none, Bool.not_true, Bool.not_false]))
local macro_rules | `(tactic| walk_at "wv") => `(tactic| ((repeat (walk_at "wv1"; try dsimp only)); try simp only [List.set_cons_zero, List.set_cons_succ]))
local macro_rules | `(tactic| walk_at "st") => `(tactic| simp only [startS, List.map_cons, List.map_nil, List.length_cons, List.length_nil, Nat.reduceAdd, Nat.reduceSub, List.replicate_succ, List.replicate_zero, List.cons_append, List.nil_append])

section
/-! ### alike states: what the law sees of a state -/
open PySem L2 PySem.W
theorem w_sortKs40 {i : Nat} {S : SS} {ps : List (Int × Int)} {k : List PyData × SS → Prop} (h : S[i]? = some (some (.dic (rwD ps)))) (hl : ps.length < 64) (nd : (ps.map (·.1)).Nodup) (q : k (((sortP ps).map (·.1)).map PyData.int, S)) : (vSortKs i S).okTo k := by
  have e : sortI (ps.map (·.1)) = (sortP ps).map (·.1) := ints_uniq ((sortI_perm _).trans ((sortP_perm ps).map _).symm) (sortI_rise _) (List.pairwise_map.mpr ((sortP_rise nd).imp fun z => by omega))
  unfold vSortKs dicD
  rw [h]
  show ((match intKs (rwD ps) with
    | some ps => R.when (ps.length < 64) (.ok ((sortI (ps.map (·.1))).map PyData.int, S))
    | none => .bad) : R (List PyData × SS)).okTo k
  rw [intKs_rwD]
  refine okTo_when.mpr ⟨hl, ?_⟩
  rw [e]
  exact q
theorem val_row {ps : List (Int × Int)} (nd : (ps.map (·.1)).Nodup) {p : Int × Int} (h : p ∈ ps) : valD (rwD ps) (.inl p.1) = some (.int p.2) := by
  have v := val_rwD ps p.1
  rw [atR_mem nd h] at v
  cases e : valD (rwD ps) (.inl p.1) with
  | some d =>
    rw [e] at v
    rw [show d = .int p.2 from v]
  | none =>
    exfalso
    unfold valD rwD at e
    have m := Option.map_eq_none_iff.mp e
    have := List.find?_eq_none.mp m ((.inl p.1 : Key), PyData.int p.2) (List.mem_map.mpr ⟨p, h, rfl⟩)
    simp at this
theorem ixD_ns {ns : List Nat} {e : Int} (h0 : 0 ≤ e) (h1 : e < (ns.length : Int)) : ixD (ns.map fun j => PyData.int (j : Nat)) e = .ok (.int ((ns.getD e.toNat 0 : Nat) : Int)) := by
  obtain ⟨a, ha⟩ : ∃ a : Nat, e = (a : Nat) := ⟨e.toNat, by omega⟩
  have hlt : a < ns.length := by omega
  rw [ha, Int.toNat_natCast, List.getD_eq_getElem?_getD, List.getElem?_eq_getElem hlt]
  exact ixD_nat (by rw [List.getElem?_map, List.getElem?_eq_getElem hlt]; rfl)
theorem wsum_le40 : ∀ {es : List (Int × Int)}, (∀ e ∈ es, 1 ≤ e.2 ∧ e.2 ≤ 3000) → 0 ≤ wsum es ∧ wsum es ≤ 3000 * (es.length : Int)
  | [], _ => ⟨Int.le_refl _, by simp [wsum]⟩
  | e :: r, h => by
    have ih := wsum_le40 fun x hx => h x (List.mem_cons_of_mem _ hx)
    have := h e List.mem_cons_self
    have ec : wsum (e :: r) = e.2 + wsum r := rfl
    rw [ec, List.length_cons]
    omega
open Classical in
theorem l_sight_ok {y : List (List Cho)} {ns : List Nat} {j : Nat} {s : List Cho} {k : PyData → Prop} (hj : y[j]? = some s) (hl : s.length ≤ 100) (hn : ns.length = y.length) (he : ∀ c ∈ s, Ends41 y.length c.2 ∧ c.2.length < 64) (q : k (.list (sgtD ns s))) :
    (den_l_sight [dY y, .list (ns.map fun j => .int (j : Nat)), .int (j : Nat)]).okTo k := by
  unfold den_l_sight body_l_sight
  refine w_denP ?_
  walk_at "st"
  walk_at "wv"
  refine ⟨by simp, ?_⟩
  walk_at "wv"
  refine okTo_eq (a := dS s) (ixD_nat (ds := y.map dS) (by rw [List.getElem?_map, hj]; rfl)) ?_
  walk_at "wv"
  refine ⟨s.map dC, rfl, ?_⟩
  refine loop_ok (fun t S => S = [some (.dat (dY y)), some (.dat (.list (ns.map fun j => .int (j : Nat)))), some (.dat (.int (j : Nat))), some (.own (seenD [] ((s.take t).map (lrD ns)))), none, none, none, none, none, none, none, none, none]) ?_ ?_ rfl
  · rintro t d S hd rfl
    rw [List.getElem?_map] at hd
    obtain ⟨c, hx, rfl⟩ := Option.map_eq_some_iff.mp hd
    obtain ⟨⟨⟨e1, e2⟩, e3⟩, e4⟩ := he c (List.mem_of_getElem? hx)
    rw [← hn] at e2
    rw [show dC c = .tuple [.int c.1, .tuple (c.2.map prD)] from rfl]
    refine w_aTup rfl (w_aCons (w_aName (w_aCons (w_aName (w_aNil ?_)))))
    walk_at "wv"
    refine ⟨c.2.map prD, rfl, ⟨rfl, by rw [List.length_map]; omega⟩, ?_⟩
    refine lc_ok (fun p acc Z => acc = ((c.2.take p).map (·.2)).map PyData.int ∧ Z = [some (.dat (dY y)), some (.dat (.list (ns.map fun j => .int (j : Nat)))), some (.dat (.int (j : Nat))), some (.own (seenD [] ((s.take t).map (lrD ns)))), some (.dat (.int c.1)), some (.dat (.tuple (c.2.map prD))), none, none, none, none, none, none, none]) ?_ ?_ ⟨rfl, rfl⟩
    · rintro p dp acc Z hp ⟨rfl, rfl⟩
      rw [List.getElem?_map] at hp
      obtain ⟨e, hee, rfl⟩ := Option.map_eq_some_iff.mp hp
      walk_at "wv"
      refine okTo_eq (a := .int e.2) rfl ?_
      rw [List.take_add_one, hee, Option.toList_some, List.map_append, List.map_append]
      exact ⟨rfl, by first | trivial | rfl⟩
    rintro acc Z ⟨rfl, rfl⟩
    rw [List.length_map, List.take_length]
    walk_at "wv"
    rw [show (c.2.map (·.2)).sum = wsum c.2 from rfl]
    refine w_newD40 ?_
    walk_at "wv"
    refine ⟨c.2.map prD, rfl, ?_⟩
    refine loop_ok (fun p S => S = [some (.dat (dY y)), some (.dat (.list (ns.map fun j => .int (j : Nat)))), some (.dat (.int (j : Nat))), some (.own (seenD [] ((s.take t).map (lrD ns)))), some (.dat (.int c.1)), some (.dat (.tuple (c.2.map prD))), some (.dat (.int (wsum c.2))), some (.dic (rwD (rowR ns (c.2.take p)))), none, none, none, none, none]) ?_ ?_ rfl
    · rintro p d S hd rfl
      rw [List.getElem?_map] at hd
      obtain ⟨e, hee, rfl⟩ := Option.map_eq_some_iff.mp hd
      have em := e2 e (List.mem_of_getElem? hee)
      rw [show prD e = .tuple [.int e.1, .int e.2] from rfl]
      refine w_aTup rfl (w_aCons (w_aName (w_aCons (w_aName (w_aNil ?_)))))
      have ix := ixD_ns (ns := ns) em.1 em.2.1
      walk_at "wv"
      refine w_get2 ?_
      walk_at "wv"
      refine okTo_eq ix ?_
      walk_at "wv"
      rw [val_rwD]
      walk_at "wv"
      refine okTo_eq ix ?_
      walk_at "wv"
      refine ⟨by rw [rwD_len]; have := rowR_len ns (es := c.2.take p) rfl; rw [List.length_take] at this; omega, ?_⟩
      rw [put_rwD, List.take_add_one, hee]
      show _ = [_, _, _, _, _, _, _, some (SV.dic (rwD (rowR ns (c.2.take p ++ [e])))), _, _, _, _, _]
      rw [rowR_snoc]
      rfl
    rintro S rfl
    rw [List.length_map, List.take_length]
    walk_at "wv"
    have rl := rowR_len ns (es := c.2) rfl
    have nd := rowR_nd ns (es := c.2) rfl
    refine w_sortKs40 rfl (by omega) nd ?_
    have sl : (sortP (rowR ns c.2)).length ≤ 1000 := by rw [(sortP_perm _).length_eq]; omega
    refine ⟨_, rfl, ⟨rfl, by rw [List.length_map, List.length_map]; omega⟩, ?_⟩
    have ws := wsum_le40 fun e hx => (e2 e hx).2.2
    have wp := wsum_pos40 e3 fun e hx => (e2 e hx).2.2.1
    obtain ⟨pa, pb⟩ : (1000000 : Nat) < 2 ^ 400 ∧ (1000000 : Nat) < 2 ^ 900 := by decide +kernel
    refine lc_ok (fun p acc Z => acc = ((sortP (rowR ns c.2)).take p).map (fun p => .tuple [.int p.1, dQ (Rat.divInt p.2 (wsum c.2))]) ∧ Z = [some (.dat (dY y)), some (.dat (.list (ns.map fun j => .int (j : Nat)))), some (.dat (.int (j : Nat))), some (.own (seenD [] ((s.take t).map (lrD ns)))), some (.dat (.int c.1)), some (.dat (.tuple (c.2.map prD))), some (.dat (.int (wsum c.2))), some (.dic (rwD (rowR ns c.2))), none, none, none, none, none]) ?_ ?_ ⟨rfl, rfl⟩
    · rintro p d acc Z hd ⟨rfl, rfl⟩
      rw [List.getElem?_map, List.getElem?_map] at hd
      obtain ⟨z1, hz1, rfl⟩ := Option.map_eq_some_iff.mp hd
      obtain ⟨x, hx2, rfl⟩ := Option.map_eq_some_iff.mp hz1
      have xm : x ∈ rowR ns c.2 := (sortP_perm _).mem_iff.mp (List.mem_of_getElem? hx2)
      have x1 := rowR_pos ns rfl (fun e hm => (e2 e hm).2.2.1) x xm
      have x2 := rowR_le ns rfl (fun e hm => (e2 e hm).2.2.2) x xm
      walk_at "wv"
      refine ⟨_, val_row nd xm, ?_⟩
      walk_at "wv"
      refine ⟨rfl, l_ratio_ok (by omega) (Nat.lt_of_le_of_lt (show x.2.natAbs ≤ 1000000 by omega) pb) (Nat.lt_of_le_of_lt (show (wsum c.2).natAbs ≤ 1000000 by omega) pb) ?_⟩
      walk_at "wv"
      refine ⟨by simp, ?_⟩
      rw [List.take_add_one, hx2, List.map_append]
      exact ⟨rfl, by first | trivial | rfl⟩
    rintro acc Z ⟨rfl, rfl⟩
    rw [List.length_map, List.length_map, List.take_length]
    walk_at "wv"
    refine ⟨by simp, ?_⟩
    walk_at "wv"
    refine w_notInO ?_
    walk_at "wv"
    have pk : ∀ z ∈ (s.take t).map (lrD ns), Pn 4 z := fun z hz => by
      obtain ⟨c', _, rfl⟩ := List.mem_map.mp hz
      exact pn_lr ns c'
    have ps := pn_seen pk
    have tk : (s.take (t + 1)).map (lrD ns) = (s.take t).map (lrD ns) ++ [lrD ns c] := by
      rw [List.take_add_one, hx, List.map_append]
      rfl
    have sl := seenD_len ((s.take t).map (lrD ns)) []
    rw [List.length_nil, List.length_map, List.length_take] at sl
    have sd : Pn 5 (.list (seenD [] ((s.take t).map (lrD ns)))) := fun d hd => ps d hd
    rw [show PyData.tuple [.int c.1, .tuple ((sortP (rowR ns c.2)).map fun p => .tuple [.int p.1, dQ (Rat.divInt p.2 (wsum c.2))])] = lrD ns c from rfl]
    refine ⟨⟨pn_shaped (pn_lr ns c) (by decide), pn_shaped sd (by decide)⟩, ?_⟩
    walk_at "wv"
    have an := any_pn ps (pn_lr ns c)
    rw [tk, seenD_app]
    by_cases m : lrD ns c ∈ seenD [] ((s.take t).map (lrD ns))
    · have e := an.mpr m
      refine ifN (by rw [show ((seenD [] ((s.take t).map (lrD ns))).any fun z => z.eqv (lrD ns c)) = true from e]; decide) ?_
      rw [if_pos m]
      walk_at "wv"
    · have e := Bool.eq_false_iff.mpr fun z => m (an.mp z)
      refine ifP (by rw [show ((seenD [] ((s.take t).map (lrD ns))).any fun z => z.eqv (lrD ns c)) = false from e]; rfl) ?_
      rw [if_neg m]
      walk_at "wv"
      exact ⟨by omega, by first | trivial | rfl⟩
  · rintro S rfl
    rw [List.length_map, List.take_length]
    walk_at "wv"
    unfold gSortD
    simp only
    have mem : ∀ d ∈ seenD [] (s.map (lrD ns)), ∃ c ∈ s, d = lrD ns c := fun d hd => by
      obtain ⟨c, hc, e⟩ := List.mem_map.mp (seen_iff.mp hd)
      exact ⟨c, hc, e.symm⟩
    refine okTo_when.mpr ⟨⟨⟨fun d hd e he => ?_, .inl fun d hd => ?_⟩, fun d hd => ?_⟩, q⟩
    · obtain ⟨c, _, rfl⟩ := mem d hd
      obtain ⟨c', _, rfl⟩ := mem e he
      exact alike_lr ns c c'
    · obtain ⟨c, _, rfl⟩ := mem d hd
      exact ⟨_, _, rfl⟩
    · obtain ⟨c, _, rfl⟩ := mem d hd
      have := (pn_shp (pn_lr ns c)).2
      omega

end
section
/-! ### alike states: the law's blocks -/
open PySem L2 PySem.W
theorem shp_shD40 {n : Nat} {d : PyData} (h : Pn n d) (hn : n ≤ 32) : shD d = true := by
  have := pn_shp h
  unfold shD
  rw [Bool.and_eq_true, decide_eq_true_eq]
  exact ⟨this.1, Nat.le_trans this.2 hn⟩
theorem flt1 (f : Nat → Bool) (r : Nat) : [r].filter f = if f r = true then [r] else [] := by rw [List.filter_cons, List.filter_nil]
theorem fiD_pos : ∀ {gs : List Int} {g : Int}, g ∈ gs → fiD (.int g) (gs.map PyData.int) = some (posD (gs.map PyData.int) (.int g))
  | a :: gs, g, h => by
    rw [List.map_cons]
    unfold fiD
    by_cases c : a = g
    · rw [if_pos (by rw [c]; exact decide_eq_true rfl)]
      have : posD (.int a :: gs.map PyData.int) (.int g) = 0 := if_pos (by rw [c])
      rw [this]
    · rw [if_neg (by show ¬ decide (a = g) = true; rw [decide_eq_false c]; exact Bool.false_ne_true)]
      have : posD (.int a :: gs.map PyData.int) (.int g) = posD (gs.map PyData.int) (.int g) + 1 := if_neg fun z => c (by injection z)
      rw [this, fiD_pos (by rcases List.mem_cons.mp h with z | z; exact absurd z.symm c; exact z)]
      rfl
theorem fiX_pos {n : Nat} : ∀ {ks : List PyData} {d : PyData}, (∀ k ∈ ks, Pn n k) → d ∈ ks → fiX d ks = some (posD ks d)
  | a :: ks, d, hp, h => by
    unfold fiX
    by_cases c : a = d
    · rw [if_pos ((eqv_pn (hp a List.mem_cons_self) (hp d h)).mpr c)]
      have : posD (a :: ks) d = 0 := if_pos c
      rw [this]
    · rw [if_neg fun z => c ((eqv_pn (hp a List.mem_cons_self) (hp d h)).mp z)]
      have : posD (a :: ks) d = posD ks d + 1 := if_neg c
      rw [this, fiX_pos (fun k hk => hp k (List.mem_cons_of_mem _ hk)) (by rcases List.mem_cons.mp h with z | z; exact absurd z.symm c; exact z)]
      rfl
theorem gIndex_ok {gs : List Int} {g : Int} (h : g ∈ gs) : gIndex (.list (gs.map PyData.int)) (.int g) = .ok (.int ((posD (gs.map PyData.int) (.int g) : Nat) : Int)) := by
  have fl : (gs.map PyData.int).all flatD = true := List.all_eq_true.mpr fun d hd => by
    obtain ⟨i, _, rfl⟩ := List.mem_map.mp hd
    rfl
  unfold gIndex
  show R.when (flatD (.int g) = true ∧ (gs.map PyData.int).all flatD = true) _ = _
  rw [fiD_pos h]
  exact if_pos ⟨rfl, fl⟩
theorem gIndexD_ok {n : Nat} {ks : List PyData} {d : PyData} (hn : n ≤ 30) (hp : ∀ k ∈ ks, Pn n k) (h : d ∈ ks) : gIndexD (.list ks) d = .ok (.int ((posD ks d : Nat) : Int)) := by
  have a : shD d = true ∧ ks.all shD = true := ⟨shp_shD40 (hp d h) (by omega), List.all_eq_true.mpr fun d hd => shp_shD40 (hp d hd) (by omega)⟩
  show R.when (shD d = true ∧ ks.all shD = true) _ = _
  rw [fiX_pos hp h]
  exact if_pos a
theorem pn_lk (ns : List Nat) (n : Nat) (s : List Cho) : Pn 6 (lkD ns n s) := by
  intro d hd
  simp only [List.mem_cons, List.not_mem_nil, or_false] at hd
  rcases hd with rfl | rfl
  · exact pn_int _
  · intro d hd
    have := (List.mergeSort_perm _ _).mem_iff.mp hd
    obtain ⟨c, _, rfl⟩ := List.mem_map.mp (seen_iff.mp this)
    exact pn_lr ns c
def Law41 (y : List (List Cho)) : Prop := y ≠ [] ∧ y.length ≤ 100 ∧ ∀ s ∈ y, s.length ≤ 100 ∧ ∀ c ∈ s, Ends41 y.length c.2 ∧ c.2.length < 64
theorem l_blocks_ok {y : List (List Cho)} {gs : List Int} {k : PyData → Prop} (hy : Law41 y) (hg : gs.length = y.length) (q : k (finD (lit40 y gs y.length))) : (den_l_blocks [dY y, .list (gs.map PyData.int)]).okTo k := by
  obtain ⟨ne, hl, hs⟩ := hy
  unfold den_l_blocks body_l_blocks
  refine w_denP ?_
  walk_at "st"
  walk_at "wv"
  refine okTo_eq gLen_y ?_
  walk_at "wv"
  refine ⟨_, rfl, ⟨rfl, by rw [List.length_map]; omega⟩, ?_⟩
  refine lc_ok (fun p acc Z => acc = ((fstD (gs.map PyData.int)).take p).map (fun j : Nat => .int (j : Nat)) ∧ Z = [some (.dat (dY y)), some (.dat (.list (gs.map PyData.int))), some (.dat (.int (y.length : Nat))), none, none, none, none, none, none]) ?_ ?_ ⟨rfl, rfl⟩
  · rintro p d acc Z hd ⟨rfl, rfl⟩
    rw [List.getElem?_map] at hd
    obtain ⟨g, hx, rfl⟩ := Option.map_eq_some_iff.mp hd
    walk_at "wv"
    refine w_index ?_
    walk_at "wv"
    refine ⟨_, rfl, ?_⟩
    walk_at "wv"
    refine okTo_eq (gIndex_ok (List.mem_of_getElem? hx)) ?_
    have e : (fstD (gs.map PyData.int))[p]? = some (posD (gs.map PyData.int) (.int g)) := by
      unfold fstD
      rw [List.getElem?_map, List.getElem?_map, hx]
      rfl
    rw [List.take_add_one, e, Option.toList_some, List.map_append]
    exact ⟨rfl, trivial⟩
  · rintro acc Z ⟨rfl, rfl⟩
    rw [List.length_map, show gs.length = (fstD (gs.map PyData.int)).length from by rw [fst_len, List.length_map], List.take_length]
    walk_at "wv"
    refine ⟨_, rfl, ⟨by omega, by omega⟩, ?_⟩
    rw [Int.toNat_natCast]
    refine loop_ok (fun t S => S = [some (.dat (dY y)), some (.dat (.list (gs.map PyData.int))), some (.dat (.int (y.length : Nat))), some (.dat (dNs (lit40 y gs t))), none, none, none, none, none]) ?_ ?_ rfl
    · rintro t d S hd rfl
      obtain ⟨ht, rfl⟩ := rangeD_get hd
      have nl := lit_len y hg t
      have st : lit40 y gs (t + 1) = lrn40 y (lit40 y gs t) := rfl
      generalize hns : lit40 y gs t = ns at nl st
      walk_at "wv"
      refine ⟨_, rfl, ⟨by omega, by omega⟩, ⟨rfl, by rw [rangeD_len]; omega⟩, ?_⟩
      rw [Int.toNat_natCast]
      have kl := lkys_len (y := y) nl
      refine lc_ok (fun p acc Z => acc = (lkys y ns).take p ∧ Z = [some (.dat (dY y)), some (.dat (.list (gs.map PyData.int))), some (.dat (.int (y.length : Nat))), some (.dat (dNs ns)), some (.dat (.int (0 + (t : Nat)))), none, none, none, none]) ?_ ?_ ⟨rfl, rfl⟩
      · rintro p d acc Z hd ⟨rfl, rfl⟩
        obtain ⟨hp, rfl⟩ := rangeD_get hd
        rw [Int.zero_add]
        obtain ⟨s, hs1⟩ : ∃ s, y[p]? = some s := ⟨y[p], List.getElem?_eq_getElem hp⟩
        have sm := List.mem_of_getElem? hs1
        walk_at "wv"
        refine okTo_eq (ixD_ns (ns := ns) (e := (p : Int)) (by omega) (by omega)) ?_
        rw [Int.toNat_natCast]
        walk_at "wv"
        refine ⟨rfl, l_sight_ok hs1 (hs s sm).1 nl (hs s sm).2 ?_⟩
        walk_at "wv"
        refine ⟨by simp, ?_⟩
        have ek : (lkys y ns)[p]? = some (lkD ns (ns.getD p 0) s) := by
          unfold lkys
          rw [List.getElem?_map, zip_at rfl nl hp [] 0, List.getD_eq_getElem?_getD, hs1]
          rfl
        rw [List.take_add_one, ek]
        exact ⟨rfl, by first | trivial | rfl⟩
      · rintro acc Z ⟨rfl, rfl⟩
        rw [rangeD_len, show (lkys y ns).take y.length = lkys y ns from by rw [← kl]; exact List.take_length]
        walk_at "wv"
        refine ⟨_, rfl, ⟨rfl, by omega⟩, ?_⟩
        refine lc_ok (fun p acc Z => acc = ((fstD (lkys y ns)).take p).map (fun j : Nat => .int (j : Nat)) ∧ Z = [some (.dat (dY y)), some (.dat (.list (gs.map PyData.int))), some (.dat (.int (y.length : Nat))), some (.dat (dNs ns)), some (.dat (.int (0 + (t : Nat)))), some (.dat (.list (lkys y ns))), none, none, none]) ?_ ?_ ⟨rfl, rfl⟩
        · rintro p d acc Z hd ⟨rfl, rfl⟩
          walk_at "wv"
          refine w_indexD ?_
          walk_at "wv"
          refine ⟨_, rfl, ?_⟩
          walk_at "wv"
          refine okTo_eq (gIndexD_ok (n := 6) (by decide) (fun k hk => by obtain ⟨q, _, rfl⟩ := List.mem_map.mp hk; exact pn_lk _ _ _) (List.mem_of_getElem? hd)) ?_
          have e : (fstD (lkys y ns))[p]? = some (posD (lkys y ns) d) := by
            unfold fstD
            rw [List.getElem?_map, hd]
            rfl
          rw [List.take_add_one, e, Option.toList_some, List.map_append]
          exact ⟨rfl, by first | trivial | rfl⟩
        · rintro acc Z ⟨rfl, rfl⟩
          rw [show (fstD (lkys y ns)).take (lkys y ns).length = fstD (lkys y ns) from by rw [← fst_len]; exact List.take_length]
          walk_at "wv"
          rw [st]
          rfl
    · rintro S rfl
      rw [rangeD_len]
      walk_at "wv"
      refine ⟨_, rfl, ⟨by omega, by omega⟩, ⟨rfl, by rw [rangeD_len]; omega⟩, ?_⟩
      rw [Int.toNat_natCast]
      have nl := lit_len y hg y.length
      generalize lit40 y gs y.length = ns at q nl
      have one : ∀ p, p < y.length → ixD (ns.map fun j => PyData.int (j : Nat)) (p : Int) = .ok (.int ((ns.getD p 0 : Nat) : Int)) := fun p hp => by
        have := ixD_ns (ns := ns) (e := (p : Int)) (by omega) (by omega)
        rwa [Int.toNat_natCast] at this
      have dec : ∀ p k : Nat, p < y.length → (decide (((ns.getD p 0 : Nat) : Int) = (k : Int)) = decide (ns[p]? = some k)) := fun p k hp => by
        rw [List.getD_eq_getElem?_getD, List.getElem?_eq_getElem (show p < ns.length by omega)]
        rw [decide_eq_decide, Option.some_inj]
        exact Int.ofNat_inj
      refine lc_ok (fun p acc Z => acc = ((List.range p).filter fun k => decide (ns[k]? = some k)).map (fun k => PyData.list (((List.range y.length).filter fun j => decide (ns[j]? = some k)).map fun s => .int (s : Nat))) ∧ Z = [some (.dat (dY y)), some (.dat (.list (gs.map PyData.int))), some (.dat (.int (y.length : Nat))), some (.dat (dNs ns)), none, none, none, none, none]) ?_ ?_ ⟨rfl, rfl⟩
      · rintro p d acc Z hd ⟨rfl, rfl⟩
        obtain ⟨hp, rfl⟩ := rangeD_get hd
        rw [Int.zero_add]
        walk_at "wv"
        refine okTo_eq (one p hp) ?_
        walk_at "wv"
        rw [dec p p hp, List.range_succ, List.filter_append, List.map_append]
        by_cases c : decide (ns[p]? = some p) = true
        · rw [if_pos c]
          walk_at "wv"
          refine ⟨_, rfl, ⟨by omega, by omega⟩, ⟨rfl, by rw [rangeD_len]; omega⟩, ?_⟩
          rw [Int.toNat_natCast]
          refine lc_ok (fun q acc Z => acc = ((List.range q).filter fun j => decide (ns[j]? = some p)).map (fun s => .int (s : Nat)) ∧ Z = [some (.dat (dY y)), some (.dat (.list (gs.map PyData.int))), some (.dat (.int (y.length : Nat))), some (.dat (dNs ns)), some (.dat (.int (p : Nat))), none, none, none, none]) ?_ ?_ ⟨rfl, rfl⟩
          · rintro r d acc Z hd ⟨rfl, rfl⟩
            obtain ⟨hr, rfl⟩ := rangeD_get hd
            rw [Int.zero_add]
            walk_at "wv"
            refine okTo_eq (one r hr) ?_
            walk_at "wv"
            rw [dec r p hr, List.range_succ, List.filter_append, List.map_append]
            by_cases c2 : decide (ns[r]? = some p) = true
            · rw [if_pos c2, show [r].filter (fun j => decide (ns[j]? = some p)) = [r] from by rw [flt1]; exact if_pos c2]
              exact ⟨rfl, by first | trivial | rfl⟩
            · rw [if_neg c2, show [r].filter (fun j => decide (ns[j]? = some p)) = [] from by rw [flt1]; exact if_neg c2, List.map_nil, List.append_nil]
              exact ⟨rfl, by first | trivial | rfl⟩
          · rintro acc Z ⟨rfl, rfl⟩
            rw [rangeD_len]
            walk_at "wv"
            rw [show [p].filter (fun k => decide (ns[k]? = some k)) = [p] from by rw [flt1]; exact if_pos c]
            exact ⟨rfl, by first | trivial | rfl⟩
        · rw [if_neg c, show [p].filter (fun k => decide (ns[k]? = some k)) = [] from by rw [flt1]; exact if_neg c, List.map_nil, List.append_nil]
          exact ⟨rfl, by first | trivial | rfl⟩
      · rintro acc Z ⟨rfl, rfl⟩
        rw [rangeD_len]
        walk_at "wv"
        unfold finD at q
        rw [nl] at q
        exact q

end
section
/-! ### quotients: the program -/
open PySem L2 PySem.W
def memL (ns : List Nat) (b : Nat) : List Nat := (List.range ns.length).filter fun s => decide (ns[s]? = some b)
/-- the least state of a block -/
def lst (ns : List Nat) (b : Nat) : Nat := (memL ns b).headD 0
theorem mem_memL {ns : List Nat} {b s : Nat} : s ∈ memL ns b ↔ ns[s]? = some b := by
  unfold memL
  rw [List.mem_filter, List.mem_range, decide_eq_true_iff]
  exact ⟨fun h => h.2, fun h => ⟨(List.getElem?_eq_some_iff.mp h).1, h⟩⟩
theorem memL_ne {ks : List PyData} (ne : ks ≠ []) {b : Nat} (h : b < topN (numD ks) + 1) : memL (numD ks) b ≠ [] := by
  rw [top_num ne] at h
  have m : b ∈ List.range (seenD [] ks).length := List.mem_range.mpr h
  rw [← firsts_num (ks := ks) rfl] at m
  obtain ⟨i, hi, e⟩ := List.mem_map.mp m
  have il : i < ks.length := List.mem_range.mp (List.mem_filter.mp hi).1
  have il2 : i < (numD ks).length := by rw [num_len]; exact il
  have e' : (numD ks).getD i 0 = b := e
  intro z
  have : i ∈ memL (numD ks) b := mem_memL.mpr (by rw [← e', List.getD_eq_getElem?_getD, List.getElem?_eq_getElem il2]; rfl)
  rw [z] at this
  cases this
theorem lst_mem {ns : List Nat} {b : Nat} (h : memL ns b ≠ []) : ∃ r, memL ns b = lst ns b :: r ∧ ns[lst ns b]? = some b := by
  unfold lst
  cases e : memL ns b with
  | nil => exact absurd e h
  | cons a r =>
    refine ⟨r, rfl, ?_⟩
    show ns[a]? = some b
    exact mem_memL.mp (by rw [e]; exact List.mem_cons_self)
/-- what is asked of the numbers -/
structure Nums (y : List (List Cho)) (ns : List Nat) : Prop where
  len : ns.length = y.length
  ne : y ≠ []
  all : ∀ b, b < topN ns + 1 → memL ns b ≠ []
  top : ∀ j ∈ ns, j ≤ topN ns
  le : topN ns + 1 ≤ y.length
theorem nums_it {y : List (List Cho)} {gs : List Int} (hg : gs.length = y.length) (ne : y ≠ []) (t : Nat) : Nums y (it40 y gs t) := by
  obtain ⟨ks, kl, ke⟩ := it_num y hg t
  have kn : ks ≠ [] := fun z => ne (List.length_eq_zero_iff.mp (by rw [← kl, z]; rfl))
  refine ⟨it_len y hg t, ne, fun b hb => ?_, ?_, ?_⟩
  · rw [ke] at hb ⊢
    exact memL_ne kn hb
  · rw [ke]
    exact (topN_le fun z => kn (List.map_eq_nil_iff.mp z)).1
  · rw [ke, top_num kn, ← kl]
    have := seenD_len ks []
    rw [List.length_nil] at this
    omega
noncomputable def stQ (y : List (List Cho)) (ns : List Nat) (b : Nat) : List Cho := cbsC ns [] (y.getD (lst ns b) [])
/-- the quotient -/
noncomputable def QY (y : List (List Cho)) (ns : List Nat) : List (List Cho) := (List.range (topN ns + 1)).map (stQ y ns)
noncomputable def greatQ (y : List (List Cho)) (ns : List Nat) : Bool := (QY y ns).any fun s => s.any grE
theorem getD_mem {y : List (List Cho)} {i : Nat} (h : i < y.length) : y.getD i [] ∈ y := by
  rw [List.getD_eq_getElem?_getD, List.getElem?_eq_getElem h]
  exact List.getElem_mem h
theorem lst_lt {y : List (List Cho)} {ns : List Nat} (h : Nums y ns) {b : Nat} (hb : b < topN ns + 1) : lst ns b < y.length := by
  obtain ⟨r, _, e⟩ := lst_mem (h.all b hb)
  have := (List.getElem?_eq_some_iff.mp e).1
  rw [h.len] at this
  exact this
theorem it_fix {y : List (List Cho)} {gs : List Int} (hg : gs.length = y.length) : rnd40 y (it40 y gs y.length) = it40 y gs y.length := by
  have fe := fine_end (m := y.length) (fun t i => (it40 y gs t).getD i 0) (fun t i j hi hj e => ?_) (fun t st i j hi hj e => ?_)
  · obtain ⟨ks, kl, ke⟩ := it_num y hg y.length
    have nl := it_len y hg y.length
    have nl1 := it_len y hg (y.length + 1)
    have nl2 := rnd_len (y := y) nl
    rw [ke]
    refine rnd_still kl fun i j hi hj e => ?_
    rw [← ke] at e ⊢
    have := fe i j hi hj ((getD_eq (by omega) (by omega)).mpr e)
    exact (getD_eq (by omega) (by omega)).mp this
  · have nl := it_len y hg t
    have nl1 := it_len y hg (t + 1)
    have nl2 := rnd_len (y := y) nl
    exact (getD_eq (by omega) (by omega)).mpr (rnd_fine nl hi hj ((getD_eq (by omega) (by omega)).mp e))
  · obtain ⟨ks, kl, ke⟩ := it_num y hg t
    have nl := it_len y hg t
    have nl1 := it_len y hg (t + 1)
    have nl2 := rnd_len (y := y) nl
    have s0 : rnd40 y (numD ks) = numD ks := rnd_still kl fun i j hi hj e => by
      rw [← ke] at e ⊢
      have := st i j hi hj ((getD_eq (by omega) (by omega)).mpr e)
      exact (getD_eq (by omega) (by omega)).mp this
    rw [← ke] at s0
    have s1 := it_stay s0 1
    have s2 := it_stay s0 2
    show (it40 y gs (t + 2)).getD i 0 = (it40 y gs (t + 2)).getD j 0
    rw [s2, ← s1]
    exact e
theorem cbsD_tup (y : List (List Cho)) (ns : List Nat) (b : Nat) : PyData.tuple (cbsD ns (y.getD (lst ns b) [])) = dS (stQ y ns b) := by
  rw [cbs_eq]
  rfl
theorem rowR_len2 (ns : List Nat) (es : List (Int × Int)) : (srow ns es).length ≤ es.length := by
  unfold srow
  rw [(sortP_perm _).length_eq]
  exact rowR_len ns rfl
theorem stQ_of {y : List (List Cho)} {ns : List Nat} {b : Nat} {d : Cho} (h : d ∈ stQ y ns b) : ∃ c ∈ y.getD (lst ns b) [], d = cbC ns c := by
  rcases (cbsC_mem ns _ [] d).mp h with z | z
  · cases z
  · exact z
theorem quot_ends {y : List (List Cho)} {gs : List Int} (hy : Law41 y) (hg : gs.length = y.length) :
    (den_quotient [dY y, .list (gs.map PyData.int)]).ends (fun z => greatQ y (it40 y gs y.length) = false ∧ z = dY (QY y (it40 y gs y.length))) (fun e => greatQ y (it40 y gs y.length) = true ∧ e = ⟨"WeightTooGreat", none⟩) := by
  obtain ⟨ne, hl, hs⟩ := hy
  have nu := nums_it hg ne y.length
  unfold den_quotient body_quotient
  refine e_denP ?_
  walk_at "st"
  refine e_seq (endsOk ?_)
  walk_at "wv"
  refine ⟨rfl, bn_ok hl hg (fun s h => (hs s h).1) (fun s h c hc => ((hs s h).2 c hc).1.1) fun t ht => ?_⟩
  rw [it_end hg ht]
  generalize it40 y gs y.length = ns at nu
  have nl := nu.len
  have tl := nu.le
  have ty := nu.top
  walk_at "wv"
  refine e_seq (endsOk ?_)
  walk_at "wv"
  refine ⟨by simp, ?_⟩
  refine e_seq (endsOk ?_)
  walk_at "wv"
  have nne : ns ≠ [] := fun z => by
    rw [z] at nl
    exact ne (List.length_eq_zero_iff.mp nl.symm)
  refine ⟨rfl, mem_ok40 ⟨⟨nne, by omega, fun j hj => by have := ty j hj; omega⟩, ?_⟩⟩
  walk_at "wv"
  refine ⟨_, rfl, ?_⟩
  have ql : (QY y ns).length = topN ns + 1 := by
    unfold QY
    rw [List.length_map, List.length_range]
  refine loop_ok (fun t S => S = [some (.dat (dY y)), some (.dat (.list (gs.map PyData.int))), some (.dat (dNs ns)), some (.own (((QY y ns).take t).map dS)), none, none]) ?_ ?_ rfl
  · rintro b d S hd rfl
    rw [List.getElem?_map] at hd
    obtain ⟨b', hb', rfl⟩ := Option.map_eq_some_iff.mp hd
    obtain ⟨hb, e⟩ := List.getElem?_eq_some_iff.mp hb'
    rw [List.length_range] at hb
    rw [List.getElem_range] at e
    subst e
    obtain ⟨r, er, _⟩ := lst_mem (nu.all b hb)
    have lb := lst_lt nu hb
    have ym := getD_mem lb
    have ix : ixD (y.map dS) ((lst ns b : Nat) : Int) = .ok (dS (y.getD (lst ns b) [])) := ixD_nat (by rw [List.getElem?_map, List.getD_eq_getElem?_getD, List.getElem?_eq_getElem lb]; rfl)
    walk_at "wv"
    have i0 : ixD (((List.range ns.length).filter fun s => decide (ns[s]? = some b)).map fun s => PyData.int (s : Nat)) 0 = .ok (.int ((lst ns b : Nat) : Int)) := by
      show ixD ((memL ns b).map fun s => PyData.int (s : Nat)) ((0 : Nat) : Int) = _
      rw [er]
      exact ixD_nat rfl
    refine okTo_eq i0 ?_
    walk_at "wv"
    refine okTo_eq ix ?_
    walk_at "wv"
    refine ⟨rfl, cb_ok (hs _ ym).1 (fun c hc => by rw [nl]; exact ((hs _ ym).2 c hc).1.1) ?_⟩
    rw [cbsD_tup]
    walk_at "wv"
    refine ⟨by rw [List.length_map, List.length_take]; omega, ?_⟩
    have eq : (QY y ns)[b]? = some (stQ y ns b) := by
      unfold QY
      rw [List.getElem?_map, List.getElem?_range hb]
      rfl
    rw [List.take_add_one, eq, List.map_append]
    rfl
  · rintro S rfl
    rw [List.length_map, List.length_range, ← ql, List.take_length]
    walk_at "wv"
    have small : ∀ s ∈ QY y ns, s.length ≤ 100 ∧ ∀ c ∈ s, c.2.length ≤ 100 := fun s h => by
      obtain ⟨b, hb, rfl⟩ := List.mem_map.mp h
      have ym := getD_mem (lst_lt nu (List.mem_range.mp hb))
      refine ⟨?_, fun c hc => ?_⟩
      · have := cbsC_len ns (y.getD (lst ns b) []) []
        have := (hs _ ym).1
        rw [List.length_nil] at *
        show (cbsC ns [] _).length ≤ 100
        omega
      · obtain ⟨c0, h0, rfl⟩ := stQ_of hc
        show ((srow ns c0.2).map _).length ≤ 100
        rw [List.length_map]
        have := rowR_len2 ns c0.2
        have := ((hs _ ym).2 c0 h0).1.1.1
        omega
    refine e_seq (e_ifS ?_)
    walk_at "wv"
    refine lcO_ok (ds := (QY y ns).map dS) (fun t acc S => acc = (((QY y ns).take t).map fun s => PyData.bool (s.any grE)) ∧ S = [some (.dat (dY y)), some (.dat (.list (gs.map PyData.int))), some (.dat (dNs ns)), some (.own ((QY y ns).map dS)), none, none]) ?_ ?_ ?_ ?_ ⟨rfl, rfl⟩
    · rintro t acc S ⟨rfl, rfl⟩
      rfl
    · rw [List.length_map]
      omega
    · rintro t d acc S hd ⟨rfl, rfl⟩
      rw [List.getElem?_map] at hd
      obtain ⟨s, hx, rfl⟩ := Option.map_eq_some_iff.mp hd
      have sm := small s (List.mem_of_getElem? hx)
      walk_at "wv"
      refine ⟨rfl, great_ok sm.1 sm.2 ?_⟩
      rw [List.take_add_one, hx, List.map_append]
      exact ⟨rfl, trivial⟩
    · rintro acc S ⟨rfl, rfl⟩
      rw [List.length_map, List.take_length]
      walk_at "wv"
      rw [show (QY y ns).map (fun s => PyData.bool (s.any grE)) = ((QY y ns).map fun s => s.any grE).map PyData.bool from by rw [List.map_map]; rfl]
      walk_at "wv"
      have e : (((QY y ns).map fun s => s.any grE).any id) = greatQ y ns := by
        rw [List.any_map]
        rfl
      rw [e]
      cases g : greatQ y ns with
      | true =>
        refine ifP rfl ?_
        refine e_raise0 ?_
        walk_at "wv"
        simp
      | false =>
        refine ifN (by decide) ?_
        refine endsOk ?_
        walk_at "wv"
        first | exact ⟨trivial, rfl⟩ | exact ⟨rfl, rfl⟩ | simp

end
section
/-! ### quotients: what the law asks -/
open PySem L2 PySem.W
theorem sum_flt {p : Int × Int → Bool} : ∀ es : List (Int × Int), ((es.filter p).map (·.2)).sum = (es.map fun e => if p e = true then e.2 else 0).sum
  | [] => rfl
  | e :: es => by
    rw [List.filter_cons, List.map_cons, List.sum_cons, ← sum_flt es]
    by_cases c : p e = true
    · rw [if_pos c, if_pos c, List.map_cons, List.sum_cons]
    · rw [if_neg c, if_neg c, Int.zero_add]
theorem shr_le {ns : List Nat} : ∀ {es : List (Int × Int)} {b : Int}, (∀ e ∈ es, 1 ≤ e.2) → 0 ≤ shr ns es b ∧ shr ns es b ≤ wsum es
  | [], b, _ => ⟨Int.le_refl _, Int.le_refl _⟩
  | e :: es, b, h => by
    have ih := shr_le (ns := ns) (b := b) fun x hx => h x (List.mem_cons_of_mem _ hx)
    have he := h e List.mem_cons_self
    have e1 : shr ns (e :: es) b = (if ((ns.getD e.1.toNat 0 : Nat) : Int) = b then e.2 else 0) + shr ns es b := rfl
    have e2 : wsum (e :: es) = e.2 + wsum es := rfl
    rw [e1, e2]
    split <;> omega
def sumsQ (ns : List Nat) (es : List (Int × Int)) : List Int := (List.range (topN ns + 1)).map fun (k : Nat) => shr ns es (k : Int)
theorem gS_pos {ns : List Nat} {es : List (Int × Int)} (ne : es ≠ []) (hp : ∀ e ∈ es, 1 ≤ e.2) : 0 < gS ns es := by
  have s0 := srow_sum ns es
  have w := wsum_pos40 ne hp
  have rne : rowR ns es ≠ [] := fun z => by
    have : srow ns es = [] := List.length_eq_zero_iff.mp (by unfold srow; rw [(sortP_perm _).length_eq, z]; rfl)
    rw [this] at s0
    rw [← s0] at w
    exact absurd w (by decide)
  cases e : rowR ns es with
  | nil => exact absurd e rne
  | cons p r =>
    unfold gS
    refine gcdI_pos (.inr ⟨Int.le_refl _, p.2, ?_, ?_⟩)
    · rw [e]
      exact List.mem_cons_self
    · exact rowR_pos ns rfl hp p (by rw [e]; exact List.mem_cons_self)
theorem great_iff {ns : List Nat} {c : Cho} (ne : c.2 ≠ []) (hM : ∀ e ∈ c.2, (ns.getD e.1.toNat 0) < topN ns + 1) (hp : ∀ e ∈ c.2, 1 ≤ e.2) : decide (1000 < Int.fdiv (maxI (sumsQ ns c.2)) (gS ns c.2)) = grE (cbC ns c) := by
  have gp := gS_pos (ns := ns) ne hp
  have sne : sumsQ ns c.2 ≠ [] := fun z => by
    have := congrArg List.length z
    unfold sumsQ at this
    rw [List.length_map, List.length_range] at this
    exact absurd this (by rw [List.length_nil]; omega)
  obtain ⟨m1, m2⟩ := maxI_mem sne
  have mono : ∀ {a b : Int}, a ≤ b → Int.fdiv a (gS ns c.2) ≤ Int.fdiv b (gS ns c.2) := fun {a b} h => by
    rw [Int.fdiv_eq_ediv_of_nonneg _ (by omega), Int.fdiv_eq_ediv_of_nonneg _ (by omega)]
    exact Int.ediv_le_ediv gp h
  rw [Bool.eq_iff_iff, decide_eq_true_iff]
  unfold grE
  rw [List.any_eq_true]
  have row := srow_sums hM hp
  constructor
  · intro h
    obtain ⟨k, hk, e⟩ := List.mem_map.mp m1
    have pos : 0 < shr ns c.2 (k : Int) := by
      rw [← e] at h
      have nn := (shr_le (ns := ns) (b := (k : Int)) hp).1
      rcases Int.lt_or_eq_of_le nn with z | z
      · exact z
      · rw [← z, Int.zero_fdiv] at h
        omega
    refine ⟨((k : Int), Int.fdiv (shr ns c.2 (k : Int)) (gS ns c.2)), ?_, decide_eq_true (by rw [e]; exact h)⟩
    show _ ∈ (srow ns c.2).map fun p => (p.1, Int.fdiv p.2 (gS ns c.2))
    rw [row]
    exact List.mem_map.mpr ⟨((k : Int), shr ns c.2 (k : Int)), List.mem_map.mpr ⟨k, List.mem_filter.mpr ⟨hk, decide_eq_true pos⟩, rfl⟩, rfl⟩
  · rintro ⟨q, hq, h⟩
    have h := of_decide_eq_true h
    have hq' : q ∈ (srow ns c.2).map fun p => (p.1, Int.fdiv p.2 (gS ns c.2)) := hq
    rw [row] at hq'
    obtain ⟨p, hp', rfl⟩ := List.mem_map.mp hq'
    obtain ⟨k, hk, rfl⟩ := List.mem_map.mp hp'
    have := mono (m2 _ (List.mem_map.mpr ⟨k, (List.mem_filter.mp hk).1, rfl⟩))
    exact Int.lt_of_lt_of_le h this

end
section
/-! ### quotients: the law's due -/
open PySem L2 PySem.W
theorem inD_n41 {l : List Nat} {x : Nat} : inD (.int (x : Nat)) (l.map fun k => PyData.int (k : Nat)) = decide (x ∈ l) := by
  have e : (l.map fun k => PyData.int (k : Nat)) = (l.map fun k : Nat => (k : Int)).map PyData.int := by rw [List.map_map]; rfl
  rw [e, inD_int, decide_eq_decide]
  constructor
  · intro h
    obtain ⟨y, hy, e⟩ := List.mem_map.mp h
    rw [← Int.ofNat.inj e]
    exact hy
  · exact fun h => List.mem_map.mpr ⟨x, h, rfl⟩
theorem cbsC_snoc (ns : List Nat) : ∀ (s fs : List Cho) (c : Cho), cbsC ns fs (s ++ [c]) = @ite _ (cbC ns c ∈ cbsC ns fs s) (Classical.propDecidable _) (cbsC ns fs s) (cbsC ns fs s ++ [cbC ns c])
  | [], fs, c => rfl
  | a :: s, fs, c => cbsC_snoc ns s _ c
theorem pn_dC41 (ns : List Nat) (c : Cho) : Pn 3 (dC (cbC ns c)) := by
  rw [← cb_dC]
  exact pn_cb ns c
open Classical in
theorem due_ok {y : List (List Cho)} {gs : List Int} {k : PyData → Prop} (hy : Law41 y) (hg : gs.length = y.length) (q1 : greatQ y (it40 y gs y.length) = true → k .none) (q2 : greatQ y (it40 y gs y.length) = false → k (dY (QY y (it40 y gs y.length)))) :
    (den_l_due [dY y, .list (gs.map PyData.int)]).okTo k := by
  have hlaw := hy
  obtain ⟨ne, hl, hs⟩ := hy
  have hs41 : Sys41 y := fun s h c hc => ((hs s h).2 c hc).1
  have nu := nums_it hg ne y.length
  have bl := blocks_law hs41 hg ne (it_fix (y := y) hg)
  unfold den_l_due body_l_due
  refine w_denP ?_
  walk_at "st"
  walk_at "wv"
  refine ⟨rfl, l_blocks_ok hlaw hg ?_⟩
  rw [← bl]
  generalize it40 y gs y.length = ns at nu q1 q2
  have nl := nu.len
  have tl := nu.le
  have ty := nu.top
  have ql : (QY y ns).length = topN ns + 1 := by
    unfold QY
    rw [List.length_map, List.length_range]
  walk_at "wv"
  refine ⟨by simp, ?_⟩
  walk_at "wv"
  refine ⟨_, rfl, ?_⟩
  refine loop_ok (fun t S => S = [some (.dat (dY y)), some (.dat (.list (gs.map PyData.int))), some (.dat (memD ns (topN ns + 1))), some (.own (((QY y ns).take t).map dS)), none, none, none, none, none, none, none, none, none, none] ∧ ∀ s ∈ (QY y ns).take t, s.any grE = false) ?_ ?_ ⟨rfl, by simp⟩
  · rintro b d S hd ⟨rfl, hng⟩
    rw [List.getElem?_map] at hd
    obtain ⟨b', hb', rfl⟩ := Option.map_eq_some_iff.mp hd
    obtain ⟨hb, e⟩ := List.getElem?_eq_some_iff.mp hb'
    rw [List.length_range] at hb
    rw [List.getElem_range] at e
    subst e
    obtain ⟨r, er, _⟩ := lst_mem (nu.all b hb)
    have lb := lst_lt nu hb
    have ym := getD_mem lb
    have ix : ixD (y.map dS) ((lst ns b : Nat) : Int) = .ok (dS (y.getD (lst ns b) [])) := ixD_nat (by rw [List.getElem?_map, List.getD_eq_getElem?_getD, List.getElem?_eq_getElem lb]; rfl)
    have i0 : ixD (((List.range ns.length).filter fun s => decide (ns[s]? = some b)).map fun s => PyData.int (s : Nat)) 0 = .ok (.int ((lst ns b : Nat) : Int)) := by
      show ixD ((memL ns b).map fun s => PyData.int (s : Nat)) ((0 : Nat) : Int) = _
      rw [er]
      exact ixD_nat rfl
    have qb : (QY y ns)[b]? = some (stQ y ns b) := by
      unfold QY
      rw [List.getElem?_map, List.getElem?_range hb]
      rfl
    walk_at "wv"
    refine ⟨by simp, ?_⟩
    walk_at "wv"
    refine okTo_eq i0 ?_
    walk_at "wv"
    refine okTo_eq ix ?_
    have sq : stQ y ns b = cbsC ns [] (y.getD (lst ns b) []) := rfl
    generalize y.getD (lst ns b) [] = s at ym sq
    obtain ⟨sl, sc⟩ := hs s ym
    walk_at "wv"
    refine ⟨s.map dC, rfl, ?_⟩
    refine loop_ok (fun v S => S = [some (.dat (dY y)), some (.dat (.list (gs.map PyData.int))), some (.dat (memD ns (topN ns + 1))), some (.own (((QY y ns).take b).map dS)), some (.dat (.list ((memL ns b).map fun s => .int (s : Nat)))), some (.own ((cbsC ns [] (s.take v)).map dC)), none, none, none, none, none, none, none, none] ∧ ∀ c ∈ s.take v, grE (cbC ns c) = false) ?_ ?_ ⟨rfl, by simp⟩
    · rintro v d S hd ⟨rfl, hgc⟩
      rw [List.getElem?_map] at hd
      obtain ⟨c, hx, rfl⟩ := Option.map_eq_some_iff.mp hd
      obtain ⟨⟨⟨e1, e2⟩, e3⟩, e4⟩ := sc c (List.mem_of_getElem? hx)
      rw [show dC c = .tuple [.int c.1, .tuple (c.2.map prD)] from rfl]
      refine w_aTup rfl (w_aCons (w_aName (w_aCons (w_aName (w_aNil ?_)))))
      walk_at "wv"
      have hp : ∀ e ∈ c.2, 1 ≤ e.2 := fun e he => (e2 e he).2.2.1
      have hg0 : ∀ e ∈ c.2, e.1.toNat < ns.length := fun e he => by have := e2 e he; omega
      have hM : ∀ e ∈ c.2, (ns.getD e.1.toNat 0) < topN ns + 1 := fun e he => by
        have := hg0 e he
        have := ty (ns.getD e.1.toNat 0) (by rw [List.getD_eq_getElem?_getD, List.getElem?_eq_getElem this]; exact List.getElem_mem this)
        omega
      have ws := wsum_le40 fun e hx => (e2 e hx).2.2
      have sb : ∀ x ∈ sumsQ ns c.2, 0 ≤ x ∧ x ≤ 1000000 := fun x hx => by
        obtain ⟨k, _, rfl⟩ := List.mem_map.mp hx
        have := shr_le (ns := ns) (b := (k : Int)) hp
        omega
      have sln : (sumsQ ns c.2).length = topN ns + 1 := by
        unfold sumsQ
        rw [List.length_map, List.length_range]
      have gp := gS_pos (ns := ns) e3 hp
      have ge : gcdI 0 (sumsQ ns c.2) = gS ns c.2 := (gS_sums hM hp).symm
      have gl : gS ns c.2 ≤ 1000000 := by
        rw [← ge]
        exact (gcdI_le41 (N := 1000000) (by decide) (ws := sumsQ ns c.2) (g := 0) (Int.le_refl _) (by decide) sb).2
      have cf : ∀ i : Int, cFdiv i (gS ns c.2) = true := fun i => cFdiv_ok (by omega) (by omega)
      have gri := great_iff e3 hM hp
      have row := srow_sums hM hp
      refine ⟨_, rfl, ⟨rfl, by rw [List.length_map, List.length_range]; omega⟩, ?_⟩
      refine lc_ok (fun p acc Z => acc = ((sumsQ ns c.2).take p).map PyData.int ∧ Z = [some (.dat (dY y)), some (.dat (.list (gs.map PyData.int))), some (.dat (memD ns (topN ns + 1))), some (.own (((QY y ns).take b).map dS)), some (.dat (.list ((memL ns b).map fun s => .int (s : Nat)))), some (.own ((cbsC ns [] (s.take v)).map dC)), some (.dat (.int c.1)), some (.dat (.tuple (c.2.map prD))), none, none, none, none, none, none]) ?_ ?_ ⟨rfl, rfl⟩
      · rintro p d acc Z hd ⟨rfl, rfl⟩
        rw [List.getElem?_map] at hd
        obtain ⟨p', hp', rfl⟩ := Option.map_eq_some_iff.mp hd
        obtain ⟨hpl, e⟩ := List.getElem?_eq_some_iff.mp hp'
        rw [List.length_range] at hpl
        rw [List.getElem_range] at e
        subst e
        walk_at "wv"
        refine ⟨_, rfl, ⟨rfl, by rw [List.length_map]; omega⟩, ?_⟩
        refine lc_ok (fun j acc Z => acc = ((((c.2.take j).filter fun e => decide (((ns.getD e.1.toNat 0 : Nat) : Int) = (p : Int))).map (·.2)).map PyData.int) ∧ Z = [some (.dat (dY y)), some (.dat (.list (gs.map PyData.int))), some (.dat (memD ns (topN ns + 1))), some (.own (((QY y ns).take b).map dS)), some (.dat (.list ((memL ns b).map fun s => .int (s : Nat)))), some (.own ((cbsC ns [] (s.take v)).map dC)), some (.dat (.int c.1)), some (.dat (.tuple (c.2.map prD))), none, none, none, some (.dat (.list ((memL ns p).map fun s => .int (s : Nat)))), none, none]) ?_ ?_ ⟨rfl, rfl⟩
        · rintro j d acc Z hd ⟨rfl, rfl⟩
          rw [List.getElem?_map] at hd
          obtain ⟨e, he, rfl⟩ := Option.map_eq_some_iff.mp hd
          have em := e2 e (List.mem_of_getElem? he)
          have eg := hg0 e (List.mem_of_getElem? he)
          obtain ⟨a, ha⟩ : ∃ a : Nat, e.1 = (a : Int) := ⟨e.1.toNat, by omega⟩
          walk_at "wv"
          refine okTo_eq (a := .int e.1) rfl ?_
          rw [ha]
          walk_at "wv"
          refine ⟨⟨rfl, List.all_eq_true.mpr fun d hd => by obtain ⟨i, _, rfl⟩ := List.mem_map.mp hd; rfl⟩, ?_⟩
          rw [inD_n41]
          walk_at "wv"
          rw [ha, Int.toNat_natCast] at eg
          have dq : decide (a ∈ memL ns p) = decide (((ns.getD e.1.toNat 0 : Nat) : Int) = (p : Int)) := by
            rw [decide_eq_decide, mem_memL, ha, Int.toNat_natCast, List.getD_eq_getElem?_getD, List.getElem?_eq_getElem eg, Option.some_inj]
            exact Int.ofNat_inj.symm
          rw [show (if (false : Bool) = true then !decide (a ∈ memL ns p) else decide (a ∈ memL ns p)) = decide (((ns.getD e.1.toNat 0 : Nat) : Int) = (p : Int)) from dq]
          rw [List.take_add_one, he, Option.toList_some, List.filter_append, List.map_append, List.map_append]
          have f1 : [e].filter (fun e => decide (((ns.getD e.1.toNat 0 : Nat) : Int) = (p : Int))) = if decide (((ns.getD e.1.toNat 0 : Nat) : Int) = (p : Int)) = true then [e] else [] := by rw [List.filter_cons, List.filter_nil]
          rw [f1]
          by_cases cc : decide (((ns.getD e.1.toNat 0 : Nat) : Int) = (p : Int)) = true
          · rw [if_pos cc, if_pos cc]
            walk_at "wv"
            refine okTo_eq (a := .int e.2) rfl ?_
            exact ⟨rfl, by first | trivial | rfl⟩
          · rw [if_neg cc, if_neg cc]
            rw [List.map_nil, List.map_nil, List.append_nil]
            exact ⟨rfl, by first | trivial | rfl⟩
        · rintro acc Z ⟨rfl, rfl⟩
          rw [List.length_map, List.take_length]
          walk_at "wv"
          rw [sum_flt]
          have es : (sumsQ ns c.2)[p]? = some (shr ns c.2 (p : Int)) := by
            unfold sumsQ
            rw [List.getElem?_map, List.getElem?_range hpl]
            rfl
          rw [List.take_add_one, es, List.map_append]
          refine ⟨?_, by first | trivial | rfl⟩
          congr 1
          show [PyData.int _] = [PyData.int (shr ns c.2 (p : Int))]
          unfold shr
          congr 3
          refine List.map_congr_left fun e _ => ?_
          by_cases cc : ((ns.getD e.1.toNat 0 : Nat) : Int) = (p : Int)
          · rw [if_pos (decide_eq_true cc), if_pos cc]
          · rw [if_neg (by rw [decide_eq_false cc]; exact Bool.false_ne_true), if_neg cc]
      rintro acc Z ⟨rfl, rfl⟩
      rw [List.length_map, List.length_range, show (sumsQ ns c.2).take (topN ns + 1) = sumsQ ns c.2 from by rw [← sln]; exact List.take_length]
      walk_at "wv"
      refine ⟨rfl, common_ok (by omega) sb ?_⟩
      rw [ge]
      walk_at "wv"
      refine ⟨_, rfl, ⟨by rw [List.length_map]; omega, by rw [List.length_map]; omega⟩, ⟨rfl, by rw [rangeD_len, List.length_map]; omega⟩, ?_⟩
      rw [List.length_map, Int.toNat_natCast, sln]
      refine lc_ok (fun p acc Z => acc = (((List.range p).filter fun (k : Nat) => decide (0 < shr ns c.2 (k : Int))).map fun (k : Nat) => PyData.tuple [.int (k : Int), .int (Int.fdiv (shr ns c.2 (k : Int)) (gS ns c.2))]) ∧ Z = [some (.dat (dY y)), some (.dat (.list (gs.map PyData.int))), some (.dat (memD ns (topN ns + 1))), some (.own (((QY y ns).take b).map dS)), some (.dat (.list ((memL ns b).map fun s => .int (s : Nat)))), some (.own ((cbsC ns [] (s.take v)).map dC)), some (.dat (.int c.1)), some (.dat (.tuple (c.2.map prD))), some (.dat (.list ((sumsQ ns c.2).map PyData.int))), some (.dat (.int (gS ns c.2))), none, none, none, none]) ?_ ?_ ⟨rfl, rfl⟩
      · rintro p d acc Z hd ⟨rfl, rfl⟩
        obtain ⟨hpl, rfl⟩ := rangeD_get hd
        rw [Int.zero_add]
        have es : (sumsQ ns c.2)[p]? = some (shr ns c.2 (p : Int)) := by
          unfold sumsQ
          rw [List.getElem?_map, List.getElem?_range hpl]
          rfl
        have ixs : ixD ((sumsQ ns c.2).map PyData.int) (p : Int) = .ok (.int (shr ns c.2 (p : Int))) := ixD_nat (by rw [List.getElem?_map, es]; rfl)
        walk_at "wv"
        refine okTo_eq ixs ?_
        walk_at "wv"
        rw [List.range_succ, List.filter_append, List.map_append]
        have f1 : [p].filter (fun (k : Nat) => decide (0 < shr ns c.2 (k : Int))) = if decide (0 < shr ns c.2 (p : Int)) = true then [p] else [] := by rw [List.filter_cons, List.filter_nil]
        rw [f1]
        by_cases cc : decide (0 < shr ns c.2 (p : Int)) = true
        · rw [if_pos cc, if_pos cc]
          walk_at "wv"
          refine okTo_eq ixs ?_
          walk_at "wv"
          refine ⟨cf _, ?_⟩
          walk_at "wv"
          refine ⟨by simp, ?_⟩
          exact ⟨rfl, by first | trivial | rfl⟩
        · rw [if_neg cc, if_neg cc, List.map_nil, List.append_nil]
          exact ⟨rfl, by first | trivial | rfl⟩
      rintro acc Z ⟨rfl, rfl⟩
      rw [rangeD_len]
      walk_at "wv"
      refine ⟨by simp, ?_⟩
      have cd : PyData.tuple [.int c.1, .tuple (((List.range (topN ns + 1)).filter fun (k : Nat) => decide (0 < shr ns c.2 (k : Int))).map fun (k : Nat) => PyData.tuple [.int (k : Int), .int (Int.fdiv (shr ns c.2 (k : Int)) (gS ns c.2))])] = dC (cbC ns c) := by
        show _ = PyData.tuple [.int c.1, .tuple (((srow ns c.2).map fun p => (p.1, Int.fdiv p.2 (gS ns c.2))).map prD)]
        rw [row, List.map_map, List.map_map]
        rfl
      rw [cd]
      walk_at "wv"
      refine w_gMax (fun z => by rw [z] at sln; exact absurd sln (by rw [List.length_nil]; omega)) ?_
      walk_at "wv"
      refine ⟨cf _, ?_⟩
      walk_at "wv"
      rw [gri]
      cases g : grE (cbC ns c) with
      | true =>
        refine ifP rfl ?_
        walk_at "wv"
        refine q1 ?_
        refine List.any_eq_true.mpr ⟨stQ y ns b, List.mem_of_getElem? qb, List.any_eq_true.mpr ⟨cbC ns c, ?_, g⟩⟩
        rw [sq]
        exact (cbsC_mem ns s [] _).mpr (.inr ⟨c, List.mem_of_getElem? hx, rfl⟩)
      | false =>
        refine ifN (by decide) ?_
        walk_at "wv"
        refine w_notInO ?_
        walk_at "wv"
        have pk : ∀ z ∈ (cbsC ns [] (s.take v)).map dC, Pn 3 z := fun z hz => by
          obtain ⟨d, hd, rfl⟩ := List.mem_map.mp hz
          rcases (cbsC_mem ns _ [] d).mp hd with w | ⟨c', _, rfl⟩
          · cases w
          · exact pn_dC41 ns c'
        have sd : Pn 4 (.list ((cbsC ns [] (s.take v)).map dC)) := fun d hd => pk d hd
        refine ⟨⟨pn_shaped (pn_dC41 ns c) (by decide), pn_shaped sd (by decide)⟩, ?_⟩
        have an := any_pn pk (pn_dC41 ns c)
        have mm : dC (cbC ns c) ∈ (cbsC ns [] (s.take v)).map dC ↔ cbC ns c ∈ cbsC ns [] (s.take v) := by
          constructor
          · intro h
            obtain ⟨d, hd, e⟩ := List.mem_map.mp h
            rw [← dC_inj41 e]
            exact hd
          · exact fun h => List.mem_map.mpr ⟨_, h, rfl⟩
        have tk : s.take (v + 1) = s.take v ++ [c] := by
          rw [List.take_add_one, hx]
          rfl
        have ng : ∀ x ∈ s.take (v + 1), grE (cbC ns x) = false := fun x hx => by
          rw [tk] at hx
          rcases List.mem_append.mp hx with w | w
          · exact hgc x w
          · rw [List.mem_singleton.mp w]
            exact g
        have cl := cbsC_len ns (s.take v) []
        rw [List.length_nil, List.length_take] at cl
        walk_at "wv"
        by_cases m : cbC ns c ∈ cbsC ns [] (s.take v)
        · have e := an.mpr (mm.mpr m)
          refine ifN (by rw [e]; decide) ?_
          walk_at "wv"
          refine ⟨?_, ng⟩
          rw [tk, cbsC_snoc, if_pos m]
        · have e := Bool.eq_false_iff.mpr fun z => m (mm.mp (an.mp z))
          refine ifP (by rw [e]; rfl) ?_
          walk_at "wv"
          refine ⟨by rw [List.length_map]; omega, ?_, ng⟩
          rw [tk, cbsC_snoc, if_neg m, List.map_append]
          rfl
    · rintro S ⟨rfl, hgc⟩
      rw [List.length_map, List.take_length] at *
      walk_at "wv"
      refine ⟨by rw [List.length_map, List.length_take]; omega, ?_, fun x hx => ?_⟩
      · rw [List.take_add_one, qb, List.map_append, show PyData.tuple ((cbsC ns [] s).map dC) = dS (stQ y ns b) from by rw [sq]; rfl]
        rfl
      · rw [List.take_add_one, qb] at hx
        rcases List.mem_append.mp hx with w | w
        · exact hng x w
        · rw [show x = stQ y ns b from List.mem_singleton.mp w, sq]
          refine Bool.eq_false_iff.mpr fun z => ?_
          obtain ⟨d, hd, e⟩ := List.any_eq_true.mp z
          rcases (cbsC_mem ns s [] d).mp hd with w | ⟨c, hc, rfl⟩
          · cases w
          · rw [hgc c hc] at e
            cases e
  · rintro S ⟨rfl, hng⟩
    rw [List.length_map, List.length_range, ← ql, List.take_length] at *
    walk_at "wv"
    refine q2 (Bool.eq_false_iff.mpr fun z => ?_)
    obtain ⟨s, hs, e⟩ := List.any_eq_true.mp z
    rw [hng s hs] at e
    cases e

end
end Bo
/-! ### quotients: what is told, and that it is a system -/
namespace Bo
open PySem L2 PySem.W
def ref41 : PyData := .list [.str "refused", .bool true]
theorem told_ok {y : List (List Cho)} {gs : List Int} {k : PyData → Prop} (hy : Law41 y) (hg : gs.length = y.length) (q1 : greatQ y (it40 y gs y.length) = true → k ref41) (q2 : greatQ y (it40 y gs y.length) = false → k (dY (QY y (it40 y gs y.length)))) :
    (den_l_told [dY y, .list (gs.map PyData.int)]).okTo k := by
  have h := quot_ends hy hg
  unfold den_l_told
  cases e : den_quotient [dY y, .list (gs.map PyData.int)] with
  | bad =>
    rw [e] at h
    exact h.elim
  | ok z =>
    rw [e] at h
    obtain ⟨h1, h2⟩ : greatQ y (it40 y gs y.length) = false ∧ z = dY (QY y (it40 y gs y.length)) := h
    subst h2
    exact q2 h1
  | err x =>
    rw [e] at h
    obtain ⟨h1, h2⟩ : greatQ y (it40 y gs y.length) = true ∧ x = ⟨"WeightTooGreat", none⟩ := h
    subst h2
    exact q1 h1
/-- what the law's systems are -/
def Sys5 (y : List (List Cho)) : Prop := y ≠ [] ∧ y.length ≤ 20 ∧ ∀ s ∈ y, Row4 y.length 6 6 3000 s
theorem Sys5.law {y : List (List Cho)} (h : Sys5 y) : Law41 y := ⟨h.1, by have := h.2.1; omega, fun s hs => ⟨by have := (h.2.2 s hs).2.1; omega, fun c hc => by
  obtain ⟨_, c1, c2, c3⟩ := (h.2.2 s hs).2.2 c hc
  exact ⟨⟨⟨by omega, c3⟩, c1⟩, by omega⟩⟩⟩
theorem quot_sys {y : List (List Cho)} {ns : List Nat} (hy : Sys5 y) (nu : Nums y ns) (g : greatQ y ns = false) : SysOk 6 6 (QY y ns) := by
  have ql : (QY y ns).length = topN ns + 1 := by
    unfold QY
    rw [List.length_map, List.length_range]
  have tl := nu.le
  have y20 := hy.2.1
  refine ⟨by omega, by omega, fun s hs => ?_, fun s hs c hc => ?_⟩
  · obtain ⟨b, hb, rfl⟩ := List.mem_map.mp hs
    have ym := getD_mem (lst_lt nu (List.mem_range.mp hb))
    obtain ⟨r1, r2, r3⟩ := hy.2.2 _ ym
    have cl := cbsC_len ns (y.getD (lst ns b) []) []
    rw [List.length_nil] at cl
    refine ⟨?_, by show (cbsC ns [] _).length ≤ 6; omega⟩
    obtain ⟨c, hc⟩ := List.exists_mem_of_ne_nil _ r1
    exact List.length_pos_iff.mpr (List.ne_nil_of_mem ((cbsC_mem ns (y.getD (lst ns b) []) [] _).mpr (.inr ⟨c, hc, rfl⟩)))
  · have ng : grE c = false := Bool.eq_false_iff.mpr fun z => by
      have : greatQ y ns = true := List.any_eq_true.mpr ⟨s, hs, List.any_eq_true.mpr ⟨c, hc, z⟩⟩
      rw [g] at this
      cases this
    obtain ⟨b, hb, rfl⟩ := List.mem_map.mp hs
    have ym := getD_mem (lst_lt nu (List.mem_range.mp hb))
    obtain ⟨c0, h0, rfl⟩ := stQ_of hc
    obtain ⟨_, _, r3⟩ := hy.2.2 _ ym
    obtain ⟨c1, c2, c3, c4⟩ := r3 c0 h0
    have hp : ∀ e ∈ c0.2, 1 ≤ e.2 := fun e he => (c4 e he).2.2.1
    have hM : ∀ e ∈ c0.2, (ns.getD e.1.toNat 0) < topN ns + 1 := fun e he => by
      have := c4 e he
      have : e.1.toNat < ns.length := by have := nu.len; omega
      have := nu.top (ns.getD e.1.toNat 0) (by rw [List.getD_eq_getElem?_getD, List.getElem?_eq_getElem this]; exact List.getElem_mem this)
      omega
    have row := srow_sums hM hp
    have gp := gS_pos (ns := ns) c2 hp
    have rl := rowR_len2 ns c0.2
    refine ⟨c1, fun z => ?_, ?_, fun e he => ?_, ?_⟩
    · have z' : srow ns c0.2 = [] := List.map_eq_nil_iff.mp z
      have s0 := srow_sum ns c0.2
      rw [z'] at s0
      have := wsum_pos40 c2 hp
      rw [← s0] at this
      exact absurd this (by decide)
    · show ((srow ns c0.2).map _).length ≤ 6
      rw [List.length_map]
      omega
    · have hle : e.2 ≤ 1000 := by
        have := List.any_eq_false.mp ng e he
        have : ¬ 1000 < e.2 := fun z => this (decide_eq_true z)
        omega
      obtain ⟨p, hp', rfl⟩ := List.mem_map.mp he
      have p1 := srow_pos hp p hp'
      have pk : 0 ≤ p.1 ∧ p.1 < ((topN ns + 1 : Nat) : Int) := by
        rw [row] at hp'
        obtain ⟨k, hk, rfl⟩ := List.mem_map.mp hp'
        have := List.mem_range.mp (List.mem_filter.mp hk).1
        show 0 ≤ (k : Int) ∧ (k : Int) < _
        omega
      have gle : gS ns c0.2 ≤ p.2 := by
        have m : p.2 ∈ (rowR ns c0.2).map (·.2) := List.mem_map.mpr ⟨p, (sortP_perm _).mem_iff.mp hp', rfl⟩
        exact gcdI_mem m p1
      refine ⟨pk.1, by rw [ql]; exact pk.2, ?_, hle⟩
      show 1 ≤ Int.fdiv p.2 (gS ns c0.2)
      rw [Int.fdiv_eq_ediv_of_nonneg _ (by omega)]
      exact Int.le_ediv_of_mul_le gp (by omega)
    · exact List.pairwise_map.mpr (srow_rise ns c0.2)
end Bo

/-! ### walking defs that raise: loops, displays, calls within -/
namespace Bo
open PySem L2
section
variable {S : SS} {fa fb : VE} {fr : VA} {ff : VF} {fs fs' : VS} {ft : VT} {kE : PyData × SS → Prop} {kD : PyData → Prop} {kS : FL → Prop} {kA : List PyData × SS → Prop} {i m : Nat} {ds : List PyData} {ke : Exc → Prop}
end
end Bo

namespace Bo
open PySem L2
local macro_rules | `(tactic| walk_at "wv1") => `(tactic| (first
  | ((with_reducible refine w_var (d := ?wd) ?wh ?wq); (case wh => exact rfl))
  | with_reducible refine w_cons ?_
  | with_reducible refine w_nil ?_
  | with_reducible refine w_op ?_
  | with_reducible refine w_c ?_
  | with_reducible refine w_aName ?_
  | with_reducible refine w_seq ?_
  | with_reducible refine w_asg ?_
  | with_reducible refine w_toB ?_
  | with_reducible refine w_callP ?_
  | with_reducible refine w_tst ?_
  | with_reducible refine w_then ?_
  | with_reducible refine w_gIxT ?_
  | with_reducible refine w_call ?_
  | with_reducible refine w_ret ?_
  | with_reducible refine w_ifS ?_
  | with_reducible refine w_next ?_
  | ((with_reducible refine w_own (ds := ?wd) ?wh ?wq); (case wh => exact rfl))
  | with_reducible refine w_for ?_
  | with_reducible refine w_fr ?_
  | with_reducible refine w_lc ?_
  | with_reducible refine w_tup ?_
  | with_reducible refine w_iter ?_
  | with_reducible refine w_itFT ?_
  | with_reducible refine w_aCons ?_
  | with_reducible refine w_gIxL ?_
  | with_reducible refine w_tnot ?_
  | with_reducible refine w_pre ?_
  | ((with_reducible refine w_dic (kvs := ?wd) ?wh ?wq); (case wh => exact rfl))
  | with_reducible refine w_tor ?_
  | with_reducible refine w_range1 ?_
  | with_reducible refine w_yes ?_
  | with_reducible refine w_itTT ?_
  | with_reducible refine w_iterT ?_
  | with_reducible refine w_lst ?_
  | with_reducible refine w_toI ?_
  | with_reducible refine w_ownS ?_
  | with_reducible refine w_aTup rfl ?_
  | with_reducible refine w_aNil ?_
  | ((with_reducible refine w_frz (ds := ?wd) ?wh ?wq); (case wh => exact rfl))
  | with_reducible refine w_itT ?_
  | with_reducible refine w_callD ?_
  | with_reducible refine w_tand ?_
  | with_reducible refine w_gEqI ?_
  | with_reducible refine w_gNeI ?_
  | with_reducible refine w_gLenT ?_
  | with_reducible refine w_lstF ?_
  | with_reducible refine w_callB ?_
  | with_reducible refine w_app ?_
  | with_reducible refine w_setI ?_
  | with_reducible refine w_drop ?_
  | with_reducible refine w_gIB ?_
  | with_reducible refine w_gBools ?_
  | with_reducible refine w_and ?_
  | with_reducible refine w_isN ?_
  | with_reducible refine w_or ?_
  | with_reducible refine w_ixO ?_
  | with_reducible refine w_gI ?_
  | with_reducible refine w_gLenL ?_
  | with_reducible refine w_gTuple ?_
  | with_reducible refine w_gInts ?_
  | ((with_reducible refine w_newS (ns := ?wd) ?wh ?wq); (case wh => exact rfl))
  | with_reducible refine w_un ?_
  | with_reducible refine w_if ?_
  | with_reducible refine w_chain ?_
  | ((with_reducible refine w_callS (ns := ?wd) ?wh ?wq); (case wh => exact rfl))
  | with_reducible refine w_sl ?_
  | with_reducible refine w_noPart ?_
  | with_reducible refine w_part ?_
  | with_reducible refine w_listRg ?_
  | with_reducible refine w_enumK ?_
  | with_reducible refine w_repF ?_
  | with_reducible refine w_gIC ?_
  | with_reducible refine w_gCat ?_
  | with_reducible refine w_gCatT ?_
  | with_reducible refine w_notN ?_
  | with_reducible refine w_listF ?_
  | with_reducible refine w_neg ?_
  | with_reducible refine w_gIsB ?_
  | with_reducible refine w_not ?_
  | with_reducible refine w_tru ?_
  | with_reducible refine w_callL ?_
  | with_reducible refine w_consO ?_
  | with_reducible refine w_lenO ?_
  | with_reducible refine w_tupleO ?_
  | with_reducible refine w_listO ?_
  | with_reducible refine w_inO ?_
  | with_reducible refine w_truO ?_
  | with_reducible refine w_zipK ?_
  | with_reducible refine w_retN ?_
  | ((with_reducible refine w_aug (a := ?wd) ?wh ?wq); (case wh => exact rfl))
  | with_reducible refine w_gInL ?_
  | with_reducible refine w_gIntI ?_
  | with_reducible refine w_gRevL ?_
  | with_reducible refine w_gSlL ?_
  | with_reducible refine w_gSlT ?_
  | with_reducible refine w_itF ?_
  | with_reducible refine w_gList ?_
  | with_reducible refine w_gSortI ?_
  | with_reducible refine w_range2 ?_
  | ((with_reducible refine w_lcO (ds := ?wd) ?wh ?wq ?wr); (case wh => exact rfl); (case wq => exact rfl))
  | with_reducible refine w_aUnl rfl ?_
  | with_reducible refine w_brk ?_
  | with_reducible refine w_cnt ?_
  | with_reducible refine w_gIntB ?_
  | with_reducible refine w_getD ?_
  | with_reducible refine w_keyS ?_
  | with_reducible refine w_keyI ?_
  | with_reducible refine w_putD ?_
  | with_reducible refine w_ownCallD ?_
  | with_reducible refine w_callDF ?_
  | with_reducible refine w_gIxQL ?_
  | with_reducible refine w_gIxQT ?_
  | ((with_reducible refine w_revO (ds := ?wd) ?wh ?wq); (case wh => exact rfl))
  | ((with_reducible refine w_isNOd (d := ?wd) ?wh ?wq); (case wh => exact rfl))
  | ((with_reducible refine w_isNOo (ds := ?wd) ?wh ?wq); (case wh => exact rfl))
  | with_reducible refine w_toS ?_
  | with_reducible refine w_m0 ?_
  | with_reducible refine w_m1 ?_
  | with_reducible refine w_gIsdigit ?_
  | with_reducible refine w_gIsascii ?_
  | with_reducible refine w_gRemoveprefix ?_
  | with_reducible refine w_gPartition ?_
  | with_reducible refine w_gSplit ?_
  | with_reducible refine w_join ?_
  | with_reducible refine w_joinO ?_
  | with_reducible refine w_joinR ?_
  | with_reducible refine w_gInS ?_
  | with_reducible refine w_gIxS ?_
  | with_reducible refine w_gSlS ?_
  | with_reducible refine w_iterS ?_
  | with_reducible refine w_gRepS ?_
  | with_reducible refine w_gCatS ?_
  | with_reducible refine w_gLenS ?_
  | with_reducible refine w_gStrI ?_
  | with_reducible refine w_gIntS ?_
  | with_reducible refine w_fmt ?_
  | with_reducible refine w_toFmtS ?_
  | with_reducible refine w_toFmtI ?_
  | with_reducible refine w_joined ?_
  | with_reducible refine w_jsCons ?_
  | with_reducible refine w_jsNil ?_
  | with_reducible refine w_gMin2 ?_
  | with_reducible refine w_gEqS ?_
  | with_reducible refine w_gNeS ?_
  | simp only [wipeS, backS, List.set_cons_zero, List.set_cons_succ, List.getElem?_cons_zero, List.getElem?_cons_succ, Option.join_some, Option.join_none, Bool.not_true, Bool.not_false]))
local macro_rules | `(tactic| walk_at "wv") => `(tactic| ((repeat (walk_at "wv1"; try dsimp only)); try simp only [List.set_cons_zero, List.set_cons_succ]))
local macro_rules | `(tactic| walk_at "st") => `(tactic| simp only [startS, List.map_cons, List.map_nil, List.length_cons, List.length_nil, Nat.reduceAdd, Nat.reduceSub, List.replicate_succ, List.replicate_zero, List.cons_append, List.nil_append])

section
/-! ### written systems: what is read -/
open PySem L2 TL
theorem nought : Str.ofString "0" = sg [48] := by decide +kernel
/-! a choice -/
/-! the lines -/
def STATE : List Nat := [115, 116, 97, 116, 101]
/-! the fault of a system -/
def endsG (m : Int) : Int → List (Int × Int) → Bool
  | _, [] => true
  | b, e :: r => decide (b < e.1) && decide (e.1 < m) && decide (1 ≤ e.2) && decide (e.2 ≤ 1000) && endsG m e.1 r
def endsB (m : Int) (es : List (Int × Int)) : Bool := decide (1 ≤ es.length) && decide (es.length ≤ 6) && endsG m (-1) es
def fltC (m st : Int) : Nat → List Cho → PyData
  | _, [] => .none
  | k, c :: r => if (decide (0 ≤ c.1) && decide (c.1 ≤ 1000)) = true then if endsB m c.2 = true then fltC m st (k + 1) r else .tuple [.str (Str.ofString "ends"), .int st, .int (k : Nat)] else .tuple [.str (Str.ofString "cost"), .int st, .int (k : Nat)]
def fltS (m st : Int) (s : List Cho) : PyData := if (decide (1 ≤ s.length) && decide (s.length ≤ 6)) = true then fltC m st 0 s else .tuple [.str (Str.ofString "choices"), .int st]
def fltY (m : Int) : Nat → List (List Cho) → PyData
  | _, [] => .none
  | k, s :: r => match fltS m (k : Nat) s with
    | .none => fltY m (k + 1) r
    | d => d
def flt (y : List (List Cho)) : PyData := if (decide (1 ≤ y.length) && decide (y.length ≤ 20)) = true then fltY (y.length : Nat) 0 y else .tuple [.str (Str.ofString "states")]
/-- a <= x <= b, a < x < b, not -/
theorem not_le3 {S : SS} {fa fb fc : VE} {a x b : Int} (ha : (fa S).okTo fun p => p = (.int a, S)) (hb : (fb S).okTo fun p => p = (.int x, S)) (hc : (fc S).okTo fun p => p = (.int b, S)) :
    (tNotF (vTst (vChain (gIB fun i j => decide (i ≤ j)) (gIB fun i j => decide (i ≤ j)) fa fb fc)) S).okTo fun p => p = (!(decide (a ≤ x) && decide (x ≤ b)), S) := by
  refine w_tnot (w_tst (w_chain (R.okTo.mono ha fun p e => ?_)))
  subst e
  refine R.okTo.mono hb fun p e => ?_
  subst e
  walk_at "wv"
  by_cases c : a ≤ x
  · rw [if_pos (decide_eq_true c), decide_eq_true c, Bool.true_and]
    refine R.okTo.mono hc fun p e => ?_
    subst e
    walk_at "wv"
  · rw [if_neg (by simpa using c), decide_eq_false c]
    rfl
theorem not_lt3 {S : SS} {fa fb fc : VE} {a x b : Int} (ha : (fa S).okTo fun p => p = (.int a, S)) (hb : (fb S).okTo fun p => p = (.int x, S)) (hc : (fc S).okTo fun p => p = (.int b, S)) :
    (tNotF (vTst (vChain (gIB fun i j => decide (i < j)) (gIB fun i j => decide (i < j)) fa fb fc)) S).okTo fun p => p = (!(decide (a < x) && decide (x < b)), S) := by
  refine w_tnot (w_tst (w_chain (R.okTo.mono ha fun p e => ?_)))
  subst e
  refine R.okTo.mono hb fun p e => ?_
  subst e
  walk_at "wv"
  by_cases c : a < x
  · rw [if_pos (decide_eq_true c), decide_eq_true c, Bool.true_and]
    refine R.okTo.mono hc fun p e => ?_
    subst e
    walk_at "wv"
  · rw [if_neg (by simpa using c), decide_eq_false c]
    rfl
theorem ends_ok5 {m : Nat} {es : List (Int × Int)} {k : PyData → Prop} (q : k (.bool (endsB (m : Nat) es))) : (den_are_ends [.int (m : Nat), .tuple (es.map prD)]).okTo k := by
  unfold den_are_ends body_are_ends
  refine w_denP ?_
  walk_at "st"
  have c1 : ∀ S : SS, S = [some (.dat (.int (m : Nat))), some (.dat (.tuple (es.map prD))), none, none, none] → (vCall gLen (vCons (vVar 1) vNil) S).okTo fun p => p = (.int (es.length : Nat), S) := by
    rintro S rfl
    walk_at "wv"
    rw [List.length_map]
  refine w_seq (w_ifS (R.okTo.mono (not_le3 (a := 1) (b := 6) (by walk_at "wv") (c1 _ rfl) (by walk_at "wv")) fun p e => ?_))
  subst e
  dsimp only
  by_cases c : (decide (1 ≤ es.length) && decide (es.length ≤ 6)) = true
  · have c' : (decide ((1 : Int) ≤ (es.length : Nat)) && decide (((es.length : Nat) : Int) ≤ 6)) = true := by
      rw [Bool.and_eq_true, decide_eq_true_iff, decide_eq_true_iff] at c ⊢
      omega
    have eb : endsB (m : Nat) es = endsG (m : Nat) (-1) es := by
      unfold endsB
      rw [c, Bool.true_and]
    rw [eb] at q
    rw [c', if_neg (by decide)]
    walk_at "wv"
    try
      refine okTo_eq (a := PyData.int (-1)) rfl ?_
      walk_at "wv"
    refine ⟨_, rfl, ?_⟩
    refine loop_ok (fun t S => ∃ b : Int, endsG (m : Nat) (-1) es = endsG (m : Nat) b (es.drop t) ∧ S = [some (.dat (.int (m : Nat))), some (.dat (.tuple (es.map prD))), some (.dat (.int b)), none, none]) ?_ ?_ ⟨-1, rfl, rfl⟩
    · rintro t d S hd ⟨b, hb, rfl⟩
      rw [List.getElem?_map] at hd
      obtain ⟨e, he, rfl⟩ := Option.map_eq_some_iff.mp hd
      have hdr : es.drop t = e :: es.drop (t + 1) := by
        obtain ⟨hlt, z⟩ := List.getElem?_eq_some_iff.mp he
        rw [List.drop_eq_getElem_cons hlt, z]
      rw [hdr] at hb
      unfold prD
      refine w_aTup rfl (w_aCons (w_aName (w_aCons (w_aName (w_aNil ?_)))))
      refine w_then ?_
      refine w_seq (w_ifS (R.okTo.mono (not_lt3 (a := b) (x := e.1) (b := (m : Nat)) ?_ ?_ ?_) fun p z => ?_))
      · walk_at "wv"
      · walk_at "wv"
      · walk_at "wv"
      subst z
      dsimp only
      have hb' : endsG (m : Nat) (-1) es = (decide (b < e.1) && decide (e.1 < (m : Nat)) && decide (1 ≤ e.2) && decide (e.2 ≤ 1000) && endsG (m : Nat) e.1 (es.drop (t + 1))) := hb
      cases c1 : (decide (b < e.1) && decide (e.1 < (m : Nat))) with
      | false =>
        rw [if_pos (by decide)]
        rw [c1, Bool.false_and, Bool.false_and, Bool.false_and] at hb'
        walk_at "wv"
        rw [hb'] at q
        exact q
      | true =>
        rw [if_neg (by decide)]
        rw [c1, Bool.true_and] at hb'
        refine w_next ?_
        dsimp only
        refine w_seq (w_ifS (R.okTo.mono (not_le3 (a := 1) (x := e.2) (b := 1000) ?_ ?_ ?_) fun p z => ?_))
        · walk_at "wv"
        · walk_at "wv"
        · walk_at "wv"
        subst z
        dsimp only
        cases c2 : (decide (1 ≤ e.2) && decide (e.2 ≤ 1000)) with
        | false =>
          rw [if_pos (by decide)]
          rw [c2, Bool.false_and] at hb'
          walk_at "wv"
          rw [hb'] at q
          exact q
        | true =>
          rw [if_neg (by decide)]
          rw [c2, Bool.true_and] at hb'
          walk_at "wv"
          exact ⟨e.1, hb', rfl⟩
    · rintro S ⟨b, hb, rfl⟩
      rw [List.length_map, List.drop_length] at hb
      walk_at "wv"
      rw [hb] at q
      exact q
  · have c' : (decide ((1 : Int) ≤ (es.length : Nat)) && decide (((es.length : Nat) : Int) ≤ 6)) = false := by
      rw [Bool.and_eq_true, decide_eq_true_iff, decide_eq_true_iff] at c
      refine Bool.eq_false_iff.mpr fun z => c ?_
      rw [Bool.and_eq_true, decide_eq_true_iff, decide_eq_true_iff] at z
      omega
    have eb : endsB (m : Nat) es = false := by
      unfold endsB
      rw [Bool.eq_false_iff.mpr c, Bool.false_and]
    rw [c', if_pos (by decide)]
    walk_at "wv"
    rw [eb] at q
    exact q
theorem enumD_map {α : Type} (f : α → PyData) : ∀ (l : List α) (k : Nat) (t : Nat) (d : PyData), ((l.map f).zipIdx k |>.map fun p => PyData.tuple [.int (p.2 : Nat), p.1])[t]? = some d → ∃ x, l[t]? = some x ∧ d = .tuple [.int ((k + t : Nat) : Int), f x] := by
  intro l
  induction l with
  | nil => intro k t d h; cases h
  | cons x r ih =>
    intro k t d h
    rw [List.map_cons, List.zipIdx_cons, List.map_cons] at h
    cases t with
    | zero =>
      have e := (Option.some.inj h).symm
      exact ⟨x, rfl, e⟩
    | succ t =>
      obtain ⟨y, h1, h2⟩ := ih (k + 1) t d h
      exact ⟨y, h1, by rw [h2]; congr 4; omega⟩
theorem fst_ok {m st : Int} {mN : Nat} (hm : m = (mN : Nat)) {s : List Cho} {k : PyData → Prop} (q : k (fltS m st s)) : (den_fault_in_state [.int m, .int st, dS s]).okTo k := by
  subst hm
  unfold den_fault_in_state body_fault_in_state
  refine w_denP ?_
  walk_at "st"
  have c1 : ∀ S : SS, S = [some (.dat (.int (mN : Nat))), some (.dat (.int st)), some (.dat (dS s)), none, none, none] → (vCall gLen (vCons (vVar 2) vNil) S).okTo fun p => p = (.int (s.length : Nat), S) := by
    rintro S rfl
    unfold dS
    walk_at "wv"
    rw [List.length_map]
  refine w_seq (w_ifS (R.okTo.mono (not_le3 (a := 1) (b := 6) (by walk_at "wv") (c1 _ rfl) (by walk_at "wv")) fun p e => ?_))
  subst e
  dsimp only
  have ce : (decide ((1 : Int) ≤ (s.length : Nat)) && decide (((s.length : Nat) : Int) ≤ 6)) = (decide (1 ≤ s.length) && decide (s.length ≤ 6)) := by
    rw [Bool.eq_iff_iff, Bool.and_eq_true, Bool.and_eq_true, decide_eq_true_iff, decide_eq_true_iff, decide_eq_true_iff, decide_eq_true_iff]
    omega
  rw [ce]
  unfold fltS at q
  cases c : (decide (1 ≤ s.length) && decide (s.length ≤ 6)) with
  | false =>
    rw [if_pos (by decide)]
    rw [c, if_neg Bool.false_ne_true] at q
    walk_at "wv"
    exact ⟨by simp, q⟩
  | true =>
    rw [if_neg (by decide)]
    rw [c, if_pos rfl] at q
    walk_at "wv"
    refine ⟨dS s, s.map dC, rfl, rfl, ?_⟩
    refine loop_ok (fun t S => fltC (mN : Nat) st 0 s = fltC (mN : Nat) st t (s.drop t) ∧ S = [some (.dat (.int (mN : Nat))), some (.dat (.int st)), some (.dat (dS s)), none, none, none]) ?_ ?_ ⟨rfl, rfl⟩
    · rintro t d S hd ⟨hb, rfl⟩
      obtain ⟨x, hx, rfl⟩ := enumD_map dC s 0 t d hd
      rw [Nat.zero_add]
      have hdr : s.drop t = x :: s.drop (t + 1) := by
        obtain ⟨hlt, z⟩ := List.getElem?_eq_some_iff.mp hx
        rw [List.drop_eq_getElem_cons hlt, z]
      rw [hdr] at hb
      have hb' : fltC (mN : Nat) st 0 s = if (decide (0 ≤ x.1) && decide (x.1 ≤ 1000)) = true then if endsB (mN : Nat) x.2 = true then fltC (mN : Nat) st (t + 1) (s.drop (t + 1)) else .tuple [.str (Str.ofString "ends"), .int st, .int (t : Nat)] else .tuple [.str (Str.ofString "cost"), .int st, .int (t : Nat)] := hb
      unfold dC
      refine w_aTup rfl (w_aCons (w_aName (w_aCons (w_aTup rfl (w_aCons (w_aName (w_aCons (w_aName (w_aNil (w_aNil ?_)))))))))) 
      refine w_then ?_
      refine w_seq (w_ifS (R.okTo.mono (not_le3 (a := 0) (x := x.1) (b := 1000) ?_ ?_ ?_) fun p z => ?_))
      · walk_at "wv"
      · walk_at "wv"
      · walk_at "wv"
      subst z
      dsimp only
      cases c2 : (decide (0 ≤ x.1) && decide (x.1 ≤ 1000)) with
      | false =>
        rw [if_pos (by decide)]
        rw [c2, if_neg Bool.false_ne_true] at hb'
        walk_at "wv"
        rw [hb'] at q
        exact ⟨by simp, q⟩
      | true =>
        rw [if_neg (by decide)]
        rw [c2, if_pos rfl] at hb'
        walk_at "wv"
        refine ⟨rfl, ends_ok5 ?_⟩
        walk_at "wv"
        cases c3 : endsB (mN : Nat) x.2 with
        | false =>
          rw [if_pos (by decide)]
          rw [c3, if_neg Bool.false_ne_true] at hb'
          walk_at "wv"
          rw [hb'] at q
          exact ⟨by simp, q⟩
        | true =>
          rw [if_neg (by decide)]
          rw [c3, if_pos rfl] at hb'
          walk_at "wv"
          exact ⟨hb', by first | trivial | rfl⟩
    · rintro S ⟨hb, rfl⟩
      rw [enumD_len, List.length_map, List.drop_length] at hb
      walk_at "wv"
      rw [hb] at q
      exact q
theorem fltS_form (m st : Int) (s : List Cho) : fltS m st s = .none ∨ isNone (fltS m st s) = false := by
  have go : ∀ (l : List Cho) (k : Nat), fltC m st k l = .none ∨ isNone (fltC m st k l) = false := by
    intro l
    induction l with
    | nil => intro k; exact .inl rfl
    | cons c r ih =>
      intro k
      unfold fltC
      split
      · split
        · exact ih (k + 1)
        · exact .inr rfl
      · exact .inr rfl
  unfold fltS
  split
  · exact go s 0
  · exact .inr rfl
theorem fltY_cons {m : Int} {k : Nat} {s : List Cho} {r : List (List Cho)} : fltY m k (s :: r) = if isNone (fltS m (k : Nat) s) = true then fltY m (k + 1) r else fltS m (k : Nat) s := by
  show (match fltS m (k : Nat) s with
    | .none => fltY m (k + 1) r
    | d => d) = _
  rcases fltS_form m (k : Nat) s with h | h
  · rw [h]
    rfl
  · rw [h, if_neg Bool.false_ne_true]
    cases e : fltS m (k : Nat) s <;> first | rfl | (rw [e] at h; cases h)
theorem fault_ok {y : List (List Cho)} {k : PyData → Prop} (q : k (flt y)) : (den_fault [dY y]).okTo k := by
  unfold den_fault body_fault
  refine w_denP ?_
  walk_at "st"
  have c1 : ∀ S : SS, S = [some (.dat (dY y)), none, none, none] → (vCall gLen (vCons (vVar 0) vNil) S).okTo fun p => p = (.int (y.length : Nat), S) := by
    rintro S rfl
    unfold dY
    walk_at "wv"
    rw [List.length_map]
  refine w_seq (w_ifS (R.okTo.mono (not_le3 (a := 1) (b := 20) (by walk_at "wv") (c1 _ rfl) (by walk_at "wv")) fun p e => ?_))
  subst e
  dsimp only
  have ce : (decide ((1 : Int) ≤ (y.length : Nat)) && decide (((y.length : Nat) : Int) ≤ 20)) = (decide (1 ≤ y.length) && decide (y.length ≤ 20)) := by
    rw [Bool.eq_iff_iff, Bool.and_eq_true, Bool.and_eq_true, decide_eq_true_iff, decide_eq_true_iff, decide_eq_true_iff, decide_eq_true_iff]
    omega
  rw [ce]
  unfold flt at q
  cases c : (decide (1 ≤ y.length) && decide (y.length ≤ 20)) with
  | false =>
    rw [if_pos (by decide)]
    rw [c, if_neg Bool.false_ne_true] at q
    walk_at "wv"
    exact ⟨by simp, q⟩
  | true =>
    rw [if_neg (by decide)]
    rw [c, if_pos rfl] at q
    walk_at "wv"
    refine ⟨dY y, y.map dS, rfl, rfl, ?_⟩
    refine loop_ok (fun t S => fltY (y.length : Nat) 0 y = fltY (y.length : Nat) t (y.drop t) ∧ S = [some (.dat (dY y)), none, none, none]) ?_ ?_ ⟨rfl, rfl⟩
    · rintro t d S hd ⟨hb, rfl⟩
      obtain ⟨x, hx, rfl⟩ := enumD_map dS y 0 t d hd
      rw [Nat.zero_add]
      have hdr : y.drop t = x :: y.drop (t + 1) := by
        obtain ⟨hlt, z⟩ := List.getElem?_eq_some_iff.mp hx
        rw [List.drop_eq_getElem_cons hlt, z]
      rw [hdr, fltY_cons] at hb
      have gl : gLen [dY y] = .ok (.int (y.length : Nat)) := by
        unfold dY gLen
        simp
      walk_at "wv"
      refine okTo_eq gl ?_
      walk_at "wv"
      refine ⟨rfl, fst_ok rfl ?_⟩
      walk_at "wv"
      rcases fltS_form (y.length : Nat) (t : Nat) x with h | h
      · rw [h] at hb ⊢
        rw [show isNone PyData.none = true from rfl, if_pos rfl] at hb
        rw [if_neg (by decide)]
        walk_at "wv"
        exact ⟨hb, by first | trivial | rfl⟩
      · rw [h, if_neg Bool.false_ne_true] at hb
        rw [h, if_pos (by decide)]
        walk_at "wv"
        rw [hb] at q
        exact q
    · rintro S ⟨hb, rfl⟩
      rw [enumD_len, List.length_map, List.drop_length] at hb
      walk_at "wv"
      rw [hb] at q
      exact q

end
section
/-! ### written systems: a text read -/
open PySem L2 TL

end
section
/-! ### written systems: a text written -/
open PySem L2 TL
def numI (z : Int) : List Nat := numL z.toNat
def endW (e : Int × Int) : List Nat := numI e.1 ++ 58 :: numI e.2
def lineC (c : Cho) : List Nat := numI c.1 ++ c.2.flatMap fun e => 32 :: endW e
def lines (y : List (List Cho)) : List (List Nat) := y.flatMap fun s => STATE :: s.map lineC
structure Num (z : Int) : Prop where
  lo : 0 ≤ z
  hi : z ≤ 1000
theorem Num.len {z : Int} (h : Num z) : (numI z).length ≤ 4 := numL_len (by decide) (by have := h.hi; omega)
theorem Num.small {z : Int} (h : Num z) : z.natAbs < 2 ^ 1900 := Nat.lt_of_lt_of_le (show z.natAbs < 2 ^ 10 from by have := h.lo; have := h.hi; omega) (Nat.pow_le_pow_right (by decide) (by decide))
structure EndN (e : Int × Int) : Prop where
  g : Num e.1
  w : Num e.2
structure ChoN (c : Cho) : Prop where
  cost : Num c.1
  ends : ∀ e ∈ c.2, EndN e
  len : c.2.length ≤ 6
structure SysN (y : List (List Cho)) : Prop where
  ne : 1 ≤ y.length
  len : y.length ≤ 20
  st : ∀ s ∈ y, 1 ≤ s.length ∧ s.length ≤ 6
  cho : ∀ s ∈ y, ∀ c ∈ s, ChoOk y.length 6 c
theorem SysN.num {y : List (List Cho)} (h : SysN y) : ∀ s ∈ y, ∀ c ∈ s, ChoN c := fun s hs c hc => by
  have q := h.cho s hs c hc
  refine ⟨⟨q.cost.1, q.cost.2⟩, fun e he => ?_, q.len⟩
  have := q.ends e he
  have := h.len
  exact ⟨⟨by omega, by omega⟩, ⟨by omega, by omega⟩⟩
theorem endsG_ok {m : Int} : ∀ {es : List (Int × Int)} {b : Int}, (∀ e ∈ es, b < e.1 ∧ e.1 < m ∧ 1 ≤ e.2 ∧ e.2 ≤ 1000) → (es.Pairwise fun x y => x.1 < y.1) → endsG m b es = true
  | [], _, _, _ => rfl
  | e :: es, b, h, hp => by
    obtain ⟨h1, h2, h3, h4⟩ := h e List.mem_cons_self
    rw [List.pairwise_cons] at hp
    show (decide (b < e.1) && decide (e.1 < m) && decide (1 ≤ e.2) && decide (e.2 ≤ 1000) && endsG m e.1 es) = true
    rw [endsG_ok (fun x hx => ⟨hp.1 x hx, (h x (List.mem_cons_of_mem _ hx)).2⟩) hp.2, decide_eq_true h1, decide_eq_true h2, decide_eq_true h3, decide_eq_true h4]
    rfl
theorem ends_true {m : Nat} {c : Cho} (h : ChoOk m 6 c) : endsB (m : Nat) c.2 = true := by
  unfold endsB
  rw [endsG_ok (fun e he => ?_) h.rise, decide_eq_true (show 1 ≤ c.2.length from List.length_pos_iff.mpr h.ne), decide_eq_true h.len]
  · rfl
  · have := h.ends e he
    omega
theorem fltC_none {m : Nat} {st : Int} : ∀ {s : List Cho} {k : Nat}, (∀ c ∈ s, ChoOk m 6 c) → fltC (m : Nat) st k s = .none
  | [], _, _ => rfl
  | c :: s, k, h => by
    have q := h c List.mem_cons_self
    unfold fltC
    rw [if_pos (by rw [decide_eq_true q.cost.1, decide_eq_true q.cost.2]; rfl), if_pos (ends_true q), fltC_none fun x hx => h x (List.mem_cons_of_mem _ hx)]
theorem fltY_none {m : Nat} : ∀ {ss : List (List Cho)} {k : Nat}, (∀ s ∈ ss, (1 ≤ s.length ∧ s.length ≤ 6) ∧ ∀ c ∈ s, ChoOk m 6 c) → fltY (m : Nat) k ss = .none
  | [], _, _ => rfl
  | s :: ss, k, h => by
    have q := h s List.mem_cons_self
    have e : fltS (m : Nat) (k : Nat) s = .none := by
      unfold fltS
      rw [if_pos (by rw [decide_eq_true q.1.1, decide_eq_true q.1.2]; rfl), fltC_none q.2]
    rw [fltY_cons, e, if_pos (show isNone PyData.none = true from rfl), fltY_none fun x hx => h x (List.mem_cons_of_mem _ hx)]
theorem flt_none {y : List (List Cho)} (h : SysN y) : flt y = .none := by
  unfold flt
  rw [if_pos (by rw [decide_eq_true h.ne, decide_eq_true h.len]; rfl), fltY_none fun s hs => ⟨h.st s hs, h.cho s hs⟩]
theorem dn_pr {n : Nat} (e : Int × Int) : Dn (n + 1) (prD e) := .tup (by simp) fun d hd => by
  simp only [List.mem_cons, List.not_mem_nil, or_false] at hd
  rcases hd with rfl | rfl <;> exact .int _ _
theorem dn_cho {n : Nat} {c : Cho} (h : c.2.length ≤ 6) : Dn (n + 3) (dC c) := .tup (by simp) fun d hd => by
  simp only [List.mem_cons, List.not_mem_nil, or_false] at hd
  rcases hd with rfl | rfl
  · exact .int _ _
  · refine .tup (by rw [List.length_map]; omega) fun d hd => ?_
    obtain ⟨e, _, rfl⟩ := List.mem_map.mp hd
    exact dn_pr e
theorem dn_sys {y : List (List Cho)} (h : SysN y) : Dn 6 (dY y) := .tup (by rw [List.length_map]; have := h.len; omega) fun d hd => by
  obtain ⟨s, hs, rfl⟩ := List.mem_map.mp hd
  refine .tup (by rw [List.length_map]; have := (h.st s hs).2; omega) fun d hd => ?_
  obtain ⟨c, hc, rfl⟩ := List.mem_map.mp hd
  exact dn_cho (h.cho s hs c hc).len

end
section
/-! ### quotients: the law -/
open PySem L2 PySem.W
theorem w_denS41 {N : Nat} {fs : VS} {ns : List Int} {kD : PyData → Prop} (h : (fs (some (.scr ns) :: List.replicate (N - 1) none)).okTo fun fl => match fl with
    | .nx _ => kD .none
    | .rt d _ => kD d
    | _ => False) : (denS N fs ns).okTo kD := by
  unfold denS
  refine okTo_bind.mpr (h.mono fun fl q => ?_)
  cases fl with
  | nx S => exact q
  | rt d S => exact q
  | bk S => exact q.elim
  | ct S => exact q.elim
theorem w_isiT41 {fa : VE} {S : SS} {kE : PyData × SS → Prop} (h : (fa S).okTo fun p => ∃ ds, p.1 = .tuple ds ∧ kE (.bool true, p.2)) : (vIsi "tuple" fa S).okTo kE := by
  unfold vIsi
  rw [okTo_bind]
  refine h.mono fun p q => ?_
  obtain ⟨d, S1⟩ := p
  obtain ⟨ds, rfl, q⟩ := q
  exact q
theorem w_isiN41 {fa : VE} {S : SS} {kE : PyData × SS → Prop} (h : (fa S).okTo fun p => ∃ ds, p.1 = .list ds ∧ kE (.bool false, p.2)) : (vIsi "tuple" fa S).okTo kE := by
  unfold vIsi
  rw [okTo_bind]
  refine h.mono fun p q => ?_
  obtain ⟨d, S1⟩ := p
  obtain ⟨ds, rfl, q⟩ := q
  exact q
theorem dn_ref41 : Dn 6 ref41 := .lst (by simp) fun d hd => by
  simp only [List.mem_cons, List.not_mem_nil, or_false] at hd
  rcases hd with rfl | rfl
  · exact .str _ _
  · exact .bl _ _
def fm5 (k j : Nat) : Bool := decide (Int.fmod ((j : Int) + (k : Int)) 5 = 0)
def five (m : Nat) : List (List Cho) := (List.range m).map fun k => [((0 : Int), ((List.range m).filter (fm5 k)).map fun (j : Nat) => ((j : Int), (1 : Int)))]
theorem five_ok : ∀ m, m < 21 → 12 ≤ m → ∀ k, k < m → ((List.range m).filter (fm5 k)) ≠ [] ∧ ((List.range m).filter (fm5 k)).length ≤ 6 := by decide +kernel
theorem five_sys {m : Nat} (h1 : 12 ≤ m) (h2 : m < 21) : Sys5 (five m) := by
  have ml : (five m).length = m := by
    unfold five
    rw [List.length_map, List.length_range]
  refine ⟨fun z => ?_, by omega, fun s hs => ?_⟩
  · rw [z] at ml
    simp at ml
    omega
  · obtain ⟨k, hk, rfl⟩ := List.mem_map.mp hs
    obtain ⟨f1, f2⟩ := five_ok m h2 h1 k (List.mem_range.mp hk)
    refine ⟨by simp, by simp, fun c hc => ?_⟩
    rw [List.mem_singleton.mp hc, ml]
    refine ⟨⟨Int.le_refl _, by show (0 : Int) ≤ 1000; decide⟩, fun z => f1 (List.map_eq_nil_iff.mp z), by show (List.map _ _).length ≤ 6; rw [List.length_map]; exact f2, fun e he => ?_⟩
    obtain ⟨j, hj, rfl⟩ := List.mem_map.mp he
    have := List.mem_range.mp (List.mem_filter.mp hj).1
    dsimp only
    omega
theorem Sy4.five {q b : Nat} {w : Int} {y : List (List Cho)} (h : Sy4 q b w y) (hq : q ≤ 6) (hb : b ≤ 6) (hw : w ≤ 3000) (hl : y.length ≤ 20) : Sys5 y := ⟨h.1, hl, fun s hs => by
  obtain ⟨r1, r2, r3⟩ := h.2 s hs
  refine ⟨r1, by omega, fun c hc => ?_⟩
  obtain ⟨c0, c1, c2, c3⟩ := r3 c hc
  exact ⟨c0, c1, by omega, fun e he => by have := c3 e he; omega⟩⟩
theorem law_worth {ns : List Int} (hl : ns.length ≤ 63) : (den_law ns).okTo fun z => z = .bool true := by
  unfold den_law body_law
  refine w_denS41 ?_
  simp only [Nat.reduceSub, List.replicate_succ, List.replicate_zero]
  walk_at "wv"
  refine tape_ok hl fun ts ht => ?_
  walk_at "wv"
  refine ⟨by simp, ?_⟩
  have b : Box ts 0 [dL ts, .int 0] := ⟨ht, 0, Int.le_refl _, Int.le_refl _, rfl⟩
  walk_at "wv"
  refine ⟨_, rfl, ⟨by omega, by omega⟩, ?_⟩
  refine loop_ok (fun t S => ∃ (bs : List PyData), S = [some (.scr ns), some (.own bs), none, none, none, none, none, none, none, none, none, none] ∧ Box ts (30000 * t) bs) ?_ ?_ ⟨_, rfl, b.up (by omega)⟩
  · rintro t d S ht ⟨bs, rfl, b⟩
    obtain ⟨ht1, rfl⟩ := rangeD_get ht
    have ht3 : t < 3 := ht1
    walk_at "wv"
    refine ⟨rfl, light_ok b (by omega) fun y bs1 hy yl b1 => ?_⟩
    walk_at "wv"
    refine ⟨rfl, twins_ok b1 (by omega) hy yl fun z bs2 hz zl b2 => ?_⟩
    walk_at "wv"
    refine okTo_eq gLen_y ?_
    walk_at "wv"
    refine ⟨_, rfl, ⟨by omega, by omega⟩, ⟨rfl, by rw [rangeD_len]; omega⟩, ?_⟩
    rw [Int.toNat_natCast]
    refine lc_ok (fun p acc Z => ∃ (gs : List Int) (bs : List PyData), acc = gs.map PyData.int ∧ gs.length = p ∧ Z = [some (.scr ns), some (.own bs), some (.dat (.int (0 + (t : Nat)))), some (.dat (dY z)), none, none, none, none, none, none, none, none] ∧ Box ts (30000 * t + 11000 + 2 * p) bs) ?_ ?_ ⟨[], bs2, rfl, rfl, rfl, b2.up (by omega)⟩
    · rintro p d acc Z hp ⟨gs, bs, rfl, gl, rfl, b8⟩
      obtain ⟨hp1, rfl⟩ := rangeD_get hp
      walk_at "wv"
      refine ⟨rfl, take_ok b8 (by omega) (by decide) fun q bs9 q0 q1 b9 => ?_⟩
      walk_at "wv"
      refine ⟨rfl, take_ok b9 (by omega) (by omega) fun g bs10 w0 w1 b10 => ?_⟩
      exact ⟨gs ++ [g], bs10, by rw [List.map_append]; rfl, by rw [List.length_append, List.length_singleton]; omega, rfl, b10.up (by omega)⟩
    rintro acc Z ⟨gs, bs3, rfl, gl, rfl, b3⟩
    rw [rangeD_len] at gl b3
    walk_at "wv"
    refine ⟨rfl, take_ok b3 (by omega) (by decide) fun r bs4 r0 r1 b4 => ?_⟩
    walk_at "wv"
    refine ite_join40 (P := fun fl => ∃ (x : List (List Cho)) (gs : List Int) (bs : List PyData) (e8 : Option SV), fl = .nx [some (.scr ns), some (.own bs), some (.dat (.int (0 + (t : Nat)))), some (.dat (dY x)), some (.dat (.list (gs.map PyData.int))), none, none, none, e8, none, none, none] ∧ Sys5 x ∧ gs.length = x.length ∧ Box ts (30000 * t + 12000) bs) ?_ (fun cc => ?_) (fun cc => ?_)
    rotate_left 1
    · walk_at "wv"
      refine ⟨rfl, take_ok b4 (by omega) (by decide) fun a bs5 a0 a1 b5 => ?_⟩
      walk_at "wv"
      refine ⟨by simp, ?_⟩
      walk_at "wv"
      refine ⟨rfl, take_ok b5 (by omega) (by decide) fun a2 bs6 c0 c1 b6 => ?_⟩
      walk_at "wv"
      refine ⟨by simp, ?_⟩
      walk_at "wv"
      refine ⟨rfl, take_ok b6 (by omega) (by decide) fun a3 bs7 e0 e1 b7 => ?_⟩
      walk_at "wv"
      refine ⟨by simp, by simp, by simp, by simp, ?_⟩
      refine ⟨[[((2 : Int), [((0 : Int), 997 + a), (1, 1 + a2), (2, 1 + a3)])], [((2 : Int), [((0 : Int), 997 + a), (1, 1 + a2), (2, 1 + a3)])], [((0 : Int), [((2 : Int), (1 : Int))])]], [4, 4, 1], bs7, _, rfl, ⟨by simp, by simp, fun s hs => ?_⟩, rfl, b7.up (by omega)⟩
      have r1 : Row4 3 6 6 3000 [((2 : Int), [((0 : Int), 997 + a), (1, 1 + a2), (2, 1 + a3)])] := by
        refine ⟨by simp, by simp, fun c hc => ?_⟩
        rw [List.mem_singleton.mp hc]
        refine ⟨⟨by show (0 : Int) ≤ 2; decide, by show (2 : Int) ≤ 1000; decide⟩, by simp, by simp, fun e he => ?_⟩
        simp only [List.mem_cons, List.not_mem_nil, or_false] at he
        rcases he with rfl | rfl | rfl <;> dsimp only <;> omega
      have r2 : Row4 3 6 6 3000 [((0 : Int), [((2 : Int), (1 : Int))])] := by
        refine ⟨by simp, by simp, fun c hc => ?_⟩
        rw [List.mem_singleton.mp hc]
        refine ⟨⟨by decide, by decide⟩, by simp, by simp, fun e he => ?_⟩
        rw [List.mem_singleton.mp he]
        dsimp only
        omega
      simp only [List.mem_cons, List.not_mem_nil, or_false] at hs
      rcases hs with rfl | rfl | rfl
      · exact r1
      · exact r1
      · exact r2
    · walk_at "wv"
      exact ⟨z, gs, bs4, none, rfl, hz.five (by decide) (by decide) (by decide) (by omega), gl, b4.up (by omega)⟩
    rintro fl ⟨x, gs, bs5, e8, rfl, hx, gl, b5⟩
    dsimp only
    walk_at "wv"
    refine ⟨rfl, take_ok b5 (by omega) (by decide) fun r bs6 r0 r1 b6 => ?_⟩
    walk_at "wv"
    refine ite_join40 (P := fun fl => ∃ (x : List (List Cho)) (gs : List Int) (bs : List PyData) (e9 : Option SV), fl = .nx [some (.scr ns), some (.own bs), some (.dat (.int (0 + (t : Nat)))), some (.dat (dY x)), some (.dat (.list (gs.map PyData.int))), none, none, none, none, e9, none, none] ∧ Sys5 x ∧ gs.length = x.length ∧ Box ts (30000 * t + 13000) bs) ?_ (fun cc => ?_) (fun cc => ?_)
    rotate_left 1
    · walk_at "wv"
      refine ⟨rfl, take_ok b6 (by omega) (by decide) fun r bs7 r0 r1 b7 => ?_⟩
      obtain ⟨m, hm⟩ : ∃ m : Nat, 12 + r = (m : Int) := ⟨(12 + r).toNat, by omega⟩
      walk_at "wv"
      rw [hm]
      refine ⟨_, rfl, ⟨by omega, by omega⟩, ⟨rfl, by rw [rangeD_len]; omega⟩, ?_⟩
      rw [Int.toNat_natCast]
      refine lc_ok (fun p acc Z => acc = ((five m).take p).map dS ∧ Z = [some (.scr ns), some (.own bs7), some (.dat (.int (0 + (t : Nat)))), some (.dat (dY x)), some (.dat (.list (gs.map PyData.int))), none, none, none, none, some (.dat (.int (m : Nat))), none, none]) ?_ ?_ ⟨rfl, rfl⟩
      · rintro p d acc Z hp ⟨rfl, rfl⟩
        obtain ⟨hp1, rfl⟩ := rangeD_get hp
        rw [Int.zero_add]
        walk_at "wv"
        refine ⟨_, rfl, ⟨by omega, by omega⟩, ⟨rfl, by rw [rangeD_len]; omega⟩, ?_⟩
        rw [Int.toNat_natCast]
        refine lc_ok (fun q acc Z => acc = ((List.range q).filter (fm5 p)).map (fun (j : Nat) => PyData.tuple [.int (j : Int), .int 1]) ∧ Z = [some (.scr ns), some (.own bs7), some (.dat (.int (0 + (t : Nat)))), some (.dat (dY x)), some (.dat (.list (gs.map PyData.int))), none, none, none, none, some (.dat (.int (m : Nat))), some (.dat (.int (p : Nat))), none]) ?_ ?_ ⟨rfl, rfl⟩
        · rintro q d acc Z hq ⟨rfl, rfl⟩
          obtain ⟨hq1, rfl⟩ := rangeD_get hq
          rw [Int.zero_add]
          walk_at "wv"
          refine ⟨cMod_ok (by decide), ?_⟩
          walk_at "wv"
          rw [List.range_succ, List.filter_append, List.map_append, flt1 (fm5 p) q]
          have fe : decide (Int.fmod ((q : Int) + (p : Int)) 5 = 0) = fm5 p q := rfl
          rw [fe]
          by_cases cc : fm5 p q = true
          · rw [if_pos cc, if_pos cc]
            walk_at "wv"
            refine ⟨by simp, ?_⟩
            exact ⟨rfl, by first | trivial | rfl⟩
          · rw [if_neg cc, if_neg cc, List.map_nil, List.append_nil]
            exact ⟨rfl, by first | trivial | rfl⟩
        · rintro acc Z ⟨rfl, rfl⟩
          rw [rangeD_len]
          walk_at "wv"
          refine ⟨by simp, ?_⟩
          walk_at "wv"
          refine ⟨by simp, ?_⟩
          have fe : (five m)[p]? = some [((0 : Int), ((List.range m).filter (fm5 p)).map fun (j : Nat) => ((j : Int), (1 : Int)))] := by
            unfold five
            rw [List.getElem?_map, List.getElem?_range hp1]
            rfl
          rw [List.take_add_one, fe, List.map_append]
          refine ⟨?_, by first | trivial | rfl⟩
          congr 1
          show _ = [PyData.tuple [.tuple [.int 0, .tuple ((((List.range m).filter (fm5 p)).map fun (j : Nat) => ((j : Int), (1 : Int))).map prD)]]]
          rw [List.map_map]
          rfl
      · rintro acc Z ⟨rfl, rfl⟩
        rw [rangeD_len]
        walk_at "wv"
        have fl5 : (five m).length = m := by
          unfold five
          rw [List.length_map, List.length_range]
        rw [show (five m).take m = five m from List.take_of_length_le (by omega)]
        refine ⟨_, rfl, ⟨by omega, by omega⟩, ⟨rfl, by rw [rangeD_len]; omega⟩, ?_⟩
        rw [Int.toNat_natCast]
        refine lc_ok (fun p acc Z => acc = ((List.range p).map fun (k : Nat) => (100 : Int) - (k : Int)).map PyData.int ∧ Z = [some (.scr ns), some (.own bs7), some (.dat (.int (0 + (t : Nat)))), some (.dat (dY (five m))), some (.dat (.list (gs.map PyData.int))), none, none, none, none, some (.dat (.int (m : Nat))), none, none]) ?_ ?_ ⟨rfl, rfl⟩
        · rintro p d acc Z hp ⟨rfl, rfl⟩
          obtain ⟨hp1, rfl⟩ := rangeD_get hp
          rw [Int.zero_add]
          walk_at "wv"
          rw [List.range_succ, List.map_append, List.map_append]
          exact ⟨rfl, by first | trivial | rfl⟩
        · rintro acc Z ⟨rfl, rfl⟩
          rw [rangeD_len]
          walk_at "wv"
          exact ⟨five m, (List.range m).map fun (k : Nat) => (100 : Int) - (k : Int), bs7, _, rfl, five_sys (by omega) (by omega), by rw [List.length_map, List.length_range, fl5], b7.up (by omega)⟩
    · walk_at "wv"
      exact ⟨x, gs, bs6, none, rfl, hx, gl, b6.up (by omega)⟩
    rintro fl ⟨x, gs, bs7, e9, rfl, hx, gl, b7⟩
    dsimp only
    walk_at "wv"
    have hlaw := hx.law
    have pg : Pn 1 (.list (gs.map PyData.int)) := pn_map fun i _ => pn_int i
    have neq : ∀ {k : PyData → Prop}, k (.bool false) → (gNeD (.list (gs.map PyData.int)) (.list (gs.map PyData.int))).okTo k := fun h => w_gNeD ⟨⟨pn_shaped pg (by decide), pn_shaped pg (by decide)⟩, by rw [(eqv_pn pg pg).mpr rfl]; exact h⟩
    cases hgr : greatQ x (it40 x gs x.length) with
    | true =>
      refine ⟨rfl, told_ok hlaw gl (fun _ => ?_) fun z => by rw [hgr] at z; cases z⟩
      walk_at "wv"
      refine neq ?_
      walk_at "wv"
      refine ⟨rfl, due_ok hlaw gl (fun _ => ?_) fun z => by rw [hgr] at z; cases z⟩
      walk_at "wv"
      refine ifP rfl ?_
      walk_at "wv"
      refine ⟨by simp, ?_⟩
      walk_at "wv"
      refine ⟨rfl, okTo_eq (denEq_ok rfl dn_ref41) ?_⟩
      walk_at "wv"
      refine w_isiN41 ?_
      walk_at "wv"
      refine ⟨_, rfl, ?_⟩
      walk_at "wv"
      exact ⟨bs7, rfl, b7.up (by omega)⟩
    | false =>
      have sn0 := quot_sys hx (nums_it gl hx.1 x.length) hgr
      have sn : SysN (QY x (it40 x gs x.length)) := ⟨sn0.ne, sn0.len, sn0.st, sn0.cho⟩
      refine ⟨rfl, told_ok hlaw gl (fun z => by rw [hgr] at z; cases z) fun _ => ?_⟩
      walk_at "wv"
      refine neq ?_
      walk_at "wv"
      refine ⟨rfl, due_ok hlaw gl (fun z => by rw [hgr] at z; cases z) fun _ => ?_⟩
      walk_at "wv"
      refine ifN (fun z => nomatch (show (false : Bool) = true from z)) ?_
      walk_at "wv"
      refine ⟨rfl, okTo_eq (denEq_ok rfl (dn_sys sn)) ?_⟩
      walk_at "wv"
      refine w_isiT41 ?_
      walk_at "wv"
      refine ⟨_, rfl, ?_⟩
      walk_at "wv"
      refine ⟨rfl, fault_ok ?_⟩
      rw [flt_none sn]
      walk_at "wv"
      exact ⟨bs7, rfl, b7.up (by omega)⟩
  · rintro S ⟨bs, rfl, b⟩
    walk_at "wv"

end
end Bo
namespace Bo
open PySem L2
def topS (i : Nat) : Stmt := PySem.Challenge.pw_bestodds_k41_quotients.main.body.getD i (.Pass ⟨0, 0, 0, 0⟩)
abbrev s_l_tape : Stmt := topS 23
abbrev s_l_draw : Stmt := topS 24
abbrev s_l_take : Stmt := topS 26
abbrev s_l_split : Stmt := topS 35
abbrev s_l_twins : Stmt := topS 36
abbrev s_numbered : Stmt := topS 18
abbrev s_ends_between : Stmt := topS 21
abbrev s_choices_between : Stmt := topS 20
abbrev s_block_numbers : Stmt := topS 17
abbrev s_members_of : Stmt := topS 19
abbrev s_has_great_weight : Stmt := topS 16
abbrev s_quotient : Stmt := topS 15
abbrev s_l_told : Stmt := topS 42
abbrev s_l_ratio : Stmt := topS 27
abbrev s_l_sight : Stmt := topS 38
abbrev s_l_blocks : Stmt := topS 39
abbrev s_l_common : Stmt := topS 40
abbrev s_l_due : Stmt := topS 41
abbrev s_l_ends : Stmt := topS 31
abbrev s_l_choices : Stmt := topS 32
abbrev s_l_system : Stmt := topS 33
abbrev s_l_light : Stmt := topS 37
abbrev s_l_equal : Stmt := topS 25
abbrev s_are_ends : Stmt := topS 13
abbrev s_fault_in_state : Stmt := topS 12
abbrev s_fault : Stmt := topS 11
abbrev s_law : Stmt := topS 43
def clsDef (s : Stmt) : Stmt := match s with
  | .ClassDef _ _ _ b _ _ _ _ _ _ _ => b.getD 0 (.Pass ⟨0, 0, 0, 0⟩)
  | _ => .Pass ⟨0, 0, 0, 0⟩
structure Env (K : PySem.W.Frag) (mg : Str → Option Value) where
  a_l_tape : Addr
  d_l_tape : FuncData
  F_l_tape : Fun K "_law_tape" "_law_tape" s_l_tape a_l_tape d_l_tape
  b_l_tape : Binds K d_l_tape ["script"] []
  g_l_tape : mg "_law_tape" = some (.ref a_l_tape)
  a_l_draw : Addr
  d_l_draw : FuncData
  F_l_draw : Fun K "_law_draw" "_law_draw" s_l_draw a_l_draw d_l_draw
  b_l_draw : Binds K d_l_draw ["tape", "at", "many"] []
  g_l_draw : mg "_law_draw" = some (.ref a_l_draw)
  a_l_take : Addr
  d_l_take : FuncData
  F_l_take : Fun K "_law_take" "_law_take" s_l_take a_l_take d_l_take
  b_l_take : Binds K d_l_take ["state", "many"] []
  g_l_take : mg "_law_take" = some (.ref a_l_take)
  a_l_split : Addr
  d_l_split : FuncData
  F_l_split : Fun K "_law_split" "_law_split" s_l_split a_l_split d_l_split
  b_l_split : Binds K d_l_split ["state", "weight", "copies"] []
  g_l_split : mg "_law_split" = some (.ref a_l_split)
  a_l_twins : Addr
  d_l_twins : FuncData
  F_l_twins : Fun K "_law_twins" "_law_twins" s_l_twins a_l_twins d_l_twins
  b_l_twins : Binds K d_l_twins ["state", "system"] []
  g_l_twins : mg "_law_twins" = some (.ref a_l_twins)
  a_numbered : Addr
  d_numbered : FuncData
  F_numbered : Fun K "numbered" "numbered" s_numbered a_numbered d_numbered
  b_numbered : Binds K d_numbered ["keys"] []
  g_numbered : mg "numbered" = some (.ref a_numbered)
  a_ends_between : Addr
  d_ends_between : FuncData
  F_ends_between : Fun K "ends_between" "ends_between" s_ends_between a_ends_between d_ends_between
  b_ends_between : Binds K d_ends_between ["ends", "numbers"] []
  g_ends_between : mg "ends_between" = some (.ref a_ends_between)
  a_choices_between : Addr
  d_choices_between : FuncData
  F_choices_between : Fun K "choices_between" "choices_between" s_choices_between a_choices_between d_choices_between
  b_choices_between : Binds K d_choices_between ["choices", "numbers"] []
  g_choices_between : mg "choices_between" = some (.ref a_choices_between)
  a_block_numbers : Addr
  d_block_numbers : FuncData
  F_block_numbers : Fun K "block_numbers" "block_numbers" s_block_numbers a_block_numbers d_block_numbers
  b_block_numbers : Binds K d_block_numbers ["system", "groups"] []
  g_block_numbers : mg "block_numbers" = some (.ref a_block_numbers)
  a_members_of : Addr
  d_members_of : FuncData
  F_members_of : Fun K "members_of" "members_of" s_members_of a_members_of d_members_of
  b_members_of : Binds K d_members_of ["numbers"] []
  g_members_of : mg "members_of" = some (.ref a_members_of)
  a_has_great_weight : Addr
  d_has_great_weight : FuncData
  F_has_great_weight : Fun K "has_great_weight" "has_great_weight" s_has_great_weight a_has_great_weight d_has_great_weight
  b_has_great_weight : Binds K d_has_great_weight ["choices"] []
  g_has_great_weight : mg "has_great_weight" = some (.ref a_has_great_weight)
  a_quotient : Addr
  d_quotient : FuncData
  F_quotient : Fun K "quotient" "quotient" s_quotient a_quotient d_quotient
  b_quotient : Binds K d_quotient ["system", "groups"] []
  g_quotient : mg "quotient" = some (.ref a_quotient)
  a_l_told : Addr
  d_l_told : FuncData
  F_l_told : Fun K "_law_told" "_law_told" s_l_told a_l_told d_l_told
  b_l_told : Binds K d_l_told ["system", "groups"] []
  g_l_told : mg "_law_told" = some (.ref a_l_told)
  a_l_ratio : Addr
  d_l_ratio : FuncData
  F_l_ratio : Fun K "_law_ratio" "_law_ratio" s_l_ratio a_l_ratio d_l_ratio
  b_l_ratio : Binds K d_l_ratio ["n", "d"] []
  g_l_ratio : mg "_law_ratio" = some (.ref a_l_ratio)
  a_l_sight : Addr
  d_l_sight : FuncData
  F_l_sight : Fun K "_law_sight" "_law_sight" s_l_sight a_l_sight d_l_sight
  b_l_sight : Binds K d_l_sight ["system", "names", "k"] []
  g_l_sight : mg "_law_sight" = some (.ref a_l_sight)
  a_l_blocks : Addr
  d_l_blocks : FuncData
  F_l_blocks : Fun K "_law_blocks" "_law_blocks" s_l_blocks a_l_blocks d_l_blocks
  b_l_blocks : Binds K d_l_blocks ["system", "groups"] []
  g_l_blocks : mg "_law_blocks" = some (.ref a_l_blocks)
  a_l_common : Addr
  d_l_common : FuncData
  F_l_common : Fun K "_law_common" "_law_common" s_l_common a_l_common d_l_common
  b_l_common : Binds K d_l_common ["numbers"] []
  g_l_common : mg "_law_common" = some (.ref a_l_common)
  a_l_due : Addr
  d_l_due : FuncData
  F_l_due : Fun K "_law_due" "_law_due" s_l_due a_l_due d_l_due
  b_l_due : Binds K d_l_due ["system", "groups"] []
  g_l_due : mg "_law_due" = some (.ref a_l_due)
  a_l_ends : Addr
  d_l_ends : FuncData
  F_l_ends : Fun K "_law_ends" "_law_ends" s_l_ends a_l_ends d_l_ends
  b_l_ends : Binds K d_l_ends ["state", "many"] []
  g_l_ends : mg "_law_ends" = some (.ref a_l_ends)
  a_l_choices : Addr
  d_l_choices : FuncData
  F_l_choices : Fun K "_law_choices" "_law_choices" s_l_choices a_l_choices d_l_choices
  b_l_choices : Binds K d_l_choices ["state", "many", "most"] []
  g_l_choices : mg "_law_choices" = some (.ref a_l_choices)
  a_l_system : Addr
  d_l_system : FuncData
  F_l_system : Fun K "_law_system" "_law_system" s_l_system a_l_system d_l_system
  b_l_system : Binds K d_l_system ["state", "most"] []
  g_l_system : mg "_law_system" = some (.ref a_l_system)
  a_l_light : Addr
  d_l_light : FuncData
  F_l_light : Fun K "_law_light" "_law_light" s_l_light a_l_light d_l_light
  b_l_light : Binds K d_l_light ["state"] []
  g_l_light : mg "_law_light" = some (.ref a_l_light)
  a_l_equal : Addr
  d_l_equal : FuncData
  F_l_equal : Fun K "_law_equal" "_law_equal" s_l_equal a_l_equal d_l_equal
  b_l_equal : Binds K d_l_equal ["actual", "due"] []
  g_l_equal : mg "_law_equal" = some (.ref a_l_equal)
  a_are_ends : Addr
  d_are_ends : FuncData
  F_are_ends : Fun K "are_ends" "are_ends" s_are_ends a_are_ends d_are_ends
  b_are_ends : Binds K d_are_ends ["many", "ends"] []
  g_are_ends : mg "are_ends" = some (.ref a_are_ends)
  a_fault_in_state : Addr
  d_fault_in_state : FuncData
  F_fault_in_state : Fun K "fault_in_state" "fault_in_state" s_fault_in_state a_fault_in_state d_fault_in_state
  b_fault_in_state : Binds K d_fault_in_state ["many", "state", "choices"] []
  g_fault_in_state : mg "fault_in_state" = some (.ref a_fault_in_state)
  a_fault : Addr
  d_fault : FuncData
  F_fault : Fun K "fault" "fault" s_fault a_fault d_fault
  b_fault : Binds K d_fault ["system"] []
  g_fault : mg "fault" = some (.ref a_fault)
  a_law : Addr
  d_law : FuncData
  F_law : Fun K "law" "law" s_law a_law d_law
  b_law : Binds K d_law ["script"] []
  g_law : mg "law" = some (.ref a_law)
  c_BestoddsError : Addr
  g_BestoddsError : mg "BestoddsError" = some (.ref c_BestoddsError)
  e_BestoddsError : PySem.W.excIn K c_BestoddsError [.type "ValueError", .type "Exception", .type "BaseException", .type "object"] "ValueError.__new__" = true
  k_BestoddsError : PySem.W.keepIn K (.ref c_BestoddsError) = true
  c_WeightTooGreat : Addr
  g_WeightTooGreat : mg "WeightTooGreat" = some (.ref c_WeightTooGreat)
  e_WeightTooGreat : PySem.W.excIn K c_WeightTooGreat [.type "ValueError", .type "Exception", .type "BaseException", .type "object"] "ValueError.__new__" = true
  k_WeightTooGreat : PySem.W.keepIn K (.ref c_WeightTooGreat) = true
  c_BenchError : Addr
  g_BenchError : mg "BenchError" = some (.ref c_BenchError)
  e_BenchError : PySem.W.excIn K c_BenchError [.type "ValueError", .type "Exception", .type "BaseException", .type "object"] "ValueError.__new__" = true
  k_BenchError : PySem.W.keepIn K (.ref c_BenchError) = true
  z_ValueError : mg "ValueError" = none
  z_abs : mg "abs" = none
  z_any : mg "any" = none
  z_bool : mg "bool" = none
  z_enumerate : mg "enumerate" = none
  z_int : mg "int" = none
  z_isinstance : mg "isinstance" = none
  z_len : mg "len" = none
  z_list : mg "list" = none
  z_max : mg "max" = none
  z_min : mg "min" = none
  z_range : mg "range" = none
  z_sorted : mg "sorted" = none
  z_str : mg "str" = none
  z_sum : mg "sum" = none
  z_tuple : mg "tuple" = none
  z_zip : mg "zip" = none
  z_gcd : mg "gcd" = some (.builtin "math.gcd")
  k_MOST_CHOICES : Tok
  c_MOST_CHOICES : mg "MOST_CHOICES" = some (.int 6 k_MOST_CHOICES)
  k_MOST_COST : Tok
  c_MOST_COST : mg "MOST_COST" = some (.int 1000 k_MOST_COST)
  k_MOST_ENDS : Tok
  c_MOST_ENDS : mg "MOST_ENDS" = some (.int 6 k_MOST_ENDS)
  k_MOST_STATES : Tok
  c_MOST_STATES : mg "MOST_STATES" = some (.int 20 k_MOST_STATES)
  k_MOST_WEIGHT : Tok
  c_MOST_WEIGHT : mg "MOST_WEIGHT" = some (.int 1000 k_MOST_WEIGHT)
  m_BestoddsError : PySem.W.subIn K (.ref c_BestoddsError) (.type "BaseException") = some true
  y_BestoddsError : PySem.W.typeIn K (.ref c_BestoddsError) = some (.type "type")
  m_WeightTooGreat : PySem.W.subIn K (.ref c_WeightTooGreat) (.type "BaseException") = some true
  y_WeightTooGreat : PySem.W.typeIn K (.ref c_WeightTooGreat) = some (.type "type")
  m_BenchError : PySem.W.subIn K (.ref c_BenchError) (.type "BaseException") = some true
  y_BenchError : PySem.W.typeIn K (.ref c_BenchError) = some (.type "type")
  h_WeightTooGreat_BestoddsError : PySem.W.exmOne K (.ref c_WeightTooGreat) (.ref c_BestoddsError) = some true
  j_WeightTooGreat_WeightTooGreat : PySem.W.kitOne K (.ref c_WeightTooGreat) (.ref c_WeightTooGreat) = some true
  j_WeightTooGreat_ValueError : PySem.W.kitOne K (.ref c_WeightTooGreat) (.type "ValueError") = some true
  j_WeightTooGreat_BenchError : PySem.W.kitOne K (.ref c_WeightTooGreat) (.ref c_BenchError) = some false
  xc_WeightTooGreat : xcB K c_WeightTooGreat = true
def Env.L {K : PySem.W.Frag} {mg : Str → Option Value} (T : Env K mg) : Cls := ⟨fun x => if x = "BestoddsError" then some T.c_BestoddsError else if x = "WeightTooGreat" then some T.c_WeightTooGreat else if x = "BenchError" then some T.c_BenchError else none, fun x => ""⟩

theorem sc_l_tape : FnScope ["script", "tape", "cell", "number", "k", "first"] ["script"] (defScope s_l_tape) := ⟨rfl, rfl, rfl, by decide +kernel, rfl, by decide +kernel, by decide +kernel⟩
theorem sc_l_draw : FnScope ["tape", "at", "many", "number"] ["tape", "at", "many"] (defScope s_l_draw) := ⟨rfl, rfl, rfl, by decide +kernel, rfl, by decide +kernel, by decide +kernel⟩
theorem sc_l_take : FnScope ["state", "many"] ["state", "many"] (defScope s_l_take) := ⟨rfl, rfl, rfl, by decide +kernel, rfl, by decide +kernel, by decide +kernel⟩
theorem sc_l_split : FnScope ["state", "weight", "copies", "low"] ["state", "weight", "copies"] (defScope s_l_split) := ⟨rfl, rfl, rfl, by decide +kernel, rfl, by decide +kernel, by decide +kernel⟩
theorem sc_l_twins : FnScope ["state", "system", "copies", "many", "k", "made", "count", "copy", "choices", "cost", "ends", "fresh", "goal", "weight", "end"] ["state", "system"] (defScope s_l_twins) := ⟨rfl, rfl, rfl, by decide +kernel, rfl, by decide +kernel, by decide +kernel⟩
theorem sc_numbered : FnScope ["keys", "found", "key"] ["keys"] (defScope s_numbered) := ⟨rfl, rfl, rfl, by decide +kernel, rfl, by decide +kernel, by decide +kernel⟩
theorem sc_ends_between : FnScope ["ends", "numbers", "weights", "shared", "weight", "state", "block"] ["ends", "numbers"] (defScope s_ends_between) := ⟨rfl, rfl, rfl, by decide +kernel, rfl, by decide +kernel, by decide +kernel⟩
theorem sc_choices_between : FnScope ["choices", "numbers", "found", "cost", "ends", "between"] ["choices", "numbers"] (defScope s_choices_between) := ⟨rfl, rfl, rfl, by decide +kernel, rfl, by decide +kernel, by decide +kernel⟩
theorem sc_block_numbers : FnScope ["system", "groups", "numbers", "finer", "choices", "number"] ["system", "groups"] (defScope s_block_numbers) := ⟨rfl, rfl, rfl, by decide +kernel, rfl, by decide +kernel, by decide +kernel⟩
theorem sc_members_of : FnScope ["numbers", "members", "state", "number", "_"] ["numbers"] (defScope s_members_of) := ⟨rfl, rfl, rfl, by decide +kernel, rfl, by decide +kernel, by decide +kernel⟩
theorem sc_has_great_weight : FnScope ["choices", "_", "ends", "weight"] ["choices"] (defScope s_has_great_weight) := ⟨rfl, rfl, rfl, by decide +kernel, rfl, by decide +kernel, by decide +kernel⟩
theorem sc_quotient : FnScope ["system", "groups", "numbers", "states", "block", "choices"] ["system", "groups"] (defScope s_quotient) := ⟨rfl, rfl, rfl, by decide +kernel, rfl, by decide +kernel, by decide +kernel⟩
theorem sc_l_told : FnScope ["system", "groups", "e", "refused"] ["system", "groups"] (defScope s_l_told) := ⟨rfl, rfl, rfl, by decide +kernel, rfl, by decide +kernel, by decide +kernel⟩
theorem sc_l_ratio : FnScope ["n", "d", "a", "b", "k", "rest"] ["n", "d"] (defScope s_l_ratio) := ⟨rfl, rfl, rfl, by decide +kernel, rfl, by decide +kernel, by decide +kernel⟩
theorem sc_l_sight : FnScope ["system", "names", "k", "rows", "cost", "ends", "whole", "row", "pair", "goal", "weight", "end", "name"] ["system", "names", "k"] (defScope s_l_sight) := ⟨rfl, rfl, rfl, by decide +kernel, rfl, by decide +kernel, by decide +kernel⟩
theorem sc_l_blocks : FnScope ["system", "groups", "many", "names", "k", "sights", "group", "j", "sight"] ["system", "groups"] (defScope s_l_blocks) := ⟨rfl, rfl, rfl, by decide +kernel, rfl, by decide +kernel, by decide +kernel⟩
theorem sc_l_common : FnScope ["numbers", "common", "number", "a", "b", "k", "rest"] ["numbers"] (defScope s_l_common) := ⟨rfl, rfl, rfl, by decide +kernel, rfl, by decide +kernel, by decide +kernel⟩
theorem sc_l_due : FnScope ["system", "groups", "blocks", "made", "block", "choices", "cost", "ends", "sums", "common", "choice", "other", "end", "k"] ["system", "groups"] (defScope s_l_due) := ⟨rfl, rfl, rfl, by decide +kernel, rfl, by decide +kernel, by decide +kernel⟩
theorem sc_l_ends : FnScope ["state", "many", "ends", "first", "goal"] ["state", "many"] (defScope s_l_ends) := ⟨rfl, rfl, rfl, by decide +kernel, rfl, by decide +kernel, by decide +kernel⟩
theorem sc_l_choices : FnScope ["state", "many", "most", "choices", "k"] ["state", "many", "most"] (defScope s_l_choices) := ⟨rfl, rfl, rfl, by decide +kernel, rfl, by decide +kernel, by decide +kernel⟩
theorem sc_l_system : FnScope ["state", "most", "many", "k"] ["state", "most"] (defScope s_l_system) := ⟨rfl, rfl, rfl, by decide +kernel, rfl, by decide +kernel, by decide +kernel⟩
theorem sc_l_light : FnScope ["state", "system", "made", "choices", "cost", "ends", "end"] ["state"] (defScope s_l_light) := ⟨rfl, rfl, rfl, by decide +kernel, rfl, by decide +kernel, by decide +kernel⟩
theorem sc_l_equal : FnScope ["actual", "due", "k"] ["actual", "due"] (defScope s_l_equal) := ⟨rfl, rfl, rfl, by decide +kernel, rfl, by decide +kernel, by decide +kernel⟩
theorem sc_are_ends : FnScope ["many", "ends", "before", "state", "weight"] ["many", "ends"] (defScope s_are_ends) := ⟨rfl, rfl, rfl, by decide +kernel, rfl, by decide +kernel, by decide +kernel⟩
theorem sc_fault_in_state : FnScope ["many", "state", "choices", "number", "cost", "ends"] ["many", "state", "choices"] (defScope s_fault_in_state) := ⟨rfl, rfl, rfl, by decide +kernel, rfl, by decide +kernel, by decide +kernel⟩
theorem sc_fault : FnScope ["system", "state", "choices", "found"] ["system"] (defScope s_fault) := ⟨rfl, rfl, rfl, by decide +kernel, rfl, by decide +kernel, by decide +kernel⟩
theorem sc_law : FnScope ["script", "state", "turn", "system", "groups", "passed", "told", "due", "row", "many", "k", "j"] ["script"] (defScope s_law) := ⟨rfl, rfl, rfl, by decide +kernel, rfl, by decide +kernel, by decide +kernel⟩
/-! ### steps of a reading -/
local macro_rules | `(tactic| walk_at "rd1") => `(tactic| (first
  | with_reducible refine r_seq ?_
  | with_reducible refine r_asg ?_
  | with_reducible refine r_name ?_
  | ((with_reducible refine r_var ?_); (refine ⟨_, rfl, ?_⟩))
  | with_reducible refine r_c ?_
  | with_reducible refine r_op ?_
  | with_reducible refine r_un ?_
  | with_reducible refine r_i0 ?_
  | with_reducible refine r_u ?_
  | with_reducible refine r_eqI ?_
  | with_reducible refine r_neI ?_
  | with_reducible refine r_eqS ?_
  | with_reducible refine r_eqB ?_
  | with_reducible refine r_tst ?_
  | with_reducible refine r_tB ?_
  | with_reducible refine r_bl ?_
  | with_reducible refine r_not ?_
  | with_reducible refine r_and ?_
  | with_reducible refine r_or ?_
  | with_reducible refine r_andV ?_
  | with_reducible refine r_orV ?_
  | with_reducible refine r_notV ?_
  | with_reducible refine r_ifs ?_
  | with_reducible refine r_ifE ?_
  | with_reducible refine r_ret ?_
  | with_reducible refine r_retN ?_
  | with_reducible refine r_next ?_
  | with_reducible refine r_brk ?_
  | with_reducible refine r_cont ?_
  | with_reducible refine r_drop ?_
  | with_reducible refine r_nil ?_
  | with_reducible refine r_cons ?_
  | with_reducible refine r_tup ?_
  | with_reducible refine r_lst ?_
  | with_reducible refine r_cb ?_
  | with_reducible refine r_call ?_
  | with_reducible refine r_chain ?_
  | ((with_reducible show V.non = V.non ∧ _); (refine ⟨rfl, ?_⟩))
  | with_reducible refine r_gsub ?_
  | with_reducible refine r_sl ?_
  | with_reducible refine r_nopart ?_
  | with_reducible refine r_part ?_
  | ((with_reducible show ∃ i, V.int _ = V.int i ∧ _); (refine ⟨_, rfl, ?_⟩))
  | with_reducible refine r_bm ?_
  | with_reducible refine r_bm0 ?_
  | with_reducible refine r_dput ?_
  | with_reducible refine r_dnew ?_
  | with_reducible refine r_for ?_
  | with_reducible refine r_iList ?_
  | with_reducible refine r_iTup ?_
  | with_reducible refine r_rng1 ?_
  | with_reducible refine r_rng2 ?_
  | ((with_reducible show (∃ j, [V.int _] = [V.int j] ∧ _) ∨ (∃ k, [V.int _] = [V.bl k] ∧ _)); (refine Or.inl ⟨_, rfl, ?_⟩))
  | ((with_reducible show ∃ j, [V.int _] = [V.int j] ∧ _); (refine ⟨_, rfl, ?_⟩))
  | ((with_reducible show (-(2 ^ 62) : Int) ≤ _ ∧ _ < (2 ^ 62 : Int) ∧ _); (refine ⟨by decide, by decide, ?_⟩))
  | with_reducible refine r_ifT ?_
  | with_reducible refine r_ifF ?_
  | with_reducible refine r_ifNT ?_
  | with_reducible refine r_ifNF ?_
  | (refine r_iC ?_ ?_; (first | exact Or.inl ⟨by decide, by decide⟩ | exact Or.inr ⟨by decide, by decide⟩ | exact ⟨by decide, by decide, by decide⟩ | exact ⟨by decide, by decide⟩ | (show (0 : Int) < _; decide)))))
local macro_rules | `(tactic| walk_at "rd") => `(tactic| repeat walk_at "rd1")

/-! ### equal data are told equal -/
def sp_eq (K : PySem.W.Frag) : Nat → Sp
  | 0 => fun _ _ _ _ => False
  | n + 1 => fun vs H Q _ => ∃ (x y : V) (d : PyData), vs = [x, y] ∧ Dp K H x d ∧ Dp K H y d ∧ Dn n d ∧ Q (.bl true) H
theorem len_map_int (ds : List PyData) (vs : List V) (e : vs.length = ds.length) (h : vs.length ≤ sizeLine) : (ds.length : Int) < 2 ^ 62 := by
  have : sizeLine = 16777216 := sizeLine_eq
  omega
theorem ok_eq_rec {P : Program} {w : World} {K : PySem.W.Frag} {mg : Str → Option Value} {base : Heap} (T : Env K mg) : ∀ n, FnOk P w K mg base CX0 (n + 1) T.a_l_equal T.d_l_equal ["actual", "due"] (sp_eq K n)
  | 0 => T.F_l_equal.ok sc_l_equal (fun vs H Q E h => h.elim) (fun cdv A outer s H vs Q E hr h => h.elim)
  | n + 1 => by
    have G_l_equal := ok_eq_rec (P := P) (w := w) (base := base) T n
    refine T.F_l_equal.ok sc_l_equal (fun vs H Q E h => ?_) (fun cdv A outer s H vs Q E hr h => ?_)
    · obtain ⟨x, y, d, rfl, _⟩ := h
      rfl
    · obtain ⟨x, y, d, rfl, hx, hy, hd, k⟩ := h
      have hr_l_equal := hr
      refine ⟨_, (pss_cons (ps_if (pt_cmpR op_isN (pv 1) pe_non (nomark _)) (pss_one (ps_ret (pe_cmpR op_isN (pv 0) pe_non (nomark _)))) pss_nil)
      (pss_cons (ps_if (pt_val (pe_callB call_isi (by rfl) T.z_isinstance (by decide +kernel) (pa_cons (pv 1) (pa_cons (pe_bltn (v := .ty "bool") (by rfl) T.z_bool (by decide +kernel) rfl) pa_nil)))) (pss_one (ps_ret (pe_and (pe_callB call_isi (by rfl) T.z_isinstance (by decide +kernel) (pa_cons (pv 0) (pa_cons (pe_bltn (v := .ty "bool") (by rfl) T.z_bool (by decide +kernel) rfl) pa_nil))) (pe_one (pe_cmpR op_eq (pv 0) (pv 1) (nomark _)))))) pss_nil)
      (pss_cons (ps_if (pt_val (pe_callB call_isi (by rfl) T.z_isinstance (by decide +kernel) (pa_cons (pv 1) (pa_cons (pe_bltn (v := .ty "int") (by rfl) T.z_int (by decide +kernel) rfl) pa_nil)))) (pss_one (ps_ret (pe_and (pe_callB call_isi (by rfl) T.z_isinstance (by decide +kernel) (pa_cons (pv 0) (pa_cons (pe_bltn (v := .ty "int") (by rfl) T.z_int (by decide +kernel) rfl) pa_nil))) (pe_and (pe_not (pe_callB call_isi (by rfl) T.z_isinstance (by decide +kernel) (pa_cons (pv 0) (pa_cons (pe_bltn (v := .ty "bool") (by rfl) T.z_bool (by decide +kernel) rfl) pa_nil)))) (pe_one (pe_cmpR op_eq (pv 0) (pv 1) (nomark _))))))) pss_nil)
      (pss_cons (ps_if (pt_val (pe_callB call_isi (by rfl) T.z_isinstance (by decide +kernel) (pa_cons (pv 1) (pa_cons (pe_bltn (v := .ty "str") (by rfl) T.z_str (by decide +kernel) rfl) pa_nil)))) (pss_one (ps_ret (pe_and (pe_callB call_isi (by rfl) T.z_isinstance (by decide +kernel) (pa_cons (pv 0) (pa_cons (pe_bltn (v := .ty "str") (by rfl) T.z_str (by decide +kernel) rfl) pa_nil))) (pe_one (pe_cmpR op_eq (pv 0) (pv 1) (nomark _)))))) pss_nil)
      (pss_cons (ps_if (PW.pt (pw_and (pt_val (pe_callB call_isi (by rfl) T.z_isinstance (by decide +kernel) (pa_cons (pv 1) (pa_cons (pe_bltn (v := .ty "tuple") (by rfl) T.z_tuple (by decide +kernel) rfl) pa_nil)))) (pw_and1 (pt_not (pt_val (pe_callB call_isi (by rfl) T.z_isinstance (by decide +kernel) (pa_cons (pv 0) (pa_cons (pe_bltn (v := .ty "tuple") (by rfl) T.z_tuple (by decide +kernel) rfl) pa_nil)))))))) (pss_one (ps_ret pe_bl)) pss_nil)
      (pss_cons (ps_if (PW.pt (pw_and (pt_val (pe_callB call_isi (by rfl) T.z_isinstance (by decide +kernel) (pa_cons (pv 1) (pa_cons (pe_bltn (v := .ty "list") (by rfl) T.z_list (by decide +kernel) rfl) pa_nil)))) (pw_and1 (pt_not (pt_val (pe_callB call_isi (by rfl) T.z_isinstance (by decide +kernel) (pa_cons (pv 0) (pa_cons (pe_bltn (v := .ty "list") (by rfl) T.z_list (by decide +kernel) rfl) pa_nil)))))))) (pss_one (ps_ret pe_bl)) pss_nil)
      (pss_cons (ps_if (pt_cmpR op_ne (pe_callB call_len_seq (by rfl) T.z_len (by decide +kernel) (pa_cons (pv 0) pa_nil)) (pe_callB call_len_seq (by rfl) T.z_len (by decide +kernel) (pa_cons (pv 1) pa_nil)) (nomark _)) (pss_one (ps_ret pe_bl)) pss_nil)
      (pss_cons (ps_for PassesOwn.never rfl (pi_range1 (by rfl) T.z_range (pa_cons (pe_callB call_len_seq (by rfl) T.z_len (by decide +kernel) (pa_cons (pv 1) pa_nil)) pa_nil)) (pg_name (i := 2) sc_l_equal.nd rfl (Or.inl rfl)) (pss_one (ps_if (pt_not (pt_val (pe_call G_l_equal hr_l_equal (by rfl) T.g_l_equal T.F_l_equal.kp T.b_l_equal .nil pass0 (pa_cons (pe_ix ix_seq (pv 0) (pv 2) (fun _ _ => rfl)) (pa_cons (pe_ix ix_seq (pv 1) (pv 2) (fun _ _ => rfl)) pa_nil))))) (pss_one (ps_ret pe_bl)) pss_nil)))
      (pss_one (ps_ret pe_bl)))))))))), ?_⟩
      cases hd with
      | non =>
        cases hx
        cases hy
        walk_at "rd"
        refine r_if (fun _ => ?_) (fun c => absurd rfl c)
        walk_at "rd"
        exact k
      | bl _ b =>
        cases hx
        cases hy
        walk_at "rd"
        refine r_if (fun c => nomatch c) (fun _ => ?_)
        walk_at "rd"
        refine r_isi (a := "bool") true (.base (.bl b)) (by decide +kernel) ?_
        walk_at "rd"
        refine r_isi (a := "bool") true (.base (.bl b)) (by decide +kernel) ?_
        walk_at "rd"
        rw [decide_eq_true rfl]
        exact k
      | int _ i =>
        cases hx
        cases hy
        walk_at "rd"
        refine r_if (fun c => nomatch c) (fun _ => ?_)
        walk_at "rd"
        refine r_isi (a := "int") false (.base (.int i)) (by decide +kernel) ?_
        walk_at "rd"
        refine r_isi (a := "int") true (.base (.int i)) (by decide +kernel) ?_
        walk_at "rd"
        refine r_isi (a := "int") true (.base (.int i)) (by decide +kernel) ?_
        walk_at "rd"
        refine r_isi (a := "int") false (.base (.int i)) (by decide +kernel) ?_
        walk_at "rd"
        rw [decide_eq_true rfl]
        exact k
      | str _ z =>
        cases hx
        cases hy
        walk_at "rd"
        refine r_if (fun c => nomatch c) (fun _ => ?_)
        walk_at "rd"
        refine r_isi (a := "str") false (.base (.str z)) (by decide +kernel) ?_
        walk_at "rd"
        refine r_isi (a := "str") false (.base (.str z)) (by decide +kernel) ?_
        walk_at "rd"
        refine r_isi (a := "str") true (.base (.str z)) (by decide +kernel) ?_
        walk_at "rd"
        refine r_isi (a := "str") true (.base (.str z)) (by decide +kernel) ?_
        walk_at "rd"
        rw [decide_eq_true rfl]
        exact k
      | @tup m ds hl hd =>
        cases hx with
        | @tup a xs _ hs ha =>
        cases hy with
        | @tup b ys _ ht hb =>
        walk_at "rd"
        refine r_if (fun c => nomatch c) (fun _ => ?_)
        walk_at "rd"
        refine r_isi (a := "tuple") false (tyx_t ht) (by decide +kernel) ?_
        walk_at "rd"
        refine r_isi (a := "tuple") false (tyx_t ht) (by decide +kernel) ?_
        walk_at "rd"
        refine r_isi (a := "tuple") false (tyx_t ht) (by decide +kernel) ?_
        walk_at "rd"
        refine r_isi (a := "tuple") true (tyx_t ht) (by decide +kernel) ?_
        walk_at "rd"
        refine r_isi (a := "tuple") true (tyx_t hs) (by decide +kernel) ?_
        walk_at "rd"
        refine r_isi (a := "tuple") false (tyx_t ht) (by decide +kernel) ?_
        walk_at "rd"
        refine ⟨a, _, rfl, .inr hs, ?_⟩
        walk_at "rd"
        refine ⟨b, _, rfl, .inr ht, ?_⟩
        walk_at "rd"
        have lx := dpa_len ha
        have ly := dpa_len hb
        refine r_ifN (fun c => absurd (by rw [lx, ly]) c) (fun _ => ?_)
        walk_at "rd"
        refine ⟨b, _, rfl, .inr ht, ?_⟩
        walk_at "rd"
        refine ⟨by omega, by omega, ?_⟩
        refine for_range (n := ys.length) (fun i σ H2 => ∃ v : Option V, σ = [some (.ref a), some (.ref b), v] ∧ H2 = H) ⟨none, rfl, rfl⟩ ?_ ?_
        · rintro i σ H2 hi ⟨v, rfl, rfl⟩
          obtain ⟨d, hdi⟩ : ∃ d, ds[i]? = some d := ⟨ds[i]'(by omega), List.getElem?_eq_getElem (by omega)⟩
          obtain ⟨x, hx1, hx2⟩ := dpa_get ha hdi
          obtain ⟨y, hy1, hy2⟩ := dpa_get hb hdi
          walk_at "rd"
          refine r_ixQT hs (at_of (j := i) (by omega) hx1) ?_
          walk_at "rd"
          refine r_ixQT ht (at_of (j := i) (by omega) hy1) ?_
          walk_at "rd"
          refine ⟨x, y, d, rfl, hx2, hy2, hd d (List.mem_of_getElem? hdi), ?_⟩
          walk_at "rd"
          exact ⟨_, rfl, rfl⟩
        · rintro σ H2 ⟨v, rfl, rfl⟩
          walk_at "rd"
          exact k
      | @lst m ds hl hd =>
        cases hx with
        | @lst a xs _ hs ha =>
        cases hy with
        | @lst b ys _ ht hb =>
        walk_at "rd"
        refine r_if (fun c => nomatch c) (fun _ => ?_)
        walk_at "rd"
        refine r_isi (a := "list") false (tyx_l ht) (by decide +kernel) ?_
        walk_at "rd"
        refine r_isi (a := "list") false (tyx_l ht) (by decide +kernel) ?_
        walk_at "rd"
        refine r_isi (a := "list") false (tyx_l ht) (by decide +kernel) ?_
        walk_at "rd"
        refine r_isi (a := "list") false (tyx_l ht) (by decide +kernel) ?_
        walk_at "rd"
        refine r_isi (a := "list") true (tyx_l ht) (by decide +kernel) ?_
        walk_at "rd"
        refine r_isi (a := "list") true (tyx_l hs) (by decide +kernel) ?_
        walk_at "rd"
        refine ⟨a, _, rfl, .inl hs, ?_⟩
        walk_at "rd"
        refine ⟨b, _, rfl, .inl ht, ?_⟩
        walk_at "rd"
        have lx := dpa_len ha
        have ly := dpa_len hb
        refine r_ifN (fun c => absurd (by rw [lx, ly]) c) (fun _ => ?_)
        walk_at "rd"
        refine ⟨b, _, rfl, .inl ht, ?_⟩
        walk_at "rd"
        refine ⟨by omega, by omega, ?_⟩
        refine for_range (n := ys.length) (fun i σ H2 => ∃ v : Option V, σ = [some (.ref a), some (.ref b), v] ∧ H2 = H) ⟨none, rfl, rfl⟩ ?_ ?_
        · rintro i σ H2 hi ⟨v, rfl, rfl⟩
          obtain ⟨d, hdi⟩ : ∃ d, ds[i]? = some d := ⟨ds[i]'(by omega), List.getElem?_eq_getElem (by omega)⟩
          obtain ⟨x, hx1, hx2⟩ := dpa_get ha hdi
          obtain ⟨y, hy1, hy2⟩ := dpa_get hb hdi
          walk_at "rd"
          refine r_ixQL hs (at_of (j := i) (by omega) hx1) ?_
          walk_at "rd"
          refine r_ixQL ht (at_of (j := i) (by omega) hy1) ?_
          walk_at "rd"
          refine ⟨x, y, d, rfl, hx2, hy2, hd d (List.mem_of_getElem? hdi), ?_⟩
          walk_at "rd"
          exact ⟨_, rfl, rfl⟩
        · rintro σ H2 ⟨v, rfl, rfl⟩
          walk_at "rd"
          exact k

theorem ok_l_equal {P : Program} {w : World} {K : PySem.W.Frag} {mg : Str → Option Value} {base : Heap} (T : Env K mg) : FnOk P w K mg base CX0 8 T.a_l_equal T.d_l_equal ["actual", "due"] (spP K 2 (denEq 6)) := by
  refine (ok_eq_rec T 7).imp fun vs H Q E h => ?_
  obtain ⟨ds, B, d, bh, hl, h⟩ := h
  match ds, hl, d, h with
  | [a, b], _, .cons (v := x) d1 (.cons (v := y) d2 .nil), h =>
    unfold denEq at h
    simp only at h
    split at h
    · rename_i c
      obtain ⟨rfl, hd⟩ := c
      exact ⟨x, y, _, rfl, da_dp (da_mono bh d1), da_dp (da_mono bh d2), hd, h (.bl true) H B (fun _ _ z => z) (Same.refl _) bh (fun _ _ z => .inl z) (.bl true)⟩
    · exact h.elim

theorem ok_l_tape {P : Program} {w : World} {K : PySem.W.Frag} {mg : Str → Option Value} {base : Heap} (T : Env K mg) : FnOk P w K mg base CX0 1 T.a_l_tape T.d_l_tape ["script"] (spS K den_l_tape) := by
  refine T.F_l_tape.ok sc_l_tape (fun vs H Q E h => len_S h) (fun cdv A outer s H vs Q E hr h => ?_)
  refine ⟨_, (pss_cons (ps_set (i := 1) sc_l_tape.nd rfl (Or.inl rfl) (pe_lst pa_nil))
      (pss_cons (ps_for PassesOwn.never rfl (k_iList K (by rfl) (pv 0)) (pg_name (i := 2) sc_l_tape.nd rfl (Or.inl rfl)) (pss_cons (ps_set (i := 3) sc_l_tape.nd rfl (Or.inl rfl) (pe_op op_mul pe_int (pe_callTy call_int1 (by rfl) T.z_int (by decide +kernel) (pa_cons (pv 2) pa_nil))))
      (pss_cons (ps_if (pt_cmpR op_lt (pv 3) pe_int (nomark _)) (pss_one (ps_set (i := 3) sc_l_tape.nd rfl (Or.inl rfl) (pe_op op_sub (pe_un un_neg pe_int) (pv 3)))) pss_nil)
      (pss_one (ps_if (pt_cmpR op_ge (pv 3) (pe_op op_pow pe_int pe_int) (nomark _)) (pss_one (ps_for PassesOwn.never rfl (pi_range1 (by rfl) T.z_range (pa_cons pe_int pa_nil)) (pg_name (i := 4) sc_l_tape.nd rfl (Or.inl rfl)) (pss_one (ps_if (pt_cmpR op_gt (pv 3) pe_int (nomark _)) (pss_cons (ps_expr (pe_bm PySem.F.plainAttrs_list PySem.F.slot_list_append PySem.F.type_list_append mt_append (pv 1) (pa_cons (pe_op op_modN (pe_callTy call_int1 (by rfl) T.z_int (by decide +kernel) (pa_cons (pv 3) pa_nil)) pe_int) pa_nil)))
      (pss_one (ps_set (i := 3) sc_l_tape.nd rfl (Or.inl rfl) (pe_op op_fdivX (pv 3) pe_int)))) pss_nil)))) (pss_one (ps_for PassesOwn.never rfl (pi_range1 (by rfl) T.z_range (pa_cons pe_int pa_nil)) (pg_name (i := 4) sc_l_tape.nd rfl (Or.inl rfl)) (pss_cons (ps_set (i := 5) sc_l_tape.nd rfl (Or.inl rfl) (pe_op op_modN (pe_callTy call_int1 (by rfl) T.z_int (by decide +kernel) (pa_cons (pe_op op_add (pe_op op_add (pe_op op_mul (pv 3) pe_int) (pe_op op_mul (pv 4) pe_int)) pe_int) pa_nil)) pe_int))
      (pss_one (ps_expr (pe_bm PySem.F.plainAttrs_list PySem.F.slot_list_append PySem.F.type_list_append mt_append (pv 1) (pa_cons (pe_op op_modN (pe_callTy call_int1 (by rfl) T.z_int (by decide +kernel) (pa_cons (pe_op op_add (pe_op op_mul (pv 5) pe_int) (pe_op op_fdivX (pv 5) pe_int)) pa_nil)) pe_int) pa_nil))))))))))))
      (pss_one (ps_ret (pv 1))))), ?_⟩
  exact run_S (N := ["tape", "cell", "number", "k", "first"]) (f := body_l_tape) (fun _ => (st_seq (st_own (by decide) (f_lst s_nil))
      (st_seq (st_for i_scr (g_name (by decide)) (st_seq (st_asg (s_op o_mulS s_int (s_cb c_int (s_cons s_var s_nil))) (g_name (by decide)))
      (st_seq (st_if (s_tst (s_op o_ib s_var s_int)) (st_asg (s_op o_i0 (s_neg s_int) s_var) (g_name (by decide))) st_next)
      (st_if (s_tst (s_op o_ib s_var (s_op o_pow s_int s_int))) (st_for (i_range1 (s_cons s_int s_nil)) (g_name (by decide)) (st_if (s_tst (s_op o_ib s_var s_int)) (st_seq (st_drop (s_app (s_op o_mod (s_cb c_int (s_cons s_var s_nil)) s_int)))
      (st_asg (s_op o_fdiv s_var s_int) (g_name (by decide)))) st_next)) (st_for (i_range1 (s_cons s_int s_nil)) (g_name (by decide)) (st_seq (st_asg (s_op o_mod (s_cb c_int (s_cons (s_op o_i0 (s_op o_i0 (s_op o_mulS s_var s_int) (s_op o_mulS s_var s_int)) s_int) s_nil)) s_int) (g_name (by decide)))
      (st_drop (s_app (s_op o_mod (s_cb c_int (s_cons (s_op o_i0 (s_op o_mulS s_var s_int) (s_op o_fdiv s_var s_int)) s_nil)) s_int)))))))))
      (st_frz (by decide) (st_ret s_var))))) h
theorem ok_l_draw {P : Program} {w : World} {K : PySem.W.Frag} {mg : Str → Option Value} {base : Heap} (T : Env K mg) : FnOk P w K mg base CX0 1 T.a_l_draw T.d_l_draw ["tape", "at", "many"] (spP K 3 den_l_draw) := by
  refine T.F_l_draw.ok sc_l_draw (fun vs H Q E h => len_P h) (fun cdv A outer s H vs Q E hr h => ?_)
  refine ⟨_, (pss_cons (ps_if (pt_cmpR op_lt (pv 1) (pe_callB (k_len K) (by rfl) T.z_len (by decide +kernel) (pa_cons (pv 0) pa_nil)) (nomark _)) (pss_one (ps_ret (pe_op op_modN (pe_callTy call_int1 (by rfl) T.z_int (by decide +kernel) (pa_cons (pe_ix (ixL K) (pv 0) (pv 1) (fun _ _ => rfl)) pa_nil)) (pv 2)))) pss_nil)
      (pss_cons (ps_set (i := 3) sc_l_draw.nd rfl (Or.inl rfl) pe_int)
      (pss_cons (ps_if (pt_cmpR op_gt (pe_callB (k_len K) (by rfl) T.z_len (by decide +kernel) (pa_cons (pv 0) pa_nil)) pe_int (nomark _)) (pss_one (ps_set (i := 3) sc_l_draw.nd rfl (Or.inl rfl) (pe_ix (ixL K) (pv 0) (pe_op op_modN (pe_callTy call_int1 (by rfl) T.z_int (by decide +kernel) (pa_cons (pv 1) pa_nil)) (pe_callB (k_len K) (by rfl) T.z_len (by decide +kernel) (pa_cons (pv 0) pa_nil))) (fun _ _ => rfl)))) pss_nil)
      (pss_one (ps_ret (pe_op op_modN (pe_op op_modN (pe_callTy call_int1 (by rfl) T.z_int (by decide +kernel) (pa_cons (pe_op op_add (pe_op op_mul (pe_op op_mulW (pe_op op_add (pv 3) (pv 1)) (pe_op op_add (pv 1) pe_int)) pe_int) (pe_op op_mul (pv 1) pe_int)) pa_nil)) pe_int) (pv 2))))))), ?_⟩
  exact run_P (N := ["tape", "at", "many", "number"]) (f := body_l_draw) (fun _ => (st_seq (st_if (s_tst (s_op o_ib s_var (s_cb c_len (s_cons s_var s_nil)))) (st_ret (s_op o_mod (s_cb c_int (s_cons (s_op o_ixL s_var s_var) s_nil)) s_var)) st_next)
      (st_seq (st_asg s_int (g_name (by decide)))
      (st_seq (st_if (s_tst (s_op o_ib (s_cb c_len (s_cons s_var s_nil)) s_int)) (st_asg (s_op o_ixL s_var (s_op o_mod (s_cb c_int (s_cons s_var s_nil)) (s_cb c_len (s_cons s_var s_nil)))) (g_name (by decide))) st_next)
      (st_ret (s_op o_mod (s_op o_mod (s_cb c_int (s_cons (s_op o_i0 (s_op o_mulS (s_op o_mul (s_op o_i0 s_var s_var) (s_op o_i0 s_var s_int)) s_int) (s_op o_mulS s_var s_int)) s_nil)) s_int) s_var)))))) h
theorem ok_l_take {P : Program} {w : World} {K : PySem.W.Frag} {mg : Str → Option Value} {base : Heap} (T : Env K mg) : FnOk P w K mg base CX0 2 T.a_l_take T.d_l_take ["state", "many"] (spB K 1 den_l_take) := by
  refine T.F_l_take.ok sc_l_take (fun vs H Q E h => len_B h) (fun cdv A outer s H vs Q E hr h => ?_)
  have G_l_draw := ok_l_draw (P := P) (w := w) (base := base) T
  have hr_l_draw : Room 1 _ := hr.mono (by decide)
  refine ⟨_, (pss_cons (ps_asg (pe_op op_add (pe_ix (ixL K) (pv 0) pe_int (fun _ _ => rfl)) pe_int) (pg_sub (pv 0) pe_int set_list))
      (pss_one (ps_ret (pe_call G_l_draw hr_l_draw (by rfl) T.g_l_draw T.F_l_draw.kp T.b_l_draw .nil pass0 (pa_cons (pe_ix (ixL K) (pv 0) pe_int (fun _ _ => rfl)) (pa_cons (pe_ix (ixL K) (pv 0) pe_int (fun _ _ => rfl)) (pa_cons (pv 1) pa_nil))))))), ?_⟩
  exact run_B (N := ["many"]) (f := body_l_take) (fun _ => (st_seq (st_setI s_int (s_op o_i0 (s_ixO s_int) s_int))
      (st_ret (s_callP (s_cons (s_ixO s_int) (s_cons (s_ixO s_int) (s_cons s_var s_nil))))))) h
theorem ok_l_split {P : Program} {w : World} {K : PySem.W.Frag} {mg : Str → Option Value} {base : Heap} (T : Env K mg) : FnOk P w K mg base CX0 3 T.a_l_split T.d_l_split ["state", "weight", "copies"] (spB K 2 den_l_split) := by
  refine T.F_l_split.ok sc_l_split (fun vs H Q E h => len_B h) (fun cdv A outer s H vs Q E hr h => ?_)
  have G_l_take := ok_l_take (P := P) (w := w) (base := base) T
  have hr_l_take : Room 2 _ := hr.mono (by decide)
  refine ⟨_, (pss_cons (ps_if (pt_cmpR op_eq (pe_callB (k_len K) (by rfl) T.z_len (by decide +kernel) (pa_cons (pv 2) pa_nil)) pe_int (nomark _)) (pss_one (ps_ret (pe_lst (pa_cons (pe_tup (pa_cons (pe_ix (ixL K) (pv 2) pe_int (fun _ _ => rfl)) (pa_cons (pe_op op_mul pe_int (pv 1)) pa_nil))) pa_nil)))) pss_nil)
      (pss_cons (ps_set (i := 3) sc_l_split.nd rfl (Or.inl rfl) (pe_call G_l_take hr_l_take (by rfl) T.g_l_take T.F_l_take.kp T.b_l_take .nil pass0 (pa_cons (pv 0) (pa_cons (pe_op op_add (pe_op op_mul pe_int (pv 1)) pe_int) pa_nil))))
      (pss_one (ps_ret (pe_lst (pa_cons (pe_tup (pa_cons (pe_ix (ixL K) (pv 2) pe_int (fun _ _ => rfl)) (pa_cons (pv 3) pa_nil))) (pa_cons (pe_tup (pa_cons (pe_ix (ixL K) (pv 2) pe_int (fun _ _ => rfl)) (pa_cons (pe_op op_sub (pe_op op_mul pe_int (pv 1)) (pv 3)) pa_nil))) pa_nil))))))), ?_⟩
  exact run_B (N := ["weight", "copies", "low"]) (f := body_l_split) (fun _ => (st_seq (st_if (s_tst (s_op o_eq (s_cb c_len (s_cons s_var s_nil)) s_int)) (st_ret (s_lst (s_cons (s_tup (s_cons (s_op o_ixL s_var s_int) (s_cons (s_op o_mulS s_int s_var) s_nil))) s_nil))) st_next)
      (st_seq (st_asg (s_callB (s_cons (s_op o_i0 (s_op o_mulS s_int s_var) s_int) s_nil)) (g_name (by decide)))
      (st_ret (s_lst (s_cons (s_tup (s_cons (s_op o_ixL s_var s_int) (s_cons s_var s_nil))) (s_cons (s_tup (s_cons (s_op o_ixL s_var s_int) (s_cons (s_op o_i0 (s_op o_mulS s_int s_var) s_var) s_nil))) s_nil))))))) h
theorem ok_l_twins {P : Program} {w : World} {K : PySem.W.Frag} {mg : Str → Option Value} {base : Heap} (T : Env K mg) : FnOk P w K mg base CX0 4 T.a_l_twins T.d_l_twins ["state", "system"] (spB K 1 den_l_twins) := by
  refine T.F_l_twins.ok sc_l_twins (fun vs H Q E h => len_B h) (fun cdv A outer s H vs Q E hr h => ?_)
  have G_l_take := ok_l_take (P := P) (w := w) (base := base) T
  have hr_l_take : Room 2 _ := hr.mono (by decide)
  have G_l_split := ok_l_split (P := P) (w := w) (base := base) T
  have hr_l_split : Room 3 _ := hr.mono (by decide)
  refine ⟨_, (pss_cons (ps_set (i := 2) sc_l_twins.nd rfl (Or.inl rfl) (pe_lst pa_nil))
      (pss_cons (ps_set (i := 3) sc_l_twins.nd rfl (Or.inl rfl) pe_int)
      (pss_cons (ps_for PassesOwn.never rfl (pi_range1 (by rfl) T.z_range (pa_cons (pe_callB (k_len K) (by rfl) T.z_len (by decide +kernel) (pa_cons (pv 1) pa_nil)) pa_nil)) (pg_name (i := 4) sc_l_twins.nd rfl (Or.inl rfl)) (pss_cons (ps_set (i := 6) sc_l_twins.nd rfl (Or.inl rfl) (pe_op op_add pe_int (pe_callTy call_int1 (by rfl) T.z_int (by decide +kernel) (pa_cons (pe_and (pe_cmpR op_lt (pv 3) pe_int (nomark _)) (pe_one (pe_cmpR op_eq (pe_call G_l_take hr_l_take (by rfl) T.g_l_take T.F_l_take.kp T.b_l_take .nil pass0 (pa_cons (pv 0) (pa_cons pe_int pa_nil))) pe_int (nomark _)))) pa_nil))))
      (pss_cons (ps_expr (pe_bm PySem.F.plainAttrs_list PySem.F.slot_list_append PySem.F.type_list_append mt_append (pv 2) (pa_cons (pe_listRg (by rfl) (by rfl) T.z_list (prg_2 (by rfl) T.z_range (pv 3) (pe_op op_add (pv 3) (pv 6)))) pa_nil)))
      (pss_one (ps_set (i := 3) sc_l_twins.nd rfl (Or.inl rfl) (pe_op op_add (pv 3) (pv 6)))))))
      (pss_cons (ps_set (i := 5) sc_l_twins.nd rfl (Or.inl rfl) (pe_lst pa_nil))
      (pss_cons (ps_for PassesOwn.never rfl (pi_range1 (by rfl) T.z_range (pa_cons (pe_callB (k_len K) (by rfl) T.z_len (by decide +kernel) (pa_cons (pv 1) pa_nil)) pa_nil)) (pg_name (i := 4) sc_l_twins.nd rfl (Or.inl rfl)) (pss_one (ps_for PassesOwn.never rfl (k_iList K (by rfl) (pe_ix (ixL K) (pv 2) (pv 4) (fun _ _ => rfl))) (pg_name (i := 7) sc_l_twins.nd rfl (Or.inl rfl)) (pss_cons (ps_set (i := 8) sc_l_twins.nd rfl (Or.inl rfl) (pe_lst pa_nil))
      (pss_cons (ps_for PassesOwn.never rfl (k_iTup K (by rfl) (pe_ix (ixT K) (pv 1) (pv 4) (fun _ _ => rfl))) (k_gTup K (by rfl) (by rfl) (pgs_cons (pg_name (i := 9) sc_l_twins.nd rfl (Or.inl rfl)) (pgs_cons (pg_name (i := 10) sc_l_twins.nd rfl (Or.inl rfl)) pgs_nil))) (pss_cons (ps_set (i := 11) sc_l_twins.nd rfl (Or.inl rfl) (pe_lst pa_nil))
      (pss_cons (ps_for PassesOwn.never rfl (k_iTup K (by rfl) (pv 10)) (k_gTup K (by rfl) (by rfl) (pgs_cons (pg_name (i := 12) sc_l_twins.nd rfl (Or.inl rfl)) (pgs_cons (pg_name (i := 13) sc_l_twins.nd rfl (Or.inl rfl)) pgs_nil))) (pss_one (ps_set (i := 11) sc_l_twins.nd rfl (Or.inl rfl) (pe_op op_cat (pv 11) (pe_call G_l_split hr_l_split (by rfl) T.g_l_split T.F_l_split.kp T.b_l_split .nil pass0 (pa_cons (pv 0) (pa_cons (pv 13) (pa_cons (pe_ix (ixL K) (pv 2) (pv 12) (fun _ _ => rfl)) pa_nil))))))))
      (pss_one (ps_expr (pe_bm PySem.F.plainAttrs_list PySem.F.slot_list_append PySem.F.type_list_append mt_append (pv 8) (pa_cons (pe_tup (pa_cons (pv 9) (pa_cons (pe_callTy (k_tuple K) (by rfl) T.z_tuple (by decide +kernel) (pa_cons (pe_lc (own := [("end", 14)]) (g := gName 14) (by rfl) sc_l_twins.nd (k_iList K (by rfl) (pv 11)) (blkOk_by (own := [("end", 14)]) (N := ["state", "system", "copies", "many", "k", "made", "count", "copy", "choices", "cost", "ends", "fresh", "goal", "weight", "end"]) (sc := defScope s_l_twins) (by decide +kernel)) (fun _ _ _ _ _ => (pg_name (i := 14) sc_l_twins.nd rfl (Or.inl rfl))) (fun _ _ _ _ _ => (pts_one (pt_cmpR op_lt pe_int (pe_ix (ixT K) (pv 14) pe_int (fun _ _ => rfl)) (nomark _)))) (fun _ _ _ _ _ => (pv 14))) pa_nil)) pa_nil))) pa_nil)))))))
      (pss_cons (ps_if (pt_cmpR op_eq (pe_call G_l_take hr_l_take (by rfl) T.g_l_take T.F_l_take.kp T.b_l_take .nil pass0 (pa_cons (pv 0) (pa_cons pe_int pa_nil))) pe_int (nomark _)) (pss_one (ps_set (i := 8) sc_l_twins.nd rfl (Or.inl rfl) (pe_revL (pv 8)))) pss_nil)
      (pss_one (ps_expr (pe_bm PySem.F.plainAttrs_list PySem.F.slot_list_append PySem.F.type_list_append mt_append (pv 5) (pa_cons (pe_callTy (k_tuple K) (by rfl) T.z_tuple (by decide +kernel) (pa_cons (pe_op op_cat (pv 8) (pe_slice (k_slL K) (pv 8) po_none (po_some (pe_callTy call_int1 (by rfl) T.z_int (by decide +kernel) (pa_cons (pe_cmpR op_eq (pe_call G_l_take hr_l_take (by rfl) T.g_l_take T.F_l_take.kp T.b_l_take .nil pass0 (pa_cons (pv 0) (pa_cons pe_int pa_nil))) pe_int (nomark _)) pa_nil))))) pa_nil)) pa_nil))))))))))
      (pss_one (ps_ret (pe_callTy (k_tuple K) (by rfl) T.z_tuple (by decide +kernel) (pa_cons (pv 5) pa_nil))))))))), ?_⟩
  exact run_B (N := ["system", "copies", "many", "k", "made", "count", "copy", "choices", "cost", "ends", "fresh", "goal", "weight", "end"]) (f := body_l_twins) (fun _ => (st_seq (st_own (by decide) (f_lst s_nil))
      (st_seq (st_asg s_int (g_name (by decide)))
      (st_seq (st_then (by decide) (st_for (i_range1 (s_cons (s_cb c_len (s_cons s_var s_nil)) s_nil)) (g_name (by decide)) (st_then (by decide) (st_seq (st_asg (s_op o_i0 s_int (s_cb c_int (s_cons (s_andV (s_op o_ib s_var s_int) (s_op o_eq (s_callB (s_cons s_int s_nil)) s_int)) s_nil))) (g_name (by decide)))
      (st_seq (st_drop (s_app (s_fr (f_listRg2 s_var (s_op o_i0 s_var s_var)))))
      (st_asg (s_op o_i0 s_var s_var) (g_name (by decide))))))))
      (st_seq (st_own (by decide) (f_lst s_nil))
      (st_seq (st_then (by decide) (st_for (i_range1 (s_cons (s_cb c_len (s_cons s_var s_nil)) s_nil)) (g_name (by decide)) (st_then (by decide) (st_pre (by decide) (st_then (by decide) (st_for (i_list (s_ixO s_var)) (g_name (by decide)) (st_then (by decide) (st_seq (st_own (by decide) (f_lst s_nil))
      (st_seq (st_pre (by decide) (st_then (by decide) (st_for (i_tup (s_op o_ixT s_var s_var)) (g_tup (g_cons (g_name (by decide)) (g_cons (g_name (by decide)) g_nil))) (st_then (by decide) (st_seq (st_asg (s_lst s_nil) (g_name (by decide)))
      (st_seq (st_pre (by decide) (st_then (by decide) (st_for (i_tup s_var) (g_tup (g_cons (g_name (by decide)) (g_cons (g_name (by decide)) g_nil))) (st_then (by decide) (st_asg (s_op o_cat s_var (s_callB (s_cons s_var (s_cons (s_ixO s_var) s_nil)))) (g_name (by decide)))))))
      (st_drop (s_app (s_tup (s_cons s_var (s_cons (s_cb c_tuple (s_cons (s_fr (f_lc (by decide) (by decide) (i_list s_var) (fun _ => (g_name (by decide))) (fun _ => (s_tst (s_op o_ib s_int (s_op o_ixT s_var s_int)))) (fun _ => s_var))) s_nil)) s_nil)))))))))))
      (st_seq (st_if (s_tst (s_op o_eq (s_callB (s_cons s_int s_nil)) s_int)) (st_own (by decide) f_revN) st_next)
      (st_frz (by decide) (st_drop (s_app (s_cb c_tuple (s_cons (s_op o_cat s_var (s_sl l_slL s_var s_noPart (s_part (s_cb c_int (s_cons (s_op o_eq (s_callB (s_cons s_int s_nil)) s_int) s_nil))))) s_nil)))))))))))))))
      (st_ret s_tupleO))))))) h
theorem ok_numbered {P : Program} {w : World} {K : PySem.W.Frag} {mg : Str → Option Value} {base : Heap} (T : Env K mg) : FnOk P w K mg base CX0 1 T.a_numbered T.d_numbered ["keys"] (spP K 1 den_numbered) := by
  refine T.F_numbered.ok sc_numbered (fun vs H Q E h => len_P h) (fun cdv A outer s H vs Q E hr h => ?_)
  obtain ⟨ds, B, d, bh, hl, h⟩ := h
  match ds, hl, d, h with
  | [.list ks], _, .cons (v := v) d1 .nil, h =>
    obtain ⟨⟨kl, kk⟩, h⟩ := num_of40 h
    rcases kk with kk | kk
    · refine ⟨_, pss_cons (ps_set (i := 1) sc_numbered.nd rfl (Or.inr rfl) pe_dnewK)
        (pss_cons (ps_for PassesOwn.never rfl (k_iList K (by rfl) (pv 0)) (pg_name (i := 2) sc_numbered.nd rfl (Or.inl rfl))
          (pss_cons (ps_if (pt_cmp (pc_dnotin (hu_of hr) (pv 2) (pv 1))) (pss_cons (ps_dput (hu_of hr) (pv 1) (pv 2) (pe_callB call_dlen (by rfl) T.z_len (by decide +kernel) (pa_cons (pv 1) pa_nil)) rfl) pss_nil) pss_nil) pss_nil))
        (pss_cons (ps_ret (pe_lc (own := [("key", 2)]) (g := gName 2) (by rfl) sc_numbered.nd (k_iList K (by rfl) (pv 0)) (blkOk_by (own := [("key", 2)]) (N := ["keys", "found", "key"]) (sc := defScope s_numbered) (by decide +kernel)) (fun _ _ _ _ _ => (pg_name (i := 2) sc_numbered.nd rfl (Or.inl rfl))) (fun _ _ _ _ _ => pts_nil) (fun _ _ _ _ _ => (pe_dget (hu_of hr) (pv 1) (pv 2) (fun _ _ => rfl))))) pss_nil)), ?_⟩
      exact numbered_ints bh d1 kk kl h
    · refine ⟨_, pss_cons (ps_set (i := 1) sc_numbered.nd rfl (Or.inr rfl) pe_knew)
        (pss_cons (ps_for PassesOwn.never rfl (k_iList K (by rfl) (pv 0)) (pg_name (i := 2) sc_numbered.nd rfl (Or.inl rfl))
          (pss_cons (ps_if (pt_cmp (pc_knot hr.units (pv 2) (pv 1))) (pss_cons (ps_kput hr.units (pv 1) (pv 2) (pe_callB call_klen (by rfl) T.z_len (by decide +kernel) (pa_cons (pv 1) pa_nil)) rfl) pss_nil) pss_nil) pss_nil))
        (pss_cons (ps_ret (pe_lc (own := [("key", 2)]) (g := gName 2) (by rfl) sc_numbered.nd (k_iList K (by rfl) (pv 0)) (blkOk_by (own := [("key", 2)]) (N := ["keys", "found", "key"]) (sc := defScope s_numbered) (by decide +kernel)) (fun _ _ _ _ _ => (pg_name (i := 2) sc_numbered.nd rfl (Or.inl rfl))) (fun _ _ _ _ _ => pts_nil) (fun _ _ _ _ _ => (pe_kgetK P w K rfl rfl (by rfl) hr.units (pv 1) (pv 2) (fun _ _ => rfl))))) pss_nil)), ?_⟩
      exact numbered_tups bh d1 kk kl h

theorem ok_ends_between {P : Program} {w : World} {K : PySem.W.Frag} {mg : Str → Option Value} {base : Heap} (T : Env K mg) : FnOk P w K mg base CX0 1 T.a_ends_between T.d_ends_between ["ends", "numbers"] (spP K 2 den_ends_between) := by
  refine T.F_ends_between.ok sc_ends_between (fun vs H Q E h => len_P h) (fun cdv A outer s H vs Q E hr h => ?_)
  refine ⟨_, (pss_cons (ps_set (i := 2) sc_ends_between.nd rfl (Or.inl rfl) pe_dnewK)
      (pss_cons (ps_set (i := 3) sc_ends_between.nd rfl (Or.inr rfl) pe_int)
      (pss_cons (ps_for PassesOwn.never rfl (k_iTup K (by rfl) (pv 0)) (k_gTup K (by rfl) (by rfl) (pgs_cons (pg_name (i := 5) sc_ends_between.nd rfl (Or.inl rfl)) (pgs_cons (pg_name (i := 4) sc_ends_between.nd rfl (Or.inl rfl)) pgs_nil))) (pss_cons (ps_set (i := 6) sc_ends_between.nd rfl (Or.inl rfl) (pe_ix (ixL K) (pv 1) (pv 5) (fun _ _ => rfl)))
      (pss_one (ps_dput (hu_of hr) (pv 2) (pv 6) (pe_op op_add (pe_dget2 (hu_of hr) (pv 2) (pv 6) pe_int ⟨by rfl, by rfl, by rfl, by rfl⟩) (pv 4)) rfl))))
      (pss_cons (ps_lock (ps_for PassesOwn.never rfl (pi_values (pv 2)) (pg_name (i := 4) sc_ends_between.nd rfl (Or.inl rfl)) (pss_one (ps_set (i := 3) sc_ends_between.nd rfl (Or.inr rfl) (pe_callBfun cr_gcd (by rfl) T.z_gcd (pa_cons (pv 3) (pa_cons (pv 4) pa_nil)))))))
      (pss_one (ps_ret (pe_callTy (k_tuple K) (by rfl) T.z_tuple (by decide +kernel) (pa_cons (pe_lc (own := [("block", 6), ("weight", 4)]) (g := gTup K 2 (gCons (gName 6) (gCons (gName 4) gNil))) (by rfl) sc_ends_between.nd (k_iList K (by rfl) (pe_callB (cr_sortK rfl) (by rfl) T.z_sorted (by decide +kernel) (pa_cons (pe_bm0 PySem.F.plainAttrs_dict PySem.F.slot_dict_items PySem.F.type_dict_items mt_itemsK (pv 2)) pa_nil))) (blkOk_by (own := [("block", 6), ("weight", 4)]) (N := ["ends", "numbers", "weights", "shared", "weight", "state", "block"]) (sc := defScope s_ends_between) (by decide +kernel)) (fun _ _ _ _ _ => (k_gTup K (by rfl) (by rfl) (pgs_cons (pg_name (i := 6) sc_ends_between.nd rfl (Or.inl rfl)) (pgs_cons (pg_name (i := 4) sc_ends_between.nd rfl (Or.inl rfl)) pgs_nil)))) (fun _ _ _ _ _ => pts_nil) (fun _ _ _ _ _ => (pe_tup (pa_cons (pv 6) (pa_cons (pe_op op_fdivX (pv 4) (pv 3)) pa_nil))))) pa_nil)))))))), ?_⟩
  exact run_P (N := ["ends", "numbers", "weights", "shared", "weight", "state", "block"]) (f := body_ends_between) (fun _ => (st_seq (st_newD (by decide))
      (st_seq (st_asg s_int (g_name (by decide)))
      (st_seq (st_then (by decide) (st_for (i_tup s_var) (g_tup (g_cons (g_name (by decide)) (g_cons (g_name (by decide)) g_nil))) (st_then (by decide) (st_seq (st_asg (s_op o_ixL s_var s_var) (g_name (by decide)))
      (st_putD s_var (s_op o_i0 (s_get2 s_var s_int) s_var))))))
      (st_seq (st_then (by decide) (st_forVA (by decide) (by decide) (by decide) (fun _ => (g_name (by decide))) (fun _ => (s_cb c_gcd (s_cons s_var (s_cons s_var s_nil)))) (fun _ => (g_name (by decide)))))
      (st_ret (s_cb c_tuple (s_cons (s_fr (f_lc (by decide) (by decide) (i_list (s_fr f_sortK)) (fun _ => (g_tup (g_cons (g_name (by decide)) (g_cons (g_name (by decide)) g_nil)))) (fun _ => s_yes) (fun _ => (s_tup (s_cons s_var (s_cons (s_op o_fdiv s_var s_var) s_nil)))))) s_nil)))))))) h
theorem ok_choices_between {P : Program} {w : World} {K : PySem.W.Frag} {mg : Str → Option Value} {base : Heap} (T : Env K mg) : FnOk P w K mg base CX0 2 T.a_choices_between T.d_choices_between ["choices", "numbers"] (spP K 2 den_choices_between) := by
  refine T.F_choices_between.ok sc_choices_between (fun vs H Q E h => len_P h) (fun cdv A outer s H vs Q E hr h => ?_)
  have G_ends_between := ok_ends_between (P := P) (w := w) (base := base) T
  have hr_ends_between : Room 1 _ := hr.mono (by decide)
  refine ⟨_, (pss_cons (ps_set (i := 2) sc_choices_between.nd rfl (Or.inl rfl) (pe_lst pa_nil))
      (pss_cons (ps_for PassesOwn.never rfl (k_iTup K (by rfl) (pv 0)) (k_gTup K (by rfl) (by rfl) (pgs_cons (pg_name (i := 3) sc_choices_between.nd rfl (Or.inl rfl)) (pgs_cons (pg_name (i := 4) sc_choices_between.nd rfl (Or.inl rfl)) pgs_nil))) (pss_cons (ps_set (i := 5) sc_choices_between.nd rfl (Or.inl rfl) (pe_tup (pa_cons (pv 3) (pa_cons (pe_call G_ends_between hr_ends_between (by rfl) T.g_ends_between T.F_ends_between.kp T.b_ends_between .nil pass0 (pa_cons (pv 4) (pa_cons (pv 1) pa_nil))) pa_nil))))
      (pss_one (ps_if (pt_cmpR (k_notInD K (by rfl) (units65 hr)) (pv 5) (pv 2) rfl) (pss_one (ps_expr (pe_bm PySem.F.plainAttrs_list PySem.F.slot_list_append PySem.F.type_list_append mt_append (pv 2) (pa_cons (pv 5) pa_nil)))) pss_nil))))
      (pss_one (ps_ret (pe_callTy (k_tuple K) (by rfl) T.z_tuple (by decide +kernel) (pa_cons (pv 2) pa_nil)))))), ?_⟩
  exact run_P (N := ["choices", "numbers", "found", "cost", "ends", "between"]) (f := body_choices_between) (fun _ => (st_seq (st_own (by decide) (f_lst s_nil))
      (st_seq (st_then (by decide) (st_for (i_tup s_var) (g_tup (g_cons (g_name (by decide)) (g_cons (g_name (by decide)) g_nil))) (st_then (by decide) (st_seq (st_asg (s_tup (s_cons s_var (s_cons (s_callP (s_cons s_var (s_cons s_var s_nil))) s_nil))) (g_name (by decide)))
      (st_if (s_tst (s_notInO s_var)) (st_drop (s_app s_var)) st_next)))))
      (st_ret s_tupleO)))) h
theorem ok_block_numbers {P : Program} {w : World} {K : PySem.W.Frag} {mg : Str → Option Value} {base : Heap} (T : Env K mg) : FnOk P w K mg base CX0 3 T.a_block_numbers T.d_block_numbers ["system", "groups"] (spP K 2 den_block_numbers) := by
  refine T.F_block_numbers.ok sc_block_numbers (fun vs H Q E h => len_P h) (fun cdv A outer s H vs Q E hr h => ?_)
  have G_numbered := ok_numbered (P := P) (w := w) (base := base) T
  have hr_numbered : Room 1 _ := hr.mono (by decide)
  have G_choices_between := ok_choices_between (P := P) (w := w) (base := base) T
  have hr_choices_between : Room 2 _ := hr.mono (by decide)
  refine ⟨_, (pss_cons (ps_set (i := 2) sc_block_numbers.nd rfl (Or.inr rfl) (pe_call G_numbered hr_numbered (by rfl) T.g_numbered T.F_numbered.kp T.b_numbered .nil pass0 (pa_cons (pv 1) pa_nil)))
      (pss_one (ps_while PassesOwn.never (pt_val pe_bl) (pss_cons (ps_set (i := 3) sc_block_numbers.nd rfl (Or.inl rfl) (pe_call G_numbered hr_numbered (by rfl) T.g_numbered T.F_numbered.kp T.b_numbered .nil pass0 (pa_cons (pe_lc (own := [("choices", 4), ("number", 5)]) (g := gTup K 2 (gCons (gName 4) (gCons (gName 5) gNil))) (by rfl) sc_block_numbers.nd (pi_zipK .T .L (by rfl) T.z_zip (pa_cons (pv 0) (pa_cons (pv 2) pa_nil))) (blkOk_by (own := [("choices", 4), ("number", 5)]) (N := ["system", "groups", "numbers", "finer", "choices", "number"]) (sc := defScope s_block_numbers) (by decide +kernel)) (fun _ _ _ _ _ => (k_gTup K (by rfl) (by rfl) (pgs_cons (pg_name (i := 4) sc_block_numbers.nd rfl (Or.inl rfl)) (pgs_cons (pg_name (i := 5) sc_block_numbers.nd rfl (Or.inl rfl)) pgs_nil)))) (fun _ _ _ _ _ => pts_nil) (fun _ _ _ _ _ => (pe_tup (pa_cons (pv 5) (pa_cons (pe_callTy (k_tuple K) (by rfl) T.z_tuple (by decide +kernel) (pa_cons (pe_callB (k_sortT K (by rfl) hr.units) (by rfl) T.z_sorted (by decide +kernel) (pa_cons (pe_call G_choices_between hr_choices_between (by rfl) T.g_choices_between T.F_choices_between.kp T.b_choices_between .nil pass0 (pa_cons (pv 4) (pa_cons (pv 2) pa_nil))) pa_nil)) pa_nil)) pa_nil))))) pa_nil)))
      (pss_cons (ps_if (pt_cmpR (k_eqD K (by rfl) hr.units) (pv 3) (pv 2) (nomark _)) (pss_one (ps_ret (pv 2))) pss_nil)
      (pss_one (ps_set (i := 2) sc_block_numbers.nd rfl (Or.inr rfl) (pv 3)))))))), ?_⟩
  exact run_P (N := ["system", "groups", "numbers", "finer", "choices", "number"]) (f := body_block_numbers) (fun _ => (st_seq (st_asg (s_callP (s_cons s_var s_nil)) (g_name (by decide)))
      (st_then (by decide) (st_while (s_tB s_bl) (st_then (by decide) (st_seq (st_asg (s_callP (s_cons (s_fr (f_lc (by decide) (by decide) (i_zipK (s_cons s_var (s_cons s_var s_nil))) (fun _ => (g_tup (g_cons (g_name (by decide)) (g_cons (g_name (by decide)) g_nil)))) (fun _ => s_yes) (fun _ => (s_tup (s_cons s_var (s_cons (s_cb c_tuple (s_cons (s_cb c_sortT (s_cons (s_callP (s_cons s_var (s_cons s_var s_nil))) s_nil)) s_nil)) s_nil)))))) s_nil)) (g_name (by decide)))
      (st_seq (st_if (s_tst (s_op o_eqD s_var s_var)) (st_ret s_var) st_next)
      (st_asg s_var (g_name (by decide)))))))))) h
theorem ok_members_of {P : Program} {w : World} {K : PySem.W.Frag} {mg : Str → Option Value} {base : Heap} (T : Env K mg) : FnOk P w K mg base CX0 1 T.a_members_of T.d_members_of ["numbers"] (spP K 1 den_members_of) := by
  refine T.F_members_of.ok sc_members_of (fun vs H Q E h => len_P h) (fun cdv A outer s H vs Q E hr h => ?_)
  obtain ⟨ds, B, d, bh, hl, h⟩ := h
  match ds, hl, d, h with
  | [.list es], _, .cons (v := v) d1 .nil, h =>
    obtain ⟨ns, rfl, ⟨ne, nl, nb⟩, h⟩ := mem_of h
    refine ⟨_, (pss_cons (ps_setLc (i := 1) (own := [("_", 4)]) (g := gName 4) (by rfl) sc_members_of.nd rfl rfl (sw_true rfl rfl rfl (by decide +kernel)) (pi_range1 (by rfl) T.z_range (pa_cons (pe_op op_add (pe_callB (k_max K (by rfl) rfl) (by rfl) T.z_max (by decide +kernel) (pa_cons (pv 0) pa_nil)) pe_int) pa_nil)) (blkOk_by (own := [("_", 4)]) (N := ["numbers", "members", "state", "number", "_"]) (sc := defScope s_members_of) (by decide +kernel)) (fun _ _ _ _ _ => (pg_name (i := 4) sc_members_of.nd rfl (Or.inl rfl))) (fun _ _ _ _ _ => pts_nil) (fun _ _ _ _ _ => (pe_lst pa_nil)))
      (pss_cons (ps_for PassesOwn.never rfl (pi_enumK .L (by rfl) T.z_enumerate (pa_cons (pv 0) pa_nil)) (k_gTup K (by rfl) (by rfl) (pgs_cons (pg_name (i := 2) sc_members_of.nd rfl (Or.inl rfl)) (pgs_cons (pg_name (i := 3) sc_members_of.nd rfl (Or.inl rfl)) pgs_nil))) (pss_cons (ps_expr (pe_bm PySem.F.plainAttrs_list PySem.F.slot_list_append PySem.F.type_list_append mt_append (pe_ix (ixL K) (pv 1) (pv 3) (fun _ _ => rfl)) (pa_cons (pv 2) pa_nil))) pss_nil))
      (pss_cons (ps_ret (pv 1)) pss_nil))), ?_⟩
    exact members_ok bh d1 ne nl nb h

theorem ok_has_great_weight {P : Program} {w : World} {K : PySem.W.Frag} {mg : Str → Option Value} {base : Heap} (T : Env K mg) : FnOk P w K mg base CX0 1 T.a_has_great_weight T.d_has_great_weight ["choices"] (spP K 1 den_has_great_weight) := by
  refine T.F_has_great_weight.ok sc_has_great_weight (fun vs H Q E h => len_P h) (fun cdv A outer s H vs Q E hr h => ?_)
  refine ⟨_, (pss_one (ps_ret (pe_callB (k_any K (by rfl) rfl) (by rfl) T.z_any (by decide +kernel) (pa_cons (pe_lc2 (own := [("_", 1), ("ends", 2), ("weight", 3)]) (vs1 := [1, 3]) (g := gTup K 2 (gCons (gName 1) (gCons (gName 2) gNil))) (g1 := gTup K 2 (gCons (gName 1) (gCons (gName 3) gNil))) (by rfl) sc_has_great_weight.nd (k_iTup K (by rfl) (pv 0)) (blkOk_by (own := [("_", 1), ("ends", 2), ("weight", 3)]) (N := ["choices", "_", "ends", "weight"]) (sc := defScope s_has_great_weight) (by decide +kernel)) (by decide) (fun _ _ _ _ _ => (k_gTup K (by rfl) (by rfl) (pgs_cons (pg_name (i := 1) sc_has_great_weight.nd rfl (Or.inl rfl)) (pgs_cons (pg_name (i := 2) sc_has_great_weight.nd rfl (Or.inl rfl)) pgs_nil)))) (fun _ _ _ _ _ => pts_nil) (fun _ _ _ _ _ => (k_iTup K (by rfl) (pv 2))) (fun _ _ _ _ _ => (k_gTup K (by rfl) (by rfl) (pgs_cons (pg_name (i := 1) sc_has_great_weight.nd rfl (Or.inl rfl)) (pgs_cons (pg_name (i := 3) sc_has_great_weight.nd rfl (Or.inl rfl)) pgs_nil)))) (fun _ _ _ _ _ => pts_nil) (fun _ _ _ _ _ => (pe_cmpR op_gt (pv 3) (pe_glob (v := .int 1000) (by rfl) T.c_MOST_WEIGHT ⟨_, rfl⟩) (nomark _)))) pa_nil)))), ?_⟩
  exact run_P (N := ["choices", "_", "ends", "weight"]) (f := body_has_great_weight) (fun _ => (st_ret (s_cb c_any (s_cons (s_fr (f_lc2 (by decide) (by decide) (by decide) (by decide) (i_tup s_var) (fun _ => (g_tup (g_cons (g_name (by decide)) (g_cons (g_name (by decide)) g_nil)))) (fun _ => s_yes) (fun _ => (i_tup s_var)) (fun _ => (g_tup (g_cons (g_name (by decide)) (g_cons (g_name (by decide)) g_nil)))) (fun _ => s_yes) (fun _ => (s_op o_ib s_var s_int)))) s_nil)))) h
theorem ok_quotient {P : Program} {w : World} {K : PySem.W.Frag} {mg : Str → Option Value} {base : Heap} (T : Env K mg) : FnOk P w K mg base (L2.CX P w) 4 T.a_quotient T.d_quotient ["system", "groups"] (spX K T.L 2 den_quotient) := by
  refine T.F_quotient.okX sc_quotient (fun vs H Q E h => len_X h) (fun cdv A outer s H vs Q E hr h => ?_)
  have G_block_numbers := ok_block_numbers (P := P) (w := w) (base := base) T
  have hr_block_numbers : Room 3 _ := hr.mono (by decide)
  have G_members_of := ok_members_of (P := P) (w := w) (base := base) T
  have hr_members_of : Room 1 _ := hr.mono (by decide)
  have G_choices_between := ok_choices_between (P := P) (w := w) (base := base) T
  have hr_choices_between : Room 2 _ := hr.mono (by decide)
  have G_has_great_weight := ok_has_great_weight (P := P) (w := w) (base := base) T
  have hr_has_great_weight : Room 1 _ := hr.mono (by decide)
  have tk : Takes (cxOf (L2.CX P w) P w K mg base ["system", "groups", "numbers", "states", "block", "choices"] "quotient" (defScope s_quotient) T.a_quotient cdv A outer s H E) (fun cls d _ H => E cls d H) := takes_of rfl rfl rfl rfl
  refine ⟨_, (pss_cons (ps_nox (ps_set (i := 2) sc_quotient.nd rfl (Or.inl rfl) (pe_call G_block_numbers hr_block_numbers (by rfl) T.g_block_numbers T.F_block_numbers.kp T.b_block_numbers .nil pass0 (pa_cons (pv 0) (pa_cons (pv 1) pa_nil)))))
      (pss_cons (ps_nox (ps_set (i := 3) sc_quotient.nd rfl (Or.inl rfl) (pe_lst pa_nil)))
      (pss_cons (ps_nox (ps_for PassesOwn.never rfl (k_iList K (by rfl) (pe_call G_members_of hr_members_of (by rfl) T.g_members_of T.F_members_of.kp T.b_members_of .nil pass0 (pa_cons (pv 2) pa_nil))) (pg_name (i := 4) sc_quotient.nd rfl (Or.inl rfl)) (pss_one (ps_expr (pe_bm PySem.F.plainAttrs_list PySem.F.slot_list_append PySem.F.type_list_append mt_append (pv 3) (pa_cons (pe_call G_choices_between hr_choices_between (by rfl) T.g_choices_between T.F_choices_between.kp T.b_choices_between .nil pass0 (pa_cons (pe_ix (ixT K) (pv 0) (pe_ix (ixL K) (pv 4) pe_int (fun _ _ => rfl)) (fun _ _ => rfl)) (pa_cons (pv 2) pa_nil))) pa_nil))))))
      (pss_cons (ps_if (PT.nox (pt_val (pe_callB (k_any K (by rfl) rfl) (by rfl) T.z_any (by decide +kernel) (pa_cons (pe_lc (own := [("choices", 5)]) (g := gName 5) (by rfl) sc_quotient.nd (k_iList K (by rfl) (pv 3)) (blkOk_by (own := [("choices", 5)]) (N := ["system", "groups", "numbers", "states", "block", "choices"]) (sc := defScope s_quotient) (by decide +kernel)) (fun _ _ _ _ _ => (pg_name (i := 5) sc_quotient.nd rfl (Or.inl rfl))) (fun _ _ _ _ _ => pts_nil) (fun _ _ _ _ _ => (pe_call G_has_great_weight hr_has_great_weight (by rfl) T.g_has_great_weight T.F_has_great_weight.kp T.b_has_great_weight .nil pass0 (pa_cons (pv 5) pa_nil)))) pa_nil)))) (pss_one (ps_raise rfl tk (pmk_own0A PySem.F.excBase_ValueError T.e_WeightTooGreat T.g_WeightTooGreat T.k_WeightTooGreat (raises_own T.m_WeightTooGreat T.y_WeightTooGreat) (by rfl) pa_nil))) pss_nil)
      (pss_one (ps_nox (ps_ret (pe_callTy (k_tuple K) (by rfl) T.z_tuple (by decide +kernel) (pa_cons (pv 3) pa_nil))))))))), ?_⟩
  exact run_X (N := ["system", "groups", "numbers", "states", "block", "choices"]) (f := body_quotient) (fun C lk => (st_seq (st_asg (s_callP (s_cons s_var (s_cons s_var s_nil))) (g_name (by decide)))
      (st_seq (st_own (by decide) (f_lst s_nil))
      (st_seq (st_then (by decide) (st_for (i_list (s_callP (s_cons s_var s_nil))) (g_name (by decide)) (st_then (by decide) (st_drop (s_app (s_callP (s_cons (s_op o_ixT s_var (s_op o_ixL s_var s_int)) (s_cons s_var s_nil))))))))
      (st_seq (st_if (s_tB (s_cb c_any (s_cons (s_fr (f_lcO (by decide) (by decide) (by decide) io_list (fun _ => (g_name (by decide))) (fun _ => s_yes) (fun _ => (s_callP (s_cons s_var s_nil))))) s_nil))) (st_raise0 lk rfl s_nil) st_next)
      (st_ret s_tupleO)))))) h
theorem ok_l_told {P : Program} {w : World} {K : PySem.W.Frag} {mg : Str → Option Value} {base : Heap} (T : Env K mg) : FnOk P w K mg base CX0 5 T.a_l_told T.d_l_told ["system", "groups"] (spP K 2 den_l_told) := by
  refine T.F_l_told.ok sc_l_told (fun vs H Q E h => len_P h) (fun cdv A outer s H vs Q E hr h => ?_)
  have G_quotient := ok_quotient (P := P) (w := w) (base := base) T
  have hr_quotient : Room 4 _ := hr.mono (by decide)
  refine ⟨_, pss_one (ps_try_as (i := 2) rfl rfl sc_l_told.nd rfl rfl ⟨rfl, by decide, .inl T.g_BestoddsError⟩ takes_none5
    (fun W pn xe tk _ => pss_one (ps_ret (pe_callS G_quotient hr_quotient (by rfl) T.g_quotient T.F_quotient.kp T.b_quotient (fun σ => passAt tk σ) (pa_cons (pv 0) (pa_cons (pv 1) pa_nil)))))
    (fun a oe cls d pn hz hf => pss_cons (ps_set (i := 3) sc_l_told.nd rfl (Or.inl rfl)
        (pe_and (pe_callB (call_isEd hz hf) (by rfl) T.z_isinstance (by decide +kernel) (pa_cons (pv 2) (pa_cons (pe_glob (v := .ref T.c_WeightTooGreat) (by rfl) T.g_WeightTooGreat rfl) pa_nil)))
          (pe_and (pe_callB (call_isEd hz hf) (by rfl) T.z_isinstance (by decide +kernel) (pa_cons (pv 2) (pa_cons (pe_bltn (v := .ty "ValueError") (by rfl) T.z_ValueError (by decide +kernel) rfl) pa_nil)))
            (pe_one (pe_not (pe_callB (call_isEd hz hf) (by rfl) T.z_isinstance (by decide +kernel) (pa_cons (pv 2) (pa_cons (pe_glob (v := .ref T.c_BenchError) (by rfl) T.g_BenchError rfl) pa_nil))))))))
      (pss_one (ps_ret (pe_lst (pa_cons pe_str (pa_cons (pv 3) pa_nil))))))), ?_⟩
  obtain ⟨ds, B, d, bh, hl, h⟩ := h
  match ds, hl, d, h with
  | [x, x2], _, .cons (v := v) d1 (.cons (v := v2) d2 .nil), h =>
    refine ⟨v, rfl, v2, rfl, [x, x2], B, .cons d1 (.cons d2 .nil), bh, rfl, ?_⟩
    unfold den_l_told at h
    cases q : den_quotient [x, x2] with
    | bad =>
      rw [q] at h
      exact h.elim
    | ok z =>
      rw [q] at h
      exact h
    | err e =>
      rw [q] at h
      simp only at h
      split at h
      · rename_i c
        obtain ⟨c1, c2⟩ := c
        intro c d u H' B' hc sH sB bh' fz da xd
        unfold XD at xd
        have ea : e.arg = none := by
          cases e1 : e.arg with
          | none => rfl
          | some y =>
            rw [e1] at c2
            cases c2
        rw [ea] at xd
        dsimp only at xd
        subst xd
        rw [c1] at hc
        cases hc
        refine ⟨true, T.h_WeightTooGreat_BestoddsError, fun _ a na => ?_, fun z => nomatch z⟩
        have X := xcB_ok T.xc_WeightTooGreat
        have nd : ∀ dd : Addr, (none : Option Addr) = some dd → ∃ fs, H' dd = some (.xd fs) := fun dd z => nomatch z
        refine ⟨_, rfl, T.c_WeightTooGreat, .ref T.c_WeightTooGreat, .ref T.c_WeightTooGreat, true, rfl, X, rfl, fun _ z => z, T.j_WeightTooGreat_WeightTooGreat, nd, true, rfl, ?_⟩
        rw [if_pos rfl]
        refine ⟨_, rfl, T.c_WeightTooGreat, .ty "ValueError", .type "ValueError", true, rfl, X, rfl, fun _ z => z, T.j_WeightTooGreat_ValueError, nd, true, rfl, ?_⟩
        rw [if_pos rfl]
        refine ⟨_, rfl, T.c_WeightTooGreat, .ref T.c_BenchError, .ref T.c_BenchError, false, rfl, X, rfl, fun _ z => z, T.j_WeightTooGreat_BenchError, nd, false, rfl, ?_⟩
        refine ⟨_, rfl, ?_⟩
        refine ⟨(by show 2 ≤ sizeLine; decide), fun p hp => ?_⟩
        have hb : B' p = none := by
          cases e2 : B' p with
          | none => rfl
          | some o =>
            rw [bh' p o e2] at hp
            cases hp
        have eB : Same B' (upd B' p (.lst [.str "refused", .bl true])) := sm_new hb
        refine h (.ref p) _ (upd B' p (.lst [.str "refused", .bl true])) (sH.trans (sm_new hp)) (sB.trans eB) (fun b o z => ?_) (fun b o z => ?_) (.lst upd_same (.cons (.str _) (.cons (.bl _) .nil)))
        · by_cases e3 : b = p
          · subst e3
            rw [upd_same] at z ⊢
            exact z
          · rw [upd_ne e3] at z ⊢
            exact bh' b o z
        · by_cases e3 : b = p
          · subst e3
            refine .inr ?_
            cases e4 : H b with
            | none => rfl
            | some o' =>
              rw [sH b o' e4] at hp
              cases hp
          · rw [upd_ne e3] at z
            exact fz b o z
      · exact h.elim

theorem ok_l_ratio {P : Program} {w : World} {K : PySem.W.Frag} {mg : Str → Option Value} {base : Heap} (T : Env K mg) : FnOk P w K mg base CX0 1 T.a_l_ratio T.d_l_ratio ["n", "d"] (spP K 2 den_l_ratio) := by
  refine T.F_l_ratio.ok sc_l_ratio (fun vs H Q E h => len_P h) (fun cdv A outer s H vs Q E hr h => ?_)
  refine ⟨_, (pss_cons (ps_if (pt_cmpR op_lt (pv 1) pe_int (nomark _)) (pss_cons (ps_set (i := 0) sc_l_ratio.nd rfl (Or.inl rfl) (pe_op op_sub pe_int (pv 0)))
      (pss_one (ps_set (i := 1) sc_l_ratio.nd rfl (Or.inl rfl) (pe_op op_sub pe_int (pv 1))))) pss_nil)
      (pss_cons (ps_set (i := 2) sc_l_ratio.nd rfl (Or.inl rfl) (pe_callB call_abs (by rfl) T.z_abs (by decide +kernel) (pa_cons (pv 0) pa_nil)))
      (pss_cons (ps_set (i := 3) sc_l_ratio.nd rfl (Or.inl rfl) (pv 1))
      (pss_cons (ps_for PassesOwn.never rfl (pi_range1 (by rfl) T.z_range (pa_cons pe_int pa_nil)) (pg_name (i := 4) sc_l_ratio.nd rfl (Or.inl rfl)) (pss_cons (ps_if (pt_cmpR op_eq (pv 2) pe_int (nomark _)) (pss_one ps_break) pss_nil)
      (pss_cons (ps_set (i := 5) sc_l_ratio.nd rfl (Or.inl rfl) (pe_op op_modN (pe_callTy call_int1 (by rfl) T.z_int (by decide +kernel) (pa_cons (pv 3) pa_nil)) (pv 2)))
      (pss_cons (ps_set (i := 3) sc_l_ratio.nd rfl (Or.inl rfl) (pv 2))
      (pss_one (ps_set (i := 2) sc_l_ratio.nd rfl (Or.inl rfl) (pv 5)))))))
      (pss_one (ps_ret (pe_tup (pa_cons (pe_op op_fdivX (pv 0) (pv 3)) (pa_cons (pe_op op_fdivX (pv 1) (pv 3)) pa_nil))))))))), ?_⟩
  exact run_P (N := ["n", "d", "a", "b", "k", "rest"]) (f := body_l_ratio) (fun _ => (st_seq (st_if (s_tst (s_op o_ib s_var s_int)) (st_seq (st_asg (s_op o_i0 s_int s_var) (g_name (by decide)))
      (st_asg (s_op o_i0 s_int s_var) (g_name (by decide)))) st_next)
      (st_seq (st_asg (s_cb c_abs (s_cons s_var s_nil)) (g_name (by decide)))
      (st_seq (st_asg s_var (g_name (by decide)))
      (st_seq (st_for (i_range1 (s_cons s_int s_nil)) (g_name (by decide)) (st_seq (st_if (s_tst (s_op o_eq s_var s_int)) st_brk st_next)
      (st_seq (st_asg (s_op o_mod (s_cb c_int (s_cons s_var s_nil)) s_var) (g_name (by decide)))
      (st_seq (st_asg s_var (g_name (by decide)))
      (st_asg s_var (g_name (by decide)))))))
      (st_ret (s_tup (s_cons (s_op o_fdiv s_var s_var) (s_cons (s_op o_fdiv s_var s_var) s_nil))))))))) h
theorem ok_l_sight {P : Program} {w : World} {K : PySem.W.Frag} {mg : Str → Option Value} {base : Heap} (T : Env K mg) : FnOk P w K mg base CX0 2 T.a_l_sight T.d_l_sight ["system", "names", "k"] (spP K 3 den_l_sight) := by
  refine T.F_l_sight.ok sc_l_sight (fun vs H Q E h => len_P h) (fun cdv A outer s H vs Q E hr h => ?_)
  have G_l_ratio := ok_l_ratio (P := P) (w := w) (base := base) T
  have hr_l_ratio : Room 1 _ := hr.mono (by decide)
  refine ⟨_, (pss_cons (ps_set (i := 3) sc_l_sight.nd rfl (Or.inl rfl) (pe_lst pa_nil))
      (pss_cons (ps_for PassesOwn.never rfl (k_iTup K (by rfl) (pe_ix (ixT K) (pv 0) (pv 2) (fun _ _ => rfl))) (k_gTup K (by rfl) (by rfl) (pgs_cons (pg_name (i := 4) sc_l_sight.nd rfl (Or.inl rfl)) (pgs_cons (pg_name (i := 5) sc_l_sight.nd rfl (Or.inl rfl)) pgs_nil))) (pss_cons (ps_set (i := 6) sc_l_sight.nd rfl (Or.inr rfl) (pe_callB (k_sum K (by rfl) rfl) (by rfl) T.z_sum (by decide +kernel) (pa_cons (pe_lc (own := [("end", 11)]) (g := gName 11) (by rfl) sc_l_sight.nd (k_iTup K (by rfl) (pv 5)) (blkOk_by (own := [("end", 11)]) (N := ["system", "names", "k", "rows", "cost", "ends", "whole", "row", "pair", "goal", "weight", "end", "name"]) (sc := defScope s_l_sight) (by decide +kernel)) (fun _ _ _ _ _ => (pg_name (i := 11) sc_l_sight.nd rfl (Or.inl rfl))) (fun _ _ _ _ _ => pts_nil) (fun _ _ _ _ _ => (pe_ix (ixT K) (pv 11) pe_int (fun _ _ => rfl)))) pa_nil)))
      (pss_cons (ps_set (i := 7) sc_l_sight.nd rfl (Or.inr rfl) pe_dnewK)
      (pss_cons (ps_for PassesOwn.never rfl (k_iTup K (by rfl) (pv 5)) (k_gTup K (by rfl) (by rfl) (pgs_cons (pg_name (i := 9) sc_l_sight.nd rfl (Or.inl rfl)) (pgs_cons (pg_name (i := 10) sc_l_sight.nd rfl (Or.inl rfl)) pgs_nil))) (pss_one (ps_dput (hu_of hr) (pv 7) (pe_ix (ixL K) (pv 1) (pv 9) (fun _ _ => rfl)) (pe_op op_add (pe_dget2 (hu_of hr) (pv 7) (pe_ix (ixL K) (pv 1) (pv 9) (fun _ _ => rfl)) pe_int ⟨by rfl, by rfl, by rfl, by rfl⟩) (pv 10)) rfl)))
      (pss_cons (ps_set (i := 8) sc_l_sight.nd rfl (Or.inl rfl) (pe_tup (pa_cons (pv 4) (pa_cons (pe_callTy (k_tuple K) (by rfl) T.z_tuple (by decide +kernel) (pa_cons (pe_lc (own := [("name", 12)]) (g := gName 12) (by rfl) sc_l_sight.nd (k_iList K (by rfl) (pe_callB (cr_sortKs rfl) (by rfl) T.z_sorted (by decide +kernel) (pa_cons (pv 7) pa_nil))) (blkOk_by (own := [("name", 12)]) (N := ["system", "names", "k", "rows", "cost", "ends", "whole", "row", "pair", "goal", "weight", "end", "name"]) (sc := defScope s_l_sight) (by decide +kernel)) (fun _ _ _ _ _ => (pg_name (i := 12) sc_l_sight.nd rfl (Or.inl rfl))) (fun _ _ _ _ _ => pts_nil) (fun _ _ _ _ _ => (pe_tup (pa_cons (pv 12) (pa_cons (pe_call G_l_ratio hr_l_ratio (by rfl) T.g_l_ratio T.F_l_ratio.kp T.b_l_ratio .nil pass0 (pa_cons (pe_dget (hu_of hr) (pv 7) (pv 12) (fun _ _ => rfl)) (pa_cons (pv 6) pa_nil))) pa_nil))))) pa_nil)) pa_nil))))
      (pss_one (ps_if (pt_cmpR (k_notInD K (by rfl) (units65 hr)) (pv 8) (pv 3) rfl) (pss_one (ps_expr (pe_bm PySem.F.plainAttrs_list PySem.F.slot_list_append PySem.F.type_list_append mt_append (pv 3) (pa_cons (pv 8) pa_nil)))) pss_nil)))))))
      (pss_one (ps_ret (pe_callB (k_sortD K (by rfl) hr.units) (by rfl) T.z_sorted (by decide +kernel) (pa_cons (pv 3) pa_nil)))))), ?_⟩
  exact run_P (N := ["system", "names", "k", "rows", "cost", "ends", "whole", "row", "pair", "goal", "weight", "end", "name"]) (f := body_l_sight) (fun _ => (st_seq (st_own (by decide) (f_lst s_nil))
      (st_seq (st_then (by decide) (st_for (i_tup (s_op o_ixT s_var s_var)) (g_tup (g_cons (g_name (by decide)) (g_cons (g_name (by decide)) g_nil))) (st_then (by decide) (st_seq (st_asg (s_cb c_sum (s_cons (s_fr (f_lc (by decide) (by decide) (i_tup s_var) (fun _ => (g_name (by decide))) (fun _ => s_yes) (fun _ => (s_op o_ixT s_var s_int)))) s_nil)) (g_name (by decide)))
      (st_seq (st_newD (by decide))
      (st_seq (st_pre (by decide) (st_then (by decide) (st_for (i_tup s_var) (g_tup (g_cons (g_name (by decide)) (g_cons (g_name (by decide)) g_nil))) (st_then (by decide) (st_putD (s_op o_ixL s_var s_var) (s_op o_i0 (s_get2 (s_op o_ixL s_var s_var) s_int) s_var))))))
      (st_seq (st_asg (s_tup (s_cons s_var (s_cons (s_cb c_tuple (s_cons (s_fr (f_lc (by decide) (by decide) (i_list (s_fr f_sortKs)) (fun _ => (g_name (by decide))) (fun _ => s_yes) (fun _ => (s_tup (s_cons s_var (s_cons (s_callP (s_cons (s_getD s_var) (s_cons s_var s_nil))) s_nil)))))) s_nil)) s_nil))) (g_name (by decide)))
      (st_if (s_tst (s_notInO s_var)) (st_drop (s_app s_var)) st_next))))))))
      (st_frz (by decide) (st_ret (s_cb c_sortD (s_cons s_var s_nil))))))) h
theorem ok_l_blocks {P : Program} {w : World} {K : PySem.W.Frag} {mg : Str → Option Value} {base : Heap} (T : Env K mg) : FnOk P w K mg base CX0 3 T.a_l_blocks T.d_l_blocks ["system", "groups"] (spP K 2 den_l_blocks) := by
  refine T.F_l_blocks.ok sc_l_blocks (fun vs H Q E h => len_P h) (fun cdv A outer s H vs Q E hr h => ?_)
  have G_l_sight := ok_l_sight (P := P) (w := w) (base := base) T
  have hr_l_sight : Room 2 _ := hr.mono (by decide)
  refine ⟨_, (pss_cons (ps_set (i := 2) sc_l_blocks.nd rfl (Or.inr rfl) (pe_callB (k_len K) (by rfl) T.z_len (by decide +kernel) (pa_cons (pv 0) pa_nil)))
      (pss_cons (ps_set (i := 3) sc_l_blocks.nd rfl (Or.inr rfl) (pe_lc (own := [("group", 6)]) (g := gName 6) (by rfl) sc_l_blocks.nd (k_iList K (by rfl) (pv 1)) (blkOk_by (own := [("group", 6)]) (N := ["system", "groups", "many", "names", "k", "sights", "group", "j", "sight"]) (sc := defScope s_l_blocks) (by decide +kernel)) (fun _ _ _ _ _ => (pg_name (i := 6) sc_l_blocks.nd rfl (Or.inl rfl))) (fun _ _ _ _ _ => pts_nil) (fun _ _ _ _ _ => (pe_indexK K (by rfl) (pv 1) (pv 6)))))
      (pss_cons (ps_for PassesOwn.never rfl (pi_range1 (by rfl) T.z_range (pa_cons (pv 2) pa_nil)) (pg_name (i := 4) sc_l_blocks.nd rfl (Or.inl rfl)) (pss_cons (ps_set (i := 5) sc_l_blocks.nd rfl (Or.inr rfl) (pe_lc (own := [("j", 7)]) (g := gName 7) (by rfl) sc_l_blocks.nd (pi_range1 (by rfl) T.z_range (pa_cons (pv 2) pa_nil)) (blkOk_by (own := [("j", 7)]) (N := ["system", "groups", "many", "names", "k", "sights", "group", "j", "sight"]) (sc := defScope s_l_blocks) (by decide +kernel)) (fun _ _ _ _ _ => (pg_name (i := 7) sc_l_blocks.nd rfl (Or.inl rfl))) (fun _ _ _ _ _ => pts_nil) (fun _ _ _ _ _ => (pe_tup (pa_cons (pe_ix (ixL K) (pv 3) (pv 7) (fun _ _ => rfl)) (pa_cons (pe_call G_l_sight hr_l_sight (by rfl) T.g_l_sight T.F_l_sight.kp T.b_l_sight .nil pass0 (pa_cons (pv 0) (pa_cons (pv 3) (pa_cons (pv 7) pa_nil)))) pa_nil))))))
      (pss_one (ps_set (i := 3) sc_l_blocks.nd rfl (Or.inr rfl) (pe_lc (own := [("sight", 8)]) (g := gName 8) (by rfl) sc_l_blocks.nd (k_iList K (by rfl) (pv 5)) (blkOk_by (own := [("sight", 8)]) (N := ["system", "groups", "many", "names", "k", "sights", "group", "j", "sight"]) (sc := defScope s_l_blocks) (by decide +kernel)) (fun _ _ _ _ _ => (pg_name (i := 8) sc_l_blocks.nd rfl (Or.inl rfl))) (fun _ _ _ _ _ => pts_nil) (fun _ _ _ _ _ => (pe_indexDK K (by rfl) hr.units (pv 5) (pv 8))))))))
      (pss_one (ps_ret (pe_lc (own := [("k", 4)]) (g := gName 4) (by rfl) sc_l_blocks.nd (pi_range1 (by rfl) T.z_range (pa_cons (pv 2) pa_nil)) (blkOk_by (own := [("k", 4)]) (N := ["system", "groups", "many", "names", "k", "sights", "group", "j", "sight"]) (sc := defScope s_l_blocks) (by decide +kernel)) (fun _ _ _ _ _ => (pg_name (i := 4) sc_l_blocks.nd rfl (Or.inr rfl))) (fun _ _ _ _ _ => (pts_one (pt_cmpR op_eq (pe_ix (ixL K) (pv 3) (pv 4) (fun _ _ => rfl)) (pv 4) (nomark _)))) (fun _ _ _ _ _ => (pe_lc (own := [("j", 7)]) (g := gName 7) (by rfl) sc_l_blocks.nd (pi_range1 (by rfl) T.z_range (pa_cons (pv 2) pa_nil)) (blkOk_by (by first | kernel_rfl | exact Eq.refl true)) (fun _ _ _ _ _ => (pg_name (i := 7) sc_l_blocks.nd rfl (Or.inl rfl))) (fun _ _ _ _ _ => (pts_one (pt_cmpR op_eq (pe_ix (ixL K) (pv 3) (pv 7) (fun _ _ => rfl)) (pv 4) (nomark _)))) (fun _ _ _ _ _ => (pv 7)))))))))), ?_⟩
  exact run_P (N := ["system", "groups", "many", "names", "k", "sights", "group", "j", "sight"]) (f := body_l_blocks) (fun _ => (st_seq (st_asg (s_cb c_len (s_cons s_var s_nil)) (g_name (by decide)))
      (st_seq (st_asg (s_fr (f_lc (by decide) (by decide) (i_list s_var) (fun _ => (g_name (by decide))) (fun _ => s_yes) (fun _ => (s_index s_var s_var)))) (g_name (by decide)))
      (st_seq (st_then (by decide) (st_for (i_range1 (s_cons s_var s_nil)) (g_name (by decide)) (st_then (by decide) (st_seq (st_asg (s_fr (f_lc (by decide) (by decide) (i_range1 (s_cons s_var s_nil)) (fun _ => (g_name (by decide))) (fun _ => s_yes) (fun _ => (s_tup (s_cons (s_op o_ixL s_var s_var) (s_cons (s_callP (s_cons s_var (s_cons s_var (s_cons s_var s_nil)))) s_nil)))))) (g_name (by decide)))
      (st_asg (s_fr (f_lc (by decide) (by decide) (i_list s_var) (fun _ => (g_name (by decide))) (fun _ => s_yes) (fun _ => (s_indexD s_var s_var)))) (g_name (by decide)))))))
      (st_ret (s_fr (f_lc (by decide) (by decide) (i_range1 (s_cons s_var s_nil)) (fun _ => (g_name (by decide))) (fun _ => (s_tst (s_op o_eq (s_op o_ixL s_var s_var) s_var))) (fun _ => (s_fr (f_lc (by decide) (by decide) (i_range1 (s_cons s_var s_nil)) (fun _ => (g_name (by decide))) (fun _ => (s_tst (s_op o_eq (s_op o_ixL s_var s_var) s_var))) (fun _ => s_var))))))))))) h
theorem ok_l_common {P : Program} {w : World} {K : PySem.W.Frag} {mg : Str → Option Value} {base : Heap} (T : Env K mg) : FnOk P w K mg base CX0 1 T.a_l_common T.d_l_common ["numbers"] (spP K 1 den_l_common) := by
  refine T.F_l_common.ok sc_l_common (fun vs H Q E h => len_P h) (fun cdv A outer s H vs Q E hr h => ?_)
  refine ⟨_, (pss_cons (ps_set (i := 1) sc_l_common.nd rfl (Or.inl rfl) pe_int)
      (pss_cons (ps_for PassesOwn.never rfl (k_iList K (by rfl) (pv 0)) (pg_name (i := 2) sc_l_common.nd rfl (Or.inl rfl)) (pss_cons (ps_set (i := 3) sc_l_common.nd rfl (Or.inl rfl) (pv 1))
      (pss_cons (ps_set (i := 4) sc_l_common.nd rfl (Or.inl rfl) (pv 2))
      (pss_cons (ps_for PassesOwn.never rfl (pi_range1 (by rfl) T.z_range (pa_cons pe_int pa_nil)) (pg_name (i := 5) sc_l_common.nd rfl (Or.inl rfl)) (pss_cons (ps_if (pt_cmpR op_eq (pv 3) pe_int (nomark _)) (pss_one ps_break) pss_nil)
      (pss_cons (ps_set (i := 6) sc_l_common.nd rfl (Or.inl rfl) (pe_op op_modN (pe_callTy call_int1 (by rfl) T.z_int (by decide +kernel) (pa_cons (pv 4) pa_nil)) (pv 3)))
      (pss_cons (ps_set (i := 4) sc_l_common.nd rfl (Or.inl rfl) (pv 3))
      (pss_one (ps_set (i := 3) sc_l_common.nd rfl (Or.inl rfl) (pv 6)))))))
      (pss_one (ps_set (i := 1) sc_l_common.nd rfl (Or.inl rfl) (pv 4)))))))
      (pss_one (ps_ret (pv 1))))), ?_⟩
  exact run_P (N := ["numbers", "common", "number", "a", "b", "k", "rest"]) (f := body_l_common) (fun _ => (st_seq (st_asg s_int (g_name (by decide)))
      (st_seq (st_then (by decide) (st_for (i_list s_var) (g_name (by decide)) (st_then (by decide) (st_seq (st_asg s_var (g_name (by decide)))
      (st_seq (st_asg s_var (g_name (by decide)))
      (st_seq (st_pre (by decide) (st_then (by decide) (st_for (i_range1 (s_cons s_int s_nil)) (g_name (by decide)) (st_then (by decide) (st_seq (st_if (s_tst (s_op o_eq s_var s_int)) st_brk st_next)
      (st_seq (st_asg (s_op o_mod (s_cb c_int (s_cons s_var s_nil)) s_var) (g_name (by decide)))
      (st_seq (st_asg s_var (g_name (by decide)))
      (st_asg s_var (g_name (by decide))))))))))
      (st_asg s_var (g_name (by decide)))))))))
      (st_ret s_var)))) h
theorem ok_l_due {P : Program} {w : World} {K : PySem.W.Frag} {mg : Str → Option Value} {base : Heap} (T : Env K mg) : FnOk P w K mg base CX0 4 T.a_l_due T.d_l_due ["system", "groups"] (spP K 2 den_l_due) := by
  refine T.F_l_due.ok sc_l_due (fun vs H Q E h => len_P h) (fun cdv A outer s H vs Q E hr h => ?_)
  have G_l_blocks := ok_l_blocks (P := P) (w := w) (base := base) T
  have hr_l_blocks : Room 3 _ := hr.mono (by decide)
  have G_l_common := ok_l_common (P := P) (w := w) (base := base) T
  have hr_l_common : Room 1 _ := hr.mono (by decide)
  refine ⟨_, (pss_cons (ps_set (i := 2) sc_l_due.nd rfl (Or.inl rfl) (pe_call G_l_blocks hr_l_blocks (by rfl) T.g_l_blocks T.F_l_blocks.kp T.b_l_blocks .nil pass0 (pa_cons (pv 0) (pa_cons (pv 1) pa_nil))))
      (pss_cons (ps_set (i := 3) sc_l_due.nd rfl (Or.inl rfl) (pe_lst pa_nil))
      (pss_cons (ps_for PassesOwn.never rfl (k_iList K (by rfl) (pv 2)) (pg_name (i := 4) sc_l_due.nd rfl (Or.inl rfl)) (pss_cons (ps_set (i := 5) sc_l_due.nd rfl (Or.inl rfl) (pe_lst pa_nil))
      (pss_cons (ps_for PassesOwn.never rfl (k_iTup K (by rfl) (pe_ix (ixT K) (pv 0) (pe_ix (ixL K) (pv 4) pe_int (fun _ _ => rfl)) (fun _ _ => rfl))) (k_gTup K (by rfl) (by rfl) (pgs_cons (pg_name (i := 6) sc_l_due.nd rfl (Or.inl rfl)) (pgs_cons (pg_name (i := 7) sc_l_due.nd rfl (Or.inr rfl)) pgs_nil))) (pss_cons (ps_set (i := 8) sc_l_due.nd rfl (Or.inr rfl) (pe_lc (own := [("other", 11)]) (g := gName 11) (by rfl) sc_l_due.nd (k_iList K (by rfl) (pv 2)) (blkOk_by (own := [("other", 11)]) (N := ["system", "groups", "blocks", "made", "block", "choices", "cost", "ends", "sums", "common", "choice", "other", "end", "k"]) (sc := defScope s_l_due) (by decide +kernel)) (fun _ _ _ _ _ => (pg_name (i := 11) sc_l_due.nd rfl (Or.inr rfl))) (fun _ _ _ _ _ => pts_nil) (fun _ _ _ _ _ => (pe_callB (k_sum K (by rfl) rfl) (by rfl) T.z_sum (by decide +kernel) (pa_cons (pe_lc (own := [("end", 12)]) (g := gName 12) (by rfl) sc_l_due.nd (k_iTup K (by rfl) (pv 7)) (blkOk_by (by first | kernel_rfl | exact Eq.refl true)) (fun _ _ _ _ _ => (pg_name (i := 12) sc_l_due.nd rfl (Or.inl rfl))) (fun _ _ _ _ _ => (pts_one (pt_cmpR (k_in K) (pe_ix (ixT K) (pv 12) pe_int (fun _ _ => rfl)) (pv 11) rfl))) (fun _ _ _ _ _ => (pe_ix (ixT K) (pv 12) pe_int (fun _ _ => rfl)))) pa_nil)))))
      (pss_cons (ps_set (i := 9) sc_l_due.nd rfl (Or.inr rfl) (pe_call G_l_common hr_l_common (by rfl) T.g_l_common T.F_l_common.kp T.b_l_common .nil pass0 (pa_cons (pv 8) pa_nil)))
      (pss_cons (ps_set (i := 10) sc_l_due.nd rfl (Or.inl rfl) (pe_tup (pa_cons (pv 6) (pa_cons (pe_callTy (k_tuple K) (by rfl) T.z_tuple (by decide +kernel) (pa_cons (pe_lc (own := [("k", 13)]) (g := gName 13) (by rfl) sc_l_due.nd (pi_range1 (by rfl) T.z_range (pa_cons (pe_callB (k_len K) (by rfl) T.z_len (by decide +kernel) (pa_cons (pv 8) pa_nil)) pa_nil)) (blkOk_by (own := [("k", 13)]) (N := ["system", "groups", "blocks", "made", "block", "choices", "cost", "ends", "sums", "common", "choice", "other", "end", "k"]) (sc := defScope s_l_due) (by decide +kernel)) (fun _ _ _ _ _ => (pg_name (i := 13) sc_l_due.nd rfl (Or.inl rfl))) (fun _ _ _ _ _ => (pts_one (pt_cmpR op_gt (pe_ix (ixL K) (pv 8) (pv 13) (fun _ _ => rfl)) pe_int (nomark _)))) (fun _ _ _ _ _ => (pe_tup (pa_cons (pv 13) (pa_cons (pe_op op_fdivX (pe_ix (ixL K) (pv 8) (pv 13) (fun _ _ => rfl)) (pv 9)) pa_nil))))) pa_nil)) pa_nil))))
      (pss_cons (ps_if (pt_cmpR op_gt (pe_op op_fdivX (pe_callB (k_max K (by rfl) rfl) (by rfl) T.z_max (by decide +kernel) (pa_cons (pv 8) pa_nil)) (pv 9)) pe_int (nomark _)) (pss_one (ps_ret pe_non)) pss_nil)
      (pss_one (ps_if (pt_cmpR (k_notInD K (by rfl) (units65 hr)) (pv 10) (pv 5) rfl) (pss_one (ps_expr (pe_bm PySem.F.plainAttrs_list PySem.F.slot_list_append PySem.F.type_list_append mt_append (pv 5) (pa_cons (pv 10) pa_nil)))) pss_nil)))))))
      (pss_one (ps_expr (pe_bm PySem.F.plainAttrs_list PySem.F.slot_list_append PySem.F.type_list_append mt_append (pv 3) (pa_cons (pe_callTy (k_tuple K) (by rfl) T.z_tuple (by decide +kernel) (pa_cons (pv 5) pa_nil)) pa_nil)))))))
      (pss_one (ps_ret (pe_callTy (k_tuple K) (by rfl) T.z_tuple (by decide +kernel) (pa_cons (pv 3) pa_nil))))))), ?_⟩
  exact run_P (N := ["system", "groups", "blocks", "made", "block", "choices", "cost", "ends", "sums", "common", "choice", "other", "end", "k"]) (f := body_l_due) (fun _ => (st_seq (st_asg (s_callP (s_cons s_var (s_cons s_var s_nil))) (g_name (by decide)))
      (st_seq (st_own (by decide) (f_lst s_nil))
      (st_seq (st_then (by decide) (st_for (i_list s_var) (g_name (by decide)) (st_then (by decide) (st_seq (st_own (by decide) (f_lst s_nil))
      (st_seq (st_pre (by decide) (st_then (by decide) (st_for (i_tup (s_op o_ixT s_var (s_op o_ixL s_var s_int))) (g_tup (g_cons (g_name (by decide)) (g_cons (g_name (by decide)) g_nil))) (st_then (by decide) (st_seq (st_asg (s_fr (f_lc (by decide) (by decide) (i_list s_var) (fun _ => (g_name (by decide))) (fun _ => s_yes) (fun _ => (s_cb c_sum (s_cons (s_fr (f_lc (by decide) (by decide) (i_tup s_var) (fun _ => (g_name (by decide))) (fun _ => (s_tst (s_op o_in (s_op o_ixT s_var s_int) s_var))) (fun _ => (s_op o_ixT s_var s_int)))) s_nil))))) (g_name (by decide)))
      (st_seq (st_asg (s_callP (s_cons s_var s_nil)) (g_name (by decide)))
      (st_seq (st_asg (s_tup (s_cons s_var (s_cons (s_cb c_tuple (s_cons (s_fr (f_lc (by decide) (by decide) (i_range1 (s_cons (s_cb c_len (s_cons s_var s_nil)) s_nil)) (fun _ => (g_name (by decide))) (fun _ => (s_tst (s_op o_ib (s_op o_ixL s_var s_var) s_int))) (fun _ => (s_tup (s_cons s_var (s_cons (s_op o_fdiv (s_op o_ixL s_var s_var) s_var) s_nil)))))) s_nil)) s_nil))) (g_name (by decide)))
      (st_seq (st_if (s_tst (s_op o_ib (s_op o_fdiv (s_cb c_max (s_cons s_var s_nil)) s_var) s_int)) (st_ret s_non) st_next)
      (st_if (s_tst (s_notInO s_var)) (st_drop (s_app s_var)) st_next)))))))))
      (st_drop (s_app s_tupleO)))))))
      (st_ret s_tupleO))))) h
theorem ok_l_ends {P : Program} {w : World} {K : PySem.W.Frag} {mg : Str → Option Value} {base : Heap} (T : Env K mg) : FnOk P w K mg base CX0 3 T.a_l_ends T.d_l_ends ["state", "many"] (spB K 1 den_l_ends) := by
  refine T.F_l_ends.ok sc_l_ends (fun vs H Q E h => len_B h) (fun cdv A outer s H vs Q E hr h => ?_)
  have G_l_take := ok_l_take (P := P) (w := w) (base := base) T
  have hr_l_take : Room 2 _ := hr.mono (by decide)
  refine ⟨_, (pss_cons (ps_set (i := 2) sc_l_ends.nd rfl (Or.inl rfl) (pe_lst pa_nil))
      (pss_cons (ps_set (i := 3) sc_l_ends.nd rfl (Or.inl rfl) (pe_call G_l_take hr_l_take (by rfl) T.g_l_take T.F_l_take.kp T.b_l_take .nil pass0 (pa_cons (pv 0) (pa_cons (pv 1) pa_nil))))
      (pss_cons (ps_for PassesOwn.never rfl (pi_range1 (by rfl) T.z_range (pa_cons (pv 1) pa_nil)) (pg_name (i := 4) sc_l_ends.nd rfl (Or.inl rfl)) (pss_one (ps_if (PW.pt (pw_or (pt_cmpR op_eq (pv 4) (pv 3) (nomark _)) (pw_or1 (pt_cmpR op_eq (pe_call G_l_take hr_l_take (by rfl) T.g_l_take T.F_l_take.kp T.b_l_take .nil pass0 (pa_cons (pv 0) (pa_cons pe_int pa_nil))) pe_int (nomark _))))) (pss_one (ps_expr (pe_bm PySem.F.plainAttrs_list PySem.F.slot_list_append PySem.F.type_list_append mt_append (pv 2) (pa_cons (pe_tup (pa_cons (pv 4) (pa_cons (pe_ix (ixL K) (pe_lst (pa_cons pe_int (pa_cons pe_int (pa_cons pe_int (pa_cons pe_int (pa_cons pe_int (pa_cons pe_int pa_nil))))))) (pe_call G_l_take hr_l_take (by rfl) T.g_l_take T.F_l_take.kp T.b_l_take .nil pass0 (pa_cons (pv 0) (pa_cons pe_int pa_nil))) (fun _ _ => rfl)) pa_nil))) pa_nil)))) pss_nil)))
      (pss_one (ps_ret (pe_callTy (k_tuple K) (by rfl) T.z_tuple (by decide +kernel) (pa_cons (pv 2) pa_nil))))))), ?_⟩
  exact run_B (N := ["many", "ends", "first", "goal"]) (f := body_l_ends) (fun _ => (st_seq (st_own (by decide) (f_lst s_nil))
      (st_seq (st_asg (s_callB (s_cons s_var s_nil)) (g_name (by decide)))
      (st_seq (st_for (i_range1 (s_cons s_var s_nil)) (g_name (by decide)) (st_if (s_or (s_tst (s_op o_eq s_var s_var)) (s_tst (s_op o_eq (s_callB (s_cons s_int s_nil)) s_int))) (st_drop (s_app (s_tup (s_cons s_var (s_cons (s_op o_ixL (s_lst (s_cons s_int (s_cons s_int (s_cons s_int (s_cons s_int (s_cons s_int (s_cons s_int s_nil))))))) (s_callB (s_cons s_int s_nil))) s_nil))))) st_next))
      (st_ret s_tupleO))))) h
theorem ok_l_choices {P : Program} {w : World} {K : PySem.W.Frag} {mg : Str → Option Value} {base : Heap} (T : Env K mg) : FnOk P w K mg base CX0 4 T.a_l_choices T.d_l_choices ["state", "many", "most"] (spB K 2 den_l_choices) := by
  refine T.F_l_choices.ok sc_l_choices (fun vs H Q E h => len_B h) (fun cdv A outer s H vs Q E hr h => ?_)
  have G_l_take := ok_l_take (P := P) (w := w) (base := base) T
  have hr_l_take : Room 2 _ := hr.mono (by decide)
  have G_l_ends := ok_l_ends (P := P) (w := w) (base := base) T
  have hr_l_ends : Room 3 _ := hr.mono (by decide)
  refine ⟨_, (pss_cons (ps_set (i := 3) sc_l_choices.nd rfl (Or.inl rfl) (pe_lst pa_nil))
      (pss_cons (ps_for PassesOwn.never rfl (pi_range1 (by rfl) T.z_range (pa_cons (pe_op op_add pe_int (pe_call G_l_take hr_l_take (by rfl) T.g_l_take T.F_l_take.kp T.b_l_take .nil pass0 (pa_cons (pv 0) (pa_cons (pv 2) pa_nil)))) pa_nil)) (pg_name (i := 4) sc_l_choices.nd rfl (Or.inl rfl)) (pss_one (ps_expr (pe_bm PySem.F.plainAttrs_list PySem.F.slot_list_append PySem.F.type_list_append mt_append (pv 3) (pa_cons (pe_tup (pa_cons (pe_ix (ixL K) (pe_lst (pa_cons pe_int (pa_cons pe_int (pa_cons pe_int (pa_cons pe_int (pa_cons pe_int pa_nil)))))) (pe_call G_l_take hr_l_take (by rfl) T.g_l_take T.F_l_take.kp T.b_l_take .nil pass0 (pa_cons (pv 0) (pa_cons pe_int pa_nil))) (fun _ _ => rfl)) (pa_cons (pe_call G_l_ends hr_l_ends (by rfl) T.g_l_ends T.F_l_ends.kp T.b_l_ends .nil pass0 (pa_cons (pv 0) (pa_cons (pv 1) pa_nil))) pa_nil))) pa_nil)))))
      (pss_one (ps_ret (pe_callTy (k_tuple K) (by rfl) T.z_tuple (by decide +kernel) (pa_cons (pv 3) pa_nil)))))), ?_⟩
  exact run_B (N := ["many", "most", "choices", "k"]) (f := body_l_choices) (fun _ => (st_seq (st_own (by decide) (f_lst s_nil))
      (st_seq (st_for (i_range1 (s_cons (s_op o_i0 s_int (s_callB (s_cons s_var s_nil))) s_nil)) (g_name (by decide)) (st_drop (s_app (s_tup (s_cons (s_op o_ixL (s_lst (s_cons s_int (s_cons s_int (s_cons s_int (s_cons s_int (s_cons s_int s_nil)))))) (s_callB (s_cons s_int s_nil))) (s_cons (s_callB (s_cons s_var s_nil)) s_nil))))))
      (st_ret s_tupleO)))) h
theorem ok_l_system {P : Program} {w : World} {K : PySem.W.Frag} {mg : Str → Option Value} {base : Heap} (T : Env K mg) : FnOk P w K mg base CX0 5 T.a_l_system T.d_l_system ["state", "most"] (spB K 1 den_l_system) := by
  refine T.F_l_system.ok sc_l_system (fun vs H Q E h => len_B h) (fun cdv A outer s H vs Q E hr h => ?_)
  have G_l_take := ok_l_take (P := P) (w := w) (base := base) T
  have hr_l_take : Room 2 _ := hr.mono (by decide)
  have G_l_choices := ok_l_choices (P := P) (w := w) (base := base) T
  have hr_l_choices : Room 4 _ := hr.mono (by decide)
  refine ⟨_, (pss_cons (ps_set (i := 2) sc_l_system.nd rfl (Or.inr rfl) (pe_op op_add pe_int (pe_call G_l_take hr_l_take (by rfl) T.g_l_take T.F_l_take.kp T.b_l_take .nil pass0 (pa_cons (pv 0) (pa_cons (pv 1) pa_nil)))))
      (pss_one (ps_ret (pe_callTy (k_tuple K) (by rfl) T.z_tuple (by decide +kernel) (pa_cons (pe_lc (own := [("k", 3)]) (g := gName 3) (by rfl) sc_l_system.nd (pi_range1 (by rfl) T.z_range (pa_cons (pv 2) pa_nil)) (blkOk_by (own := [("k", 3)]) (N := ["state", "most", "many", "k"]) (sc := defScope s_l_system) (by decide +kernel)) (fun _ _ _ _ _ => (pg_name (i := 3) sc_l_system.nd rfl (Or.inl rfl))) (fun _ _ _ _ _ => pts_nil) (fun _ _ _ _ _ => (pe_call G_l_choices hr_l_choices (by rfl) T.g_l_choices T.F_l_choices.kp T.b_l_choices .nil pass0 (pa_cons (pv 0) (pa_cons (pv 2) (pa_cons pe_int pa_nil)))))) pa_nil))))), ?_⟩
  exact run_B (N := ["most", "many", "k"]) (f := body_l_system) (fun _ => (st_seq (st_asg (s_op o_i0 s_int (s_callB (s_cons s_var s_nil))) (g_name (by decide)))
      (st_ret (s_cb c_tuple (s_cons (s_fr (f_lc (by decide) (by decide) (i_range1 (s_cons s_var s_nil)) (fun _ => (g_name (by decide))) (fun _ => s_yes) (fun _ => (s_callB (s_cons s_var (s_cons s_int s_nil)))))) s_nil))))) h
theorem ok_l_light {P : Program} {w : World} {K : PySem.W.Frag} {mg : Str → Option Value} {base : Heap} (T : Env K mg) : FnOk P w K mg base CX0 6 T.a_l_light T.d_l_light ["state"] (spB K 0 den_l_light) := by
  refine T.F_l_light.ok sc_l_light (fun vs H Q E h => len_B h) (fun cdv A outer s H vs Q E hr h => ?_)
  have G_l_system := ok_l_system (P := P) (w := w) (base := base) T
  have hr_l_system : Room 5 _ := hr.mono (by decide)
  refine ⟨_, (pss_cons (ps_set (i := 1) sc_l_light.nd rfl (Or.inl rfl) (pe_call G_l_system hr_l_system (by rfl) T.g_l_system T.F_l_system.kp T.b_l_system .nil pass0 (pa_cons (pv 0) (pa_cons pe_int pa_nil))))
      (pss_cons (ps_set (i := 2) sc_l_light.nd rfl (Or.inl rfl) (pe_lst pa_nil))
      (pss_cons (ps_for PassesOwn.never rfl (k_iTup K (by rfl) (pv 1)) (pg_name (i := 3) sc_l_light.nd rfl (Or.inl rfl)) (pss_one (ps_expr (pe_bm PySem.F.plainAttrs_list PySem.F.slot_list_append PySem.F.type_list_append mt_append (pv 2) (pa_cons (pe_callTy (k_tuple K) (by rfl) T.z_tuple (by decide +kernel) (pa_cons (pe_lc (own := [("cost", 4), ("ends", 5)]) (g := gTup K 2 (gCons (gName 4) (gCons (gName 5) gNil))) (by rfl) sc_l_light.nd (k_iTup K (by rfl) (pv 3)) (blkOk_by (own := [("cost", 4), ("ends", 5)]) (N := ["state", "system", "made", "choices", "cost", "ends", "end"]) (sc := defScope s_l_light) (by decide +kernel)) (fun _ _ _ _ _ => (k_gTup K (by rfl) (by rfl) (pgs_cons (pg_name (i := 4) sc_l_light.nd rfl (Or.inl rfl)) (pgs_cons (pg_name (i := 5) sc_l_light.nd rfl (Or.inl rfl)) pgs_nil)))) (fun _ _ _ _ _ => pts_nil) (fun _ _ _ _ _ => (pe_tup (pa_cons (pe_op op_modN (pv 4) pe_int) (pa_cons (pe_callTy (k_tuple K) (by rfl) T.z_tuple (by decide +kernel) (pa_cons (pe_lc (own := [("end", 6)]) (g := gName 6) (by rfl) sc_l_light.nd (k_iTup K (by rfl) (pv 5)) (blkOk_by (by first | kernel_rfl | exact Eq.refl true)) (fun _ _ _ _ _ => (pg_name (i := 6) sc_l_light.nd rfl (Or.inl rfl))) (fun _ _ _ _ _ => pts_nil) (fun _ _ _ _ _ => (pe_tup (pa_cons (pe_ix (ixT K) (pv 6) pe_int (fun _ _ => rfl)) (pa_cons (pe_callB (call_min2 rfl) (by rfl) T.z_min (by decide +kernel) (pa_cons (pe_ix (ixT K) (pv 6) pe_int (fun _ _ => rfl)) (pa_cons pe_int pa_nil))) pa_nil))))) pa_nil)) pa_nil))))) pa_nil)) pa_nil)))))
      (pss_one (ps_ret (pe_callTy (k_tuple K) (by rfl) T.z_tuple (by decide +kernel) (pa_cons (pv 2) pa_nil))))))), ?_⟩
  exact run_B (N := ["system", "made", "choices", "cost", "ends", "end"]) (f := body_l_light) (fun _ => (st_seq (st_asg (s_callB (s_cons s_int s_nil)) (g_name (by decide)))
      (st_seq (st_own (by decide) (f_lst s_nil))
      (st_seq (st_then (by decide) (st_for (i_tup s_var) (g_name (by decide)) (st_then (by decide) (st_drop (s_app (s_cb c_tuple (s_cons (s_fr (f_lc (by decide) (by decide) (i_tup s_var) (fun _ => (g_tup (g_cons (g_name (by decide)) (g_cons (g_name (by decide)) g_nil)))) (fun _ => s_yes) (fun _ => (s_tup (s_cons (s_op o_mod s_var s_int) (s_cons (s_cb c_tuple (s_cons (s_fr (f_lc (by decide) (by decide) (i_tup s_var) (fun _ => (g_name (by decide))) (fun _ => s_yes) (fun _ => (s_tup (s_cons (s_op o_ixT s_var s_int) (s_cons (s_cb c_min2 (s_cons (s_op o_ixT s_var s_int) (s_cons s_int s_nil))) s_nil)))))) s_nil)) s_nil)))))) s_nil)))))))
      (st_ret s_tupleO))))) h
theorem ok_are_ends {P : Program} {w : World} {K : PySem.W.Frag} {mg : Str → Option Value} {base : Heap} (T : Env K mg) : FnOk P w K mg base CX0 1 T.a_are_ends T.d_are_ends ["many", "ends"] (spP K 2 den_are_ends) := by
  refine T.F_are_ends.ok sc_are_ends (fun vs H Q E h => len_P h) (fun cdv A outer s H vs Q E hr h => ?_)
  refine ⟨_, (pss_cons (ps_if (pt_not (pt_chain op_le op_le pe_int (pe_callB (k_len K) (by rfl) T.z_len (by decide +kernel) (pa_cons (pv 1) pa_nil)) (pe_glob (v := .int 6) (by rfl) T.c_MOST_ENDS ⟨_, rfl⟩))) (pss_one (ps_ret pe_bl)) pss_nil)
      (pss_cons (ps_set (i := 2) sc_are_ends.nd rfl (Or.inl rfl) (pe_un un_neg pe_int))
      (pss_cons (ps_for PassesOwn.never rfl (k_iTup K (by rfl) (pv 1)) (k_gTup K (by rfl) (by rfl) (pgs_cons (pg_name (i := 3) sc_are_ends.nd rfl (Or.inl rfl)) (pgs_cons (pg_name (i := 4) sc_are_ends.nd rfl (Or.inl rfl)) pgs_nil))) (pss_cons (ps_if (pt_not (pt_chain op_lt op_lt (pv 2) (pv 3) (pv 0))) (pss_one (ps_ret pe_bl)) pss_nil)
      (pss_cons (ps_if (pt_not (pt_chain op_le op_le pe_int (pv 4) (pe_glob (v := .int 1000) (by rfl) T.c_MOST_WEIGHT ⟨_, rfl⟩))) (pss_one (ps_ret pe_bl)) pss_nil)
      (pss_one (ps_set (i := 2) sc_are_ends.nd rfl (Or.inl rfl) (pv 3))))))
      (pss_one (ps_ret pe_bl))))), ?_⟩
  exact run_P (N := ["many", "ends", "before", "state", "weight"]) (f := body_are_ends) (fun _ => (st_seq (st_if (s_not (s_tst (s_chain o_ib o_ib s_int (s_cb c_len (s_cons s_var s_nil)) s_int))) (st_ret s_bl) st_next)
      (st_seq (st_asg (s_neg s_int) (g_name (by decide)))
      (st_seq (st_then (by decide) (st_for (i_tup s_var) (g_tup (g_cons (g_name (by decide)) (g_cons (g_name (by decide)) g_nil))) (st_then (by decide) (st_seq (st_if (s_not (s_tst (s_chain o_ib o_ib s_var s_var s_var))) (st_ret s_bl) st_next)
      (st_seq (st_if (s_not (s_tst (s_chain o_ib o_ib s_int s_var s_int))) (st_ret s_bl) st_next)
      (st_asg s_var (g_name (by decide))))))))
      (st_ret s_bl))))) h
theorem ok_fault_in_state {P : Program} {w : World} {K : PySem.W.Frag} {mg : Str → Option Value} {base : Heap} (T : Env K mg) : FnOk P w K mg base CX0 2 T.a_fault_in_state T.d_fault_in_state ["many", "state", "choices"] (spP K 3 den_fault_in_state) := by
  refine T.F_fault_in_state.ok sc_fault_in_state (fun vs H Q E h => len_P h) (fun cdv A outer s H vs Q E hr h => ?_)
  have G_are_ends := ok_are_ends (P := P) (w := w) (base := base) T
  have hr_are_ends : Room 1 _ := hr.mono (by decide)
  refine ⟨_, (pss_cons (ps_if (pt_not (pt_chain op_le op_le pe_int (pe_callB (k_len K) (by rfl) T.z_len (by decide +kernel) (pa_cons (pv 2) pa_nil)) (pe_glob (v := .int 6) (by rfl) T.c_MOST_CHOICES ⟨_, rfl⟩))) (pss_one (ps_ret (pe_tup (pa_cons pe_str (pa_cons (pv 1) pa_nil))))) pss_nil)
      (pss_cons (ps_for PassesOwn.never rfl (pi_enumK .T (by rfl) T.z_enumerate (pa_cons (pv 2) pa_nil)) (k_gTup K (by rfl) (by rfl) (pgs_cons (pg_name (i := 3) sc_fault_in_state.nd rfl (Or.inl rfl)) (pgs_cons (k_gTup K (by rfl) (by rfl) (pgs_cons (pg_name (i := 4) sc_fault_in_state.nd rfl (Or.inl rfl)) (pgs_cons (pg_name (i := 5) sc_fault_in_state.nd rfl (Or.inl rfl)) pgs_nil))) pgs_nil))) (pss_cons (ps_if (pt_not (pt_chain op_le op_le pe_int (pv 4) (pe_glob (v := .int 1000) (by rfl) T.c_MOST_COST ⟨_, rfl⟩))) (pss_one (ps_ret (pe_tup (pa_cons pe_str (pa_cons (pv 1) (pa_cons (pv 3) pa_nil)))))) pss_nil)
      (pss_one (ps_if (pt_not (pt_val (pe_call G_are_ends hr_are_ends (by rfl) T.g_are_ends T.F_are_ends.kp T.b_are_ends .nil pass0 (pa_cons (pv 0) (pa_cons (pv 5) pa_nil))))) (pss_one (ps_ret (pe_tup (pa_cons pe_str (pa_cons (pv 1) (pa_cons (pv 3) pa_nil)))))) pss_nil))))
      (pss_one (ps_ret pe_non)))), ?_⟩
  exact run_P (N := ["many", "state", "choices", "number", "cost", "ends"]) (f := body_fault_in_state) (fun _ => (st_seq (st_if (s_not (s_tst (s_chain o_ib o_ib s_int (s_cb c_len (s_cons s_var s_nil)) s_int))) (st_ret (s_tup (s_cons s_str (s_cons s_var s_nil)))) st_next)
      (st_seq (st_then (by decide) (st_for (i_enumK (s_cons s_var s_nil)) (g_tup (g_cons (g_name (by decide)) (g_cons (g_tup (g_cons (g_name (by decide)) (g_cons (g_name (by decide)) g_nil))) g_nil))) (st_then (by decide) (st_seq (st_if (s_not (s_tst (s_chain o_ib o_ib s_int s_var s_int))) (st_ret (s_tup (s_cons s_str (s_cons s_var (s_cons s_var s_nil))))) st_next)
      (st_if (s_not (s_tB (s_callP (s_cons s_var (s_cons s_var s_nil))))) (st_ret (s_tup (s_cons s_str (s_cons s_var (s_cons s_var s_nil))))) st_next)))))
      (st_ret s_non)))) h
theorem ok_fault {P : Program} {w : World} {K : PySem.W.Frag} {mg : Str → Option Value} {base : Heap} (T : Env K mg) : FnOk P w K mg base CX0 3 T.a_fault T.d_fault ["system"] (spP K 1 den_fault) := by
  refine T.F_fault.ok sc_fault (fun vs H Q E h => len_P h) (fun cdv A outer s H vs Q E hr h => ?_)
  have G_fault_in_state := ok_fault_in_state (P := P) (w := w) (base := base) T
  have hr_fault_in_state : Room 2 _ := hr.mono (by decide)
  refine ⟨_, (pss_cons (ps_if (pt_not (pt_chain op_le op_le pe_int (pe_callB (k_len K) (by rfl) T.z_len (by decide +kernel) (pa_cons (pv 0) pa_nil)) (pe_glob (v := .int 20) (by rfl) T.c_MOST_STATES ⟨_, rfl⟩))) (pss_one (ps_ret (pe_tup (pa_cons pe_str pa_nil)))) pss_nil)
      (pss_cons (ps_for PassesOwn.never rfl (pi_enumK .T (by rfl) T.z_enumerate (pa_cons (pv 0) pa_nil)) (k_gTup K (by rfl) (by rfl) (pgs_cons (pg_name (i := 1) sc_fault.nd rfl (Or.inl rfl)) (pgs_cons (pg_name (i := 2) sc_fault.nd rfl (Or.inl rfl)) pgs_nil))) (pss_cons (ps_set (i := 3) sc_fault.nd rfl (Or.inl rfl) (pe_call G_fault_in_state hr_fault_in_state (by rfl) T.g_fault_in_state T.F_fault_in_state.kp T.b_fault_in_state .nil pass0 (pa_cons (pe_callB (k_len K) (by rfl) T.z_len (by decide +kernel) (pa_cons (pv 0) pa_nil)) (pa_cons (pv 1) (pa_cons (pv 2) pa_nil)))))
      (pss_one (ps_if (pt_cmpR op_notN (pv 3) pe_non (nomark _)) (pss_one (ps_ret (pv 3))) pss_nil))))
      (pss_one (ps_ret pe_non)))), ?_⟩
  exact run_P (N := ["system", "state", "choices", "found"]) (f := body_fault) (fun _ => (st_seq (st_if (s_not (s_tst (s_chain o_ib o_ib s_int (s_cb c_len (s_cons s_var s_nil)) s_int))) (st_ret (s_tup (s_cons s_str s_nil))) st_next)
      (st_seq (st_then (by decide) (st_for (i_enumK (s_cons s_var s_nil)) (g_tup (g_cons (g_name (by decide)) (g_cons (g_name (by decide)) g_nil))) (st_then (by decide) (st_seq (st_asg (s_callP (s_cons (s_cb c_len (s_cons s_var s_nil)) (s_cons s_var (s_cons s_var s_nil)))) (g_name (by decide)))
      (st_if (s_tst (s_op o_notN s_var s_non)) (st_ret s_var) st_next)))))
      (st_ret s_non)))) h
theorem ok_law0 {P : Program} {w : World} {K : PySem.W.Frag} {mg : Str → Option Value} {base : Heap} (T : Env K mg) : FnOk P w K mg base CX0 9 T.a_law T.d_law ["script"] (spS K den_law) := by
  refine T.F_law.ok sc_law (fun vs H Q E h => len_S h) (fun cdv A outer s H vs Q E hr h => ?_)
  have G_l_tape := ok_l_tape (P := P) (w := w) (base := base) T
  have hr_l_tape : Room 1 _ := hr.mono (by decide)
  have G_l_twins := ok_l_twins (P := P) (w := w) (base := base) T
  have hr_l_twins : Room 4 _ := hr.mono (by decide)
  have G_l_told := ok_l_told (P := P) (w := w) (base := base) T
  have hr_l_told : Room 5 _ := hr.mono (by decide)
  have G_l_due := ok_l_due (P := P) (w := w) (base := base) T
  have hr_l_due : Room 4 _ := hr.mono (by decide)
  have G_l_light := ok_l_light (P := P) (w := w) (base := base) T
  have hr_l_light : Room 6 _ := hr.mono (by decide)
  have G_l_take := ok_l_take (P := P) (w := w) (base := base) T
  have hr_l_take : Room 2 _ := hr.mono (by decide)
  have G_l_equal := ok_l_equal (P := P) (w := w) (base := base) T
  have hr_l_equal : Room 8 _ := hr.mono (by decide)
  have G_fault := ok_fault (P := P) (w := w) (base := base) T
  have hr_fault : Room 3 _ := hr.mono (by decide)
  refine ⟨_, (pss_cons (ps_set (i := 1) sc_law.nd rfl (Or.inr rfl) (pe_lst (pa_cons (pe_call G_l_tape hr_l_tape (by rfl) T.g_l_tape T.F_l_tape.kp T.b_l_tape .nil pass0 (pa_cons (pv 0) pa_nil)) (pa_cons pe_int pa_nil))))
      (pss_cons (ps_for PassesOwn.never rfl (pi_range1 (by rfl) T.z_range (pa_cons pe_int pa_nil)) (pg_name (i := 2) sc_law.nd rfl (Or.inl rfl)) (pss_cons (ps_set (i := 3) sc_law.nd rfl (Or.inl rfl) (pe_call G_l_twins hr_l_twins (by rfl) T.g_l_twins T.F_l_twins.kp T.b_l_twins .nil pass0 (pa_cons (pv 1) (pa_cons (pe_call G_l_light hr_l_light (by rfl) T.g_l_light T.F_l_light.kp T.b_l_light .nil pass0 (pa_cons (pv 1) pa_nil)) pa_nil))))
      (pss_cons (ps_setLc (i := 4) (own := [("k", 10)]) (g := gName 10) (by rfl) sc_law.nd rfl rfl (sw_true rfl rfl rfl (by decide +kernel)) (pi_range1 (by rfl) T.z_range (pa_cons (pe_callB (k_len K) (by rfl) T.z_len (by decide +kernel) (pa_cons (pv 3) pa_nil)) pa_nil)) (blkOk_by (own := [("k", 10)]) (N := ["script", "state", "turn", "system", "groups", "passed", "told", "due", "row", "many", "k", "j"]) (sc := defScope s_law) (by decide +kernel)) (fun _ _ _ _ _ => (pg_name (i := 10) sc_law.nd rfl (Or.inl rfl))) (fun _ _ _ _ _ => pts_nil) (fun _ _ _ _ _ => (pe_call G_l_take hr_l_take (by rfl) T.g_l_take T.F_l_take.kp T.b_l_take .nil pass0 (pa_cons (pv 1) (pa_cons (pe_op op_add pe_int (pe_call G_l_take hr_l_take (by rfl) T.g_l_take T.F_l_take.kp T.b_l_take .nil pass0 (pa_cons (pv 1) (pa_cons pe_int pa_nil)))) pa_nil)))))
      (pss_cons (ps_if (pt_cmpR op_eq (pe_call G_l_take hr_l_take (by rfl) T.g_l_take T.F_l_take.kp T.b_l_take .nil pass0 (pa_cons (pv 1) (pa_cons pe_int pa_nil))) pe_int (nomark _)) (pss_cons (ps_set (i := 8) sc_law.nd rfl (Or.inl rfl) (pe_tup (pa_cons (pe_tup (pa_cons pe_int (pa_cons (pe_tup (pa_cons (pe_tup (pa_cons pe_int (pa_cons (pe_op op_add pe_int (pe_call G_l_take hr_l_take (by rfl) T.g_l_take T.F_l_take.kp T.b_l_take .nil pass0 (pa_cons (pv 1) (pa_cons pe_int pa_nil)))) pa_nil))) (pa_cons (pe_tup (pa_cons pe_int (pa_cons (pe_op op_add pe_int (pe_call G_l_take hr_l_take (by rfl) T.g_l_take T.F_l_take.kp T.b_l_take .nil pass0 (pa_cons (pv 1) (pa_cons pe_int pa_nil)))) pa_nil))) (pa_cons (pe_tup (pa_cons pe_int (pa_cons (pe_op op_add pe_int (pe_call G_l_take hr_l_take (by rfl) T.g_l_take T.F_l_take.kp T.b_l_take .nil pass0 (pa_cons (pv 1) (pa_cons pe_int pa_nil)))) pa_nil))) pa_nil)))) pa_nil))) pa_nil)))
      (pss_cons (ps_set (i := 3) sc_law.nd rfl (Or.inl rfl) (pe_tup (pa_cons (pv 8) (pa_cons (pv 8) (pa_cons (pe_tup (pa_cons (pe_tup (pa_cons pe_int (pa_cons (pe_tup (pa_cons (pe_tup (pa_cons pe_int (pa_cons pe_int pa_nil))) pa_nil)) pa_nil))) pa_nil)) pa_nil)))))
      (pss_one (ps_set (i := 4) sc_law.nd rfl (Or.inl rfl) (pe_lst (pa_cons pe_int (pa_cons pe_int (pa_cons pe_int pa_nil)))))))) pss_nil)
      (pss_cons (ps_if (pt_cmpR op_eq (pe_call G_l_take hr_l_take (by rfl) T.g_l_take T.F_l_take.kp T.b_l_take .nil pass0 (pa_cons (pv 1) (pa_cons pe_int pa_nil))) pe_int (nomark _)) (pss_cons (ps_set (i := 9) sc_law.nd rfl (Or.inr rfl) (pe_op op_add pe_int (pe_call G_l_take hr_l_take (by rfl) T.g_l_take T.F_l_take.kp T.b_l_take .nil pass0 (pa_cons (pv 1) (pa_cons pe_int pa_nil)))))
      (pss_cons (ps_set (i := 3) sc_law.nd rfl (Or.inl rfl) (pe_callTy (k_tuple K) (by rfl) T.z_tuple (by decide +kernel) (pa_cons (pe_lc (own := [("k", 10)]) (g := gName 10) (by rfl) sc_law.nd (pi_range1 (by rfl) T.z_range (pa_cons (pv 9) pa_nil)) (blkOk_by (own := [("k", 10)]) (N := ["script", "state", "turn", "system", "groups", "passed", "told", "due", "row", "many", "k", "j"]) (sc := defScope s_law) (by decide +kernel)) (fun _ _ _ _ _ => (pg_name (i := 10) sc_law.nd rfl (Or.inr rfl))) (fun _ _ _ _ _ => pts_nil) (fun _ _ _ _ _ => (pe_tup (pa_cons (pe_tup (pa_cons pe_int (pa_cons (pe_callTy (k_tuple K) (by rfl) T.z_tuple (by decide +kernel) (pa_cons (pe_lc (own := [("j", 11)]) (g := gName 11) (by rfl) sc_law.nd (pi_range1 (by rfl) T.z_range (pa_cons (pv 9) pa_nil)) (blkOk_by (by first | kernel_rfl | exact Eq.refl true)) (fun _ _ _ _ _ => (pg_name (i := 11) sc_law.nd rfl (Or.inl rfl))) (fun _ _ _ _ _ => (pts_one (pt_cmpR op_eq (pe_op op_modN (pe_callTy call_int1 (by rfl) T.z_int (by decide +kernel) (pa_cons (pe_op op_add (pv 11) (pv 10)) pa_nil)) pe_int) pe_int (nomark _)))) (fun _ _ _ _ _ => (pe_tup (pa_cons (pv 11) (pa_cons pe_int pa_nil))))) pa_nil)) pa_nil))) pa_nil)))) pa_nil)))
      (pss_one (ps_setLc (i := 4) (own := [("k", 10)]) (g := gName 10) (by rfl) sc_law.nd rfl rfl (sw_true rfl rfl rfl (by decide +kernel)) (pi_range1 (by rfl) T.z_range (pa_cons (pv 9) pa_nil)) (blkOk_by (own := [("k", 10)]) (N := ["script", "state", "turn", "system", "groups", "passed", "told", "due", "row", "many", "k", "j"]) (sc := defScope s_law) (by decide +kernel)) (fun _ _ _ _ _ => (pg_name (i := 10) sc_law.nd rfl (Or.inl rfl))) (fun _ _ _ _ _ => pts_nil) (fun _ _ _ _ _ => (pe_op op_sub pe_int (pv 10))))))) pss_nil)
      (pss_cons (ps_set (i := 5) sc_law.nd rfl (Or.inl rfl) (pe_callTy (k_list K) (by rfl) T.z_list (by decide +kernel) (pa_cons (pv 4) pa_nil)))
      (pss_cons (ps_set (i := 6) sc_law.nd rfl (Or.inl rfl) (pe_call G_l_told hr_l_told (by rfl) T.g_l_told T.F_l_told.kp T.b_l_told .nil pass0 (pa_cons (pv 3) (pa_cons (pv 5) pa_nil))))
      (pss_cons (ps_if (pt_cmpR (k_neD K (by rfl) hr.units) (pv 5) (pv 4) (nomark _)) (pss_one (ps_ret pe_bl)) pss_nil)
      (pss_cons (ps_set (i := 7) sc_law.nd rfl (Or.inl rfl) (pe_call G_l_due hr_l_due (by rfl) T.g_l_due T.F_l_due.kp T.b_l_due .nil pass0 (pa_cons (pv 3) (pa_cons (pv 4) pa_nil))))
      (pss_cons (ps_if (pt_cmpR op_isN (pv 7) pe_non (nomark _)) (pss_one (ps_set (i := 7) sc_law.nd rfl (Or.inl rfl) (pe_lst (pa_cons pe_str (pa_cons pe_bl pa_nil))))) pss_nil)
      (pss_cons (ps_if (pt_not (pt_val (pe_call G_l_equal hr_l_equal (by rfl) T.g_l_equal T.F_l_equal.kp T.b_l_equal .nil pass0 (pa_cons (pv 6) (pa_cons (pv 7) pa_nil))))) (pss_one (ps_ret pe_bl)) pss_nil)
      (pss_one (ps_if (PW.pt (pw_and (pt_val (pe_callB call_isi (by rfl) T.z_isinstance (by decide +kernel) (pa_cons (pv 6) (pa_cons (pe_bltn (v := .ty "tuple") (by rfl) T.z_tuple (by decide +kernel) rfl) pa_nil)))) (pw_and1 (pt_cmpR op_notN (pe_call G_fault hr_fault (by rfl) T.g_fault T.F_fault.kp T.b_fault .nil pass0 (pa_cons (pv 6) pa_nil)) pe_non (nomark _))))) (pss_one (ps_ret pe_bl)) pss_nil)))))))))))))
      (pss_one (ps_ret pe_bl)))), ?_⟩
  exact run_S (N := ["state", "turn", "system", "groups", "passed", "told", "due", "row", "many", "k", "j"]) (f := body_law) (fun _ => (st_seq (st_own (by decide) (f_lst (s_cons s_callS (s_cons s_int s_nil))))
      (st_seq (st_then (by decide) (st_for (i_range1 (s_cons s_int s_nil)) (g_name (by decide)) (st_then (by decide) (st_seq (st_asg (s_callB (s_cons (s_callB s_nil) s_nil)) (g_name (by decide)))
      (st_seq (st_asg (s_fr (f_lc (by decide) (by decide) (i_range1 (s_cons (s_cb c_len (s_cons s_var s_nil)) s_nil)) (fun _ => (g_name (by decide))) (fun _ => s_yes) (fun _ => (s_callB (s_cons (s_op o_i0 s_int (s_callB (s_cons s_int s_nil))) s_nil))))) (g_name (by decide)))
      (st_seq (st_then (by decide) (st_if (s_tst (s_op o_eq (s_callB (s_cons s_int s_nil)) s_int)) (st_seq (st_asg (s_tup (s_cons (s_tup (s_cons s_int (s_cons (s_tup (s_cons (s_tup (s_cons s_int (s_cons (s_op o_i0 s_int (s_callB (s_cons s_int s_nil))) s_nil))) (s_cons (s_tup (s_cons s_int (s_cons (s_op o_i0 s_int (s_callB (s_cons s_int s_nil))) s_nil))) (s_cons (s_tup (s_cons s_int (s_cons (s_op o_i0 s_int (s_callB (s_cons s_int s_nil))) s_nil))) s_nil)))) s_nil))) s_nil)) (g_name (by decide)))
      (st_seq (st_asg (s_tup (s_cons s_var (s_cons s_var (s_cons (s_tup (s_cons (s_tup (s_cons s_int (s_cons (s_tup (s_cons (s_tup (s_cons s_int (s_cons s_int s_nil))) s_nil)) s_nil))) s_nil)) s_nil)))) (g_name (by decide)))
      (st_asg (s_lst (s_cons s_int (s_cons s_int (s_cons s_int s_nil)))) (g_name (by decide))))) st_next))
      (st_seq (st_then (by decide) (st_if (s_tst (s_op o_eq (s_callB (s_cons s_int s_nil)) s_int)) (st_seq (st_asg (s_op o_i0 s_int (s_callB (s_cons s_int s_nil))) (g_name (by decide)))
      (st_seq (st_asg (s_cb c_tuple (s_cons (s_fr (f_lc (by decide) (by decide) (i_range1 (s_cons s_var s_nil)) (fun _ => (g_name (by decide))) (fun _ => s_yes) (fun _ => (s_tup (s_cons (s_tup (s_cons s_int (s_cons (s_cb c_tuple (s_cons (s_fr (f_lc (by decide) (by decide) (i_range1 (s_cons s_var s_nil)) (fun _ => (g_name (by decide))) (fun _ => (s_tst (s_op o_eq (s_op o_mod (s_cb c_int (s_cons (s_op o_i0 s_var s_var) s_nil)) s_int) s_int))) (fun _ => (s_tup (s_cons s_var (s_cons s_int s_nil)))))) s_nil)) s_nil))) s_nil))))) s_nil)) (g_name (by decide)))
      (st_asg (s_fr (f_lc (by decide) (by decide) (i_range1 (s_cons s_var s_nil)) (fun _ => (g_name (by decide))) (fun _ => s_yes) (fun _ => (s_op o_i0 s_int s_var)))) (g_name (by decide))))) st_next))
      (st_seq (st_asg (s_cb c_list (s_cons s_var s_nil)) (g_name (by decide)))
      (st_seq (st_asg (s_callP (s_cons s_var (s_cons s_var s_nil))) (g_name (by decide)))
      (st_seq (st_if (s_tst (s_op o_neD s_var s_var)) (st_ret s_bl) st_next)
      (st_seq (st_asg (s_callP (s_cons s_var (s_cons s_var s_nil))) (g_name (by decide)))
      (st_seq (st_if (s_tst (s_op o_isN s_var s_non)) (st_asg (s_lst (s_cons s_str (s_cons s_bl s_nil))) (g_name (by decide))) st_next)
      (st_seq (st_if (s_not (s_tB (s_callP (s_cons s_var (s_cons s_var s_nil))))) (st_ret s_bl) st_next)
      (st_if (s_and (s_tB (s_isi s_var)) (s_tst (s_op o_notN (s_callP (s_cons s_var s_nil)) s_non))) (st_ret s_bl) st_next))))))))))))))
      (st_ret s_bl)))) h
def sp_law (K : PySem.W.Frag) : Sp := fun vs H Q _ => ∃ (a : Addr) (ns : List Int), vs = [.ref a] ∧ SqL K H a (ns.map V.int) ∧ ns.length ≤ 63 ∧ ∀ H', Q (.bl true) H'
theorem ok_law {P : Program} {w : World} {K : PySem.W.Frag} {mg : Str → Option Value} {base : Heap} (T : Env K mg) : FnOk P w K mg base CX0 9 T.a_law T.d_law ["script"] (sp_law K) :=
  (ok_law0 T).imp fun vs H Q E ⟨a, ns, e, s, hl, q⟩ => ⟨a, ns, H, e, s, Same.refl _, (law_worth hl).mono fun z hz v H' B' _ _ _ _ dv => by
    subst hz
    cases dv
    exact q H'⟩
theorem all_mk {l : PySem.W.OpenLaw} {w : World} {K : PySem.W.Frag} {h : Heap} {mg : Str → Option Value} {fa f0 f1 f2 f3 f4 f5 f6 f7 f8 f9 f10 f11 f12 f13 f14 f15 f16 f17 f18 f19 f20 f21 f22 f23 f24 f25 f26 : Addr} (X : K.In h) (G : h.Ns mainGlobals mg) (hfa : mg "law" = some (.ref fa))
    {od0 an0 : Option Addr} {sl0 : Array (Option Value)} {oc0 kV0 dc0 pm0 cd0 ct0 : Value}
    {od1 an1 : Option Addr} {sl1 : Array (Option Value)} {oc1 kV1 dc1 pm1 cd1 ct1 : Value}
    {od2 an2 : Option Addr} {sl2 : Array (Option Value)} {oc2 kV2 dc2 pm2 cd2 ct2 : Value}
    {od3 an3 : Option Addr} {sl3 : Array (Option Value)} {oc3 kV3 dc3 pm3 cd3 ct3 : Value}
    {od4 an4 : Option Addr} {sl4 : Array (Option Value)} {oc4 kV4 dc4 pm4 cd4 ct4 : Value}
    {od5 an5 : Option Addr} {sl5 : Array (Option Value)} {oc5 kV5 dc5 pm5 cd5 ct5 : Value}
    {od6 an6 : Option Addr} {sl6 : Array (Option Value)} {oc6 kV6 dc6 pm6 cd6 ct6 : Value}
    {od7 an7 : Option Addr} {sl7 : Array (Option Value)} {oc7 kV7 dc7 pm7 cd7 ct7 : Value}
    {od8 an8 : Option Addr} {sl8 : Array (Option Value)} {oc8 kV8 dc8 pm8 cd8 ct8 : Value}
    {od9 an9 : Option Addr} {sl9 : Array (Option Value)} {oc9 kV9 dc9 pm9 cd9 ct9 : Value}
    {od10 an10 : Option Addr} {sl10 : Array (Option Value)} {oc10 kV10 dc10 pm10 cd10 ct10 : Value}
    {od11 an11 : Option Addr} {sl11 : Array (Option Value)} {oc11 kV11 dc11 pm11 cd11 ct11 : Value}
    {od12 an12 : Option Addr} {sl12 : Array (Option Value)} {oc12 kV12 dc12 pm12 cd12 ct12 : Value}
    {od13 an13 : Option Addr} {sl13 : Array (Option Value)} {oc13 kV13 dc13 pm13 cd13 ct13 : Value}
    {od14 an14 : Option Addr} {sl14 : Array (Option Value)} {oc14 kV14 dc14 pm14 cd14 ct14 : Value}
    {od15 an15 : Option Addr} {sl15 : Array (Option Value)} {oc15 kV15 dc15 pm15 cd15 ct15 : Value}
    {od16 an16 : Option Addr} {sl16 : Array (Option Value)} {oc16 kV16 dc16 pm16 cd16 ct16 : Value}
    {od17 an17 : Option Addr} {sl17 : Array (Option Value)} {oc17 kV17 dc17 pm17 cd17 ct17 : Value}
    {od18 an18 : Option Addr} {sl18 : Array (Option Value)} {oc18 kV18 dc18 pm18 cd18 ct18 : Value}
    {od19 an19 : Option Addr} {sl19 : Array (Option Value)} {oc19 kV19 dc19 pm19 cd19 ct19 : Value}
    {od20 an20 : Option Addr} {sl20 : Array (Option Value)} {oc20 kV20 dc20 pm20 cd20 ct20 : Value}
    {od21 an21 : Option Addr} {sl21 : Array (Option Value)} {oc21 kV21 dc21 pm21 cd21 ct21 : Value}
    {od22 an22 : Option Addr} {sl22 : Array (Option Value)} {oc22 kV22 dc22 pm22 cd22 ct22 : Value}
    {od23 an23 : Option Addr} {sl23 : Array (Option Value)} {oc23 kV23 dc23 pm23 cd23 ct23 : Value}
    {od24 an24 : Option Addr} {sl24 : Array (Option Value)} {oc24 kV24 dc24 pm24 cd24 ct24 : Value}
    {od25 an25 : Option Addr} {sl25 : Array (Option Value)} {oc25 kV25 dc25 pm25 cd25 ct25 : Value}
    {od26 an26 : Option Addr} {sl26 : Array (Option Value)} {oc26 kV26 dc26 pm26 cd26 ct26 : Value}
    {c_BestoddsError : Addr} (ac_BestoddsError : PySem.W.nsIn K mainGlobals "BestoddsError" = some (some (.ref c_BestoddsError)))
    {c_WeightTooGreat : Addr} (ac_WeightTooGreat : PySem.W.nsIn K mainGlobals "WeightTooGreat" = some (some (.ref c_WeightTooGreat)))
    {c_BenchError : Addr} (ac_BenchError : PySem.W.nsIn K mainGlobals "BenchError" = some (some (.ref c_BenchError)))
    (e_BestoddsError : PySem.W.excIn K c_BestoddsError [.type "ValueError", .type "Exception", .type "BaseException", .type "object"] "ValueError.__new__" = true) (k_BestoddsError : PySem.W.keepIn K (.ref c_BestoddsError) = true)
    (e_WeightTooGreat : PySem.W.excIn K c_WeightTooGreat [.type "ValueError", .type "Exception", .type "BaseException", .type "object"] "ValueError.__new__" = true) (k_WeightTooGreat : PySem.W.keepIn K (.ref c_WeightTooGreat) = true)
    (e_BenchError : PySem.W.excIn K c_BenchError [.type "ValueError", .type "Exception", .type "BaseException", .type "object"] "ValueError.__new__" = true) (k_BenchError : PySem.W.keepIn K (.ref c_BenchError) = true)
    (a0 : PySem.W.nsIn K mainGlobals "_law_tape" = some (some (.ref f0))) (l0 : K.lookup f0 = some ⟨oc0, od0, .func (PySem.W.fnOf "_law_tape" "_law_tape" (defArgs s_l_tape) (defBody s_l_tape) (defScope s_l_tape) .none kV0 dc0 pm0 an0 cd0 ct0), sl0⟩) (c0 : PySem.W.codeIn K cd0 "_law_tape" = true) (k0 : PySem.W.keepIn K (.ref f0) = true)
    (a1 : PySem.W.nsIn K mainGlobals "_law_draw" = some (some (.ref f1))) (l1 : K.lookup f1 = some ⟨oc1, od1, .func (PySem.W.fnOf "_law_draw" "_law_draw" (defArgs s_l_draw) (defBody s_l_draw) (defScope s_l_draw) .none kV1 dc1 pm1 an1 cd1 ct1), sl1⟩) (c1 : PySem.W.codeIn K cd1 "_law_draw" = true) (k1 : PySem.W.keepIn K (.ref f1) = true)
    (a2 : PySem.W.nsIn K mainGlobals "_law_take" = some (some (.ref f2))) (l2 : K.lookup f2 = some ⟨oc2, od2, .func (PySem.W.fnOf "_law_take" "_law_take" (defArgs s_l_take) (defBody s_l_take) (defScope s_l_take) .none kV2 dc2 pm2 an2 cd2 ct2), sl2⟩) (c2 : PySem.W.codeIn K cd2 "_law_take" = true) (k2 : PySem.W.keepIn K (.ref f2) = true)
    (a3 : PySem.W.nsIn K mainGlobals "_law_split" = some (some (.ref f3))) (l3 : K.lookup f3 = some ⟨oc3, od3, .func (PySem.W.fnOf "_law_split" "_law_split" (defArgs s_l_split) (defBody s_l_split) (defScope s_l_split) .none kV3 dc3 pm3 an3 cd3 ct3), sl3⟩) (c3 : PySem.W.codeIn K cd3 "_law_split" = true) (k3 : PySem.W.keepIn K (.ref f3) = true)
    (a4 : PySem.W.nsIn K mainGlobals "_law_twins" = some (some (.ref f4))) (l4 : K.lookup f4 = some ⟨oc4, od4, .func (PySem.W.fnOf "_law_twins" "_law_twins" (defArgs s_l_twins) (defBody s_l_twins) (defScope s_l_twins) .none kV4 dc4 pm4 an4 cd4 ct4), sl4⟩) (c4 : PySem.W.codeIn K cd4 "_law_twins" = true) (k4 : PySem.W.keepIn K (.ref f4) = true)
    (a5 : PySem.W.nsIn K mainGlobals "numbered" = some (some (.ref f5))) (l5 : K.lookup f5 = some ⟨oc5, od5, .func (PySem.W.fnOf "numbered" "numbered" (defArgs s_numbered) (defBody s_numbered) (defScope s_numbered) .none kV5 dc5 pm5 an5 cd5 ct5), sl5⟩) (c5 : PySem.W.codeIn K cd5 "numbered" = true) (k5 : PySem.W.keepIn K (.ref f5) = true)
    (a6 : PySem.W.nsIn K mainGlobals "ends_between" = some (some (.ref f6))) (l6 : K.lookup f6 = some ⟨oc6, od6, .func (PySem.W.fnOf "ends_between" "ends_between" (defArgs s_ends_between) (defBody s_ends_between) (defScope s_ends_between) .none kV6 dc6 pm6 an6 cd6 ct6), sl6⟩) (c6 : PySem.W.codeIn K cd6 "ends_between" = true) (k6 : PySem.W.keepIn K (.ref f6) = true)
    (a7 : PySem.W.nsIn K mainGlobals "choices_between" = some (some (.ref f7))) (l7 : K.lookup f7 = some ⟨oc7, od7, .func (PySem.W.fnOf "choices_between" "choices_between" (defArgs s_choices_between) (defBody s_choices_between) (defScope s_choices_between) .none kV7 dc7 pm7 an7 cd7 ct7), sl7⟩) (c7 : PySem.W.codeIn K cd7 "choices_between" = true) (k7 : PySem.W.keepIn K (.ref f7) = true)
    (a8 : PySem.W.nsIn K mainGlobals "block_numbers" = some (some (.ref f8))) (l8 : K.lookup f8 = some ⟨oc8, od8, .func (PySem.W.fnOf "block_numbers" "block_numbers" (defArgs s_block_numbers) (defBody s_block_numbers) (defScope s_block_numbers) .none kV8 dc8 pm8 an8 cd8 ct8), sl8⟩) (c8 : PySem.W.codeIn K cd8 "block_numbers" = true) (k8 : PySem.W.keepIn K (.ref f8) = true)
    (a9 : PySem.W.nsIn K mainGlobals "members_of" = some (some (.ref f9))) (l9 : K.lookup f9 = some ⟨oc9, od9, .func (PySem.W.fnOf "members_of" "members_of" (defArgs s_members_of) (defBody s_members_of) (defScope s_members_of) .none kV9 dc9 pm9 an9 cd9 ct9), sl9⟩) (c9 : PySem.W.codeIn K cd9 "members_of" = true) (k9 : PySem.W.keepIn K (.ref f9) = true)
    (a10 : PySem.W.nsIn K mainGlobals "has_great_weight" = some (some (.ref f10))) (l10 : K.lookup f10 = some ⟨oc10, od10, .func (PySem.W.fnOf "has_great_weight" "has_great_weight" (defArgs s_has_great_weight) (defBody s_has_great_weight) (defScope s_has_great_weight) .none kV10 dc10 pm10 an10 cd10 ct10), sl10⟩) (c10 : PySem.W.codeIn K cd10 "has_great_weight" = true) (k10 : PySem.W.keepIn K (.ref f10) = true)
    (a11 : PySem.W.nsIn K mainGlobals "quotient" = some (some (.ref f11))) (l11 : K.lookup f11 = some ⟨oc11, od11, .func (PySem.W.fnOf "quotient" "quotient" (defArgs s_quotient) (defBody s_quotient) (defScope s_quotient) .none kV11 dc11 pm11 an11 cd11 ct11), sl11⟩) (c11 : PySem.W.codeIn K cd11 "quotient" = true) (k11 : PySem.W.keepIn K (.ref f11) = true)
    (a12 : PySem.W.nsIn K mainGlobals "_law_told" = some (some (.ref f12))) (l12 : K.lookup f12 = some ⟨oc12, od12, .func (PySem.W.fnOf "_law_told" "_law_told" (defArgs s_l_told) (defBody s_l_told) (defScope s_l_told) .none kV12 dc12 pm12 an12 cd12 ct12), sl12⟩) (c12 : PySem.W.codeIn K cd12 "_law_told" = true) (k12 : PySem.W.keepIn K (.ref f12) = true)
    (a13 : PySem.W.nsIn K mainGlobals "_law_ratio" = some (some (.ref f13))) (l13 : K.lookup f13 = some ⟨oc13, od13, .func (PySem.W.fnOf "_law_ratio" "_law_ratio" (defArgs s_l_ratio) (defBody s_l_ratio) (defScope s_l_ratio) .none kV13 dc13 pm13 an13 cd13 ct13), sl13⟩) (c13 : PySem.W.codeIn K cd13 "_law_ratio" = true) (k13 : PySem.W.keepIn K (.ref f13) = true)
    (a14 : PySem.W.nsIn K mainGlobals "_law_sight" = some (some (.ref f14))) (l14 : K.lookup f14 = some ⟨oc14, od14, .func (PySem.W.fnOf "_law_sight" "_law_sight" (defArgs s_l_sight) (defBody s_l_sight) (defScope s_l_sight) .none kV14 dc14 pm14 an14 cd14 ct14), sl14⟩) (c14 : PySem.W.codeIn K cd14 "_law_sight" = true) (k14 : PySem.W.keepIn K (.ref f14) = true)
    (a15 : PySem.W.nsIn K mainGlobals "_law_blocks" = some (some (.ref f15))) (l15 : K.lookup f15 = some ⟨oc15, od15, .func (PySem.W.fnOf "_law_blocks" "_law_blocks" (defArgs s_l_blocks) (defBody s_l_blocks) (defScope s_l_blocks) .none kV15 dc15 pm15 an15 cd15 ct15), sl15⟩) (c15 : PySem.W.codeIn K cd15 "_law_blocks" = true) (k15 : PySem.W.keepIn K (.ref f15) = true)
    (a16 : PySem.W.nsIn K mainGlobals "_law_common" = some (some (.ref f16))) (l16 : K.lookup f16 = some ⟨oc16, od16, .func (PySem.W.fnOf "_law_common" "_law_common" (defArgs s_l_common) (defBody s_l_common) (defScope s_l_common) .none kV16 dc16 pm16 an16 cd16 ct16), sl16⟩) (c16 : PySem.W.codeIn K cd16 "_law_common" = true) (k16 : PySem.W.keepIn K (.ref f16) = true)
    (a17 : PySem.W.nsIn K mainGlobals "_law_due" = some (some (.ref f17))) (l17 : K.lookup f17 = some ⟨oc17, od17, .func (PySem.W.fnOf "_law_due" "_law_due" (defArgs s_l_due) (defBody s_l_due) (defScope s_l_due) .none kV17 dc17 pm17 an17 cd17 ct17), sl17⟩) (c17 : PySem.W.codeIn K cd17 "_law_due" = true) (k17 : PySem.W.keepIn K (.ref f17) = true)
    (a18 : PySem.W.nsIn K mainGlobals "_law_ends" = some (some (.ref f18))) (l18 : K.lookup f18 = some ⟨oc18, od18, .func (PySem.W.fnOf "_law_ends" "_law_ends" (defArgs s_l_ends) (defBody s_l_ends) (defScope s_l_ends) .none kV18 dc18 pm18 an18 cd18 ct18), sl18⟩) (c18 : PySem.W.codeIn K cd18 "_law_ends" = true) (k18 : PySem.W.keepIn K (.ref f18) = true)
    (a19 : PySem.W.nsIn K mainGlobals "_law_choices" = some (some (.ref f19))) (l19 : K.lookup f19 = some ⟨oc19, od19, .func (PySem.W.fnOf "_law_choices" "_law_choices" (defArgs s_l_choices) (defBody s_l_choices) (defScope s_l_choices) .none kV19 dc19 pm19 an19 cd19 ct19), sl19⟩) (c19 : PySem.W.codeIn K cd19 "_law_choices" = true) (k19 : PySem.W.keepIn K (.ref f19) = true)
    (a20 : PySem.W.nsIn K mainGlobals "_law_system" = some (some (.ref f20))) (l20 : K.lookup f20 = some ⟨oc20, od20, .func (PySem.W.fnOf "_law_system" "_law_system" (defArgs s_l_system) (defBody s_l_system) (defScope s_l_system) .none kV20 dc20 pm20 an20 cd20 ct20), sl20⟩) (c20 : PySem.W.codeIn K cd20 "_law_system" = true) (k20 : PySem.W.keepIn K (.ref f20) = true)
    (a21 : PySem.W.nsIn K mainGlobals "_law_light" = some (some (.ref f21))) (l21 : K.lookup f21 = some ⟨oc21, od21, .func (PySem.W.fnOf "_law_light" "_law_light" (defArgs s_l_light) (defBody s_l_light) (defScope s_l_light) .none kV21 dc21 pm21 an21 cd21 ct21), sl21⟩) (c21 : PySem.W.codeIn K cd21 "_law_light" = true) (k21 : PySem.W.keepIn K (.ref f21) = true)
    (a22 : PySem.W.nsIn K mainGlobals "_law_equal" = some (some (.ref f22))) (l22 : K.lookup f22 = some ⟨oc22, od22, .func (PySem.W.fnOf "_law_equal" "_law_equal" (defArgs s_l_equal) (defBody s_l_equal) (defScope s_l_equal) .none kV22 dc22 pm22 an22 cd22 ct22), sl22⟩) (c22 : PySem.W.codeIn K cd22 "_law_equal" = true) (k22 : PySem.W.keepIn K (.ref f22) = true)
    (a23 : PySem.W.nsIn K mainGlobals "are_ends" = some (some (.ref f23))) (l23 : K.lookup f23 = some ⟨oc23, od23, .func (PySem.W.fnOf "are_ends" "are_ends" (defArgs s_are_ends) (defBody s_are_ends) (defScope s_are_ends) .none kV23 dc23 pm23 an23 cd23 ct23), sl23⟩) (c23 : PySem.W.codeIn K cd23 "are_ends" = true) (k23 : PySem.W.keepIn K (.ref f23) = true)
    (a24 : PySem.W.nsIn K mainGlobals "fault_in_state" = some (some (.ref f24))) (l24 : K.lookup f24 = some ⟨oc24, od24, .func (PySem.W.fnOf "fault_in_state" "fault_in_state" (defArgs s_fault_in_state) (defBody s_fault_in_state) (defScope s_fault_in_state) .none kV24 dc24 pm24 an24 cd24 ct24), sl24⟩) (c24 : PySem.W.codeIn K cd24 "fault_in_state" = true) (k24 : PySem.W.keepIn K (.ref f24) = true)
    (a25 : PySem.W.nsIn K mainGlobals "fault" = some (some (.ref f25))) (l25 : K.lookup f25 = some ⟨oc25, od25, .func (PySem.W.fnOf "fault" "fault" (defArgs s_fault) (defBody s_fault) (defScope s_fault) .none kV25 dc25 pm25 an25 cd25 ct25), sl25⟩) (c25 : PySem.W.codeIn K cd25 "fault" = true) (k25 : PySem.W.keepIn K (.ref f25) = true)
    (a26 : PySem.W.nsIn K mainGlobals "law" = some (some (.ref f26))) (l26 : K.lookup f26 = some ⟨oc26, od26, .func (PySem.W.fnOf "law" "law" (defArgs s_law) (defBody s_law) (defScope s_law) .none kV26 dc26 pm26 an26 cd26 ct26), sl26⟩) (c26 : PySem.W.codeIn K cd26 "law" = true) (k26 : PySem.W.keepIn K (.ref f26) = true)
    (z_ValueError : PySem.W.nsIn K mainGlobals "ValueError" = some none)
    (z_abs : PySem.W.nsIn K mainGlobals "abs" = some none)
    (z_any : PySem.W.nsIn K mainGlobals "any" = some none)
    (z_bool : PySem.W.nsIn K mainGlobals "bool" = some none)
    (z_enumerate : PySem.W.nsIn K mainGlobals "enumerate" = some none)
    (z_int : PySem.W.nsIn K mainGlobals "int" = some none)
    (z_isinstance : PySem.W.nsIn K mainGlobals "isinstance" = some none)
    (z_len : PySem.W.nsIn K mainGlobals "len" = some none)
    (z_list : PySem.W.nsIn K mainGlobals "list" = some none)
    (z_max : PySem.W.nsIn K mainGlobals "max" = some none)
    (z_min : PySem.W.nsIn K mainGlobals "min" = some none)
    (z_range : PySem.W.nsIn K mainGlobals "range" = some none)
    (z_sorted : PySem.W.nsIn K mainGlobals "sorted" = some none)
    (z_str : PySem.W.nsIn K mainGlobals "str" = some none)
    (z_sum : PySem.W.nsIn K mainGlobals "sum" = some none)
    (z_tuple : PySem.W.nsIn K mainGlobals "tuple" = some none)
    (z_zip : PySem.W.nsIn K mainGlobals "zip" = some none)
    (z_gcd : PySem.W.nsIn K mainGlobals "gcd" = some (some (.builtin "math.gcd")))
    {t_MOST_CHOICES : Tok} (z_MOST_CHOICES : PySem.W.nsIn K mainGlobals "MOST_CHOICES" = some (some (.int 6 t_MOST_CHOICES)))
    {t_MOST_COST : Tok} (z_MOST_COST : PySem.W.nsIn K mainGlobals "MOST_COST" = some (some (.int 1000 t_MOST_COST)))
    {t_MOST_ENDS : Tok} (z_MOST_ENDS : PySem.W.nsIn K mainGlobals "MOST_ENDS" = some (some (.int 6 t_MOST_ENDS)))
    {t_MOST_STATES : Tok} (z_MOST_STATES : PySem.W.nsIn K mainGlobals "MOST_STATES" = some (some (.int 20 t_MOST_STATES)))
    {t_MOST_WEIGHT : Tok} (z_MOST_WEIGHT : PySem.W.nsIn K mainGlobals "MOST_WEIGHT" = some (some (.int 1000 t_MOST_WEIGHT)))
    (m_BestoddsError : PySem.W.subIn K (.ref c_BestoddsError) (.type "BaseException") = some true) (y_BestoddsError : PySem.W.typeIn K (.ref c_BestoddsError) = some (.type "type"))
    (m_WeightTooGreat : PySem.W.subIn K (.ref c_WeightTooGreat) (.type "BaseException") = some true) (y_WeightTooGreat : PySem.W.typeIn K (.ref c_WeightTooGreat) = some (.type "type"))
    (m_BenchError : PySem.W.subIn K (.ref c_BenchError) (.type "BaseException") = some true) (y_BenchError : PySem.W.typeIn K (.ref c_BenchError) = some (.type "type"))
    (h_WeightTooGreat_BestoddsError : PySem.W.exmOne K (.ref c_WeightTooGreat) (.ref c_BestoddsError) = some true)
    (j_WeightTooGreat_WeightTooGreat : PySem.W.kitOne K (.ref c_WeightTooGreat) (.ref c_WeightTooGreat) = some true)
    (j_WeightTooGreat_ValueError : PySem.W.kitOne K (.ref c_WeightTooGreat) (.type "ValueError") = some true)
    (j_WeightTooGreat_BenchError : PySem.W.kitOne K (.ref c_WeightTooGreat) (.ref c_BenchError) = some false)
    (xc_WeightTooGreat : xcB K c_WeightTooGreat = true)
    : ∃ fd : FuncData, (∀ (s : Shared) (v : Value), BindsTo s fd ⟨[v], []⟩ [("script", v)]) ∧ ∀ base : Heap, K.In base → base.Ns mainGlobals mg → FnOk l.prog w K mg base CX0 9 fa fd ["script"] (sp_law K) := by
  have e := hfa.symm.trans (PySem.W.mg_of X G a26)
  cases e
  have F0 := fun_mk (st := s_l_tape) l0 c0 k0
  have b0 := F0.binds (ps := ["script"]) fun _ _ _ _ _ _ us hl => match us, hl with | [_], _ => rfl
  have F1 := fun_mk (st := s_l_draw) l1 c1 k1
  have b1 := F1.binds (ps := ["tape", "at", "many"]) fun _ _ _ _ _ _ us hl => match us, hl with | [_, _, _], _ => rfl
  have F2 := fun_mk (st := s_l_take) l2 c2 k2
  have b2 := F2.binds (ps := ["state", "many"]) fun _ _ _ _ _ _ us hl => match us, hl with | [_, _], _ => rfl
  have F3 := fun_mk (st := s_l_split) l3 c3 k3
  have b3 := F3.binds (ps := ["state", "weight", "copies"]) fun _ _ _ _ _ _ us hl => match us, hl with | [_, _, _], _ => rfl
  have F4 := fun_mk (st := s_l_twins) l4 c4 k4
  have b4 := F4.binds (ps := ["state", "system"]) fun _ _ _ _ _ _ us hl => match us, hl with | [_, _], _ => rfl
  have F5 := fun_mk (st := s_numbered) l5 c5 k5
  have b5 := F5.binds (ps := ["keys"]) fun _ _ _ _ _ _ us hl => match us, hl with | [_], _ => rfl
  have F6 := fun_mk (st := s_ends_between) l6 c6 k6
  have b6 := F6.binds (ps := ["ends", "numbers"]) fun _ _ _ _ _ _ us hl => match us, hl with | [_, _], _ => rfl
  have F7 := fun_mk (st := s_choices_between) l7 c7 k7
  have b7 := F7.binds (ps := ["choices", "numbers"]) fun _ _ _ _ _ _ us hl => match us, hl with | [_, _], _ => rfl
  have F8 := fun_mk (st := s_block_numbers) l8 c8 k8
  have b8 := F8.binds (ps := ["system", "groups"]) fun _ _ _ _ _ _ us hl => match us, hl with | [_, _], _ => rfl
  have F9 := fun_mk (st := s_members_of) l9 c9 k9
  have b9 := F9.binds (ps := ["numbers"]) fun _ _ _ _ _ _ us hl => match us, hl with | [_], _ => rfl
  have F10 := fun_mk (st := s_has_great_weight) l10 c10 k10
  have b10 := F10.binds (ps := ["choices"]) fun _ _ _ _ _ _ us hl => match us, hl with | [_], _ => rfl
  have F11 := fun_mk (st := s_quotient) l11 c11 k11
  have b11 := F11.binds (ps := ["system", "groups"]) fun _ _ _ _ _ _ us hl => match us, hl with | [_, _], _ => rfl
  have F12 := fun_mk (st := s_l_told) l12 c12 k12
  have b12 := F12.binds (ps := ["system", "groups"]) fun _ _ _ _ _ _ us hl => match us, hl with | [_, _], _ => rfl
  have F13 := fun_mk (st := s_l_ratio) l13 c13 k13
  have b13 := F13.binds (ps := ["n", "d"]) fun _ _ _ _ _ _ us hl => match us, hl with | [_, _], _ => rfl
  have F14 := fun_mk (st := s_l_sight) l14 c14 k14
  have b14 := F14.binds (ps := ["system", "names", "k"]) fun _ _ _ _ _ _ us hl => match us, hl with | [_, _, _], _ => rfl
  have F15 := fun_mk (st := s_l_blocks) l15 c15 k15
  have b15 := F15.binds (ps := ["system", "groups"]) fun _ _ _ _ _ _ us hl => match us, hl with | [_, _], _ => rfl
  have F16 := fun_mk (st := s_l_common) l16 c16 k16
  have b16 := F16.binds (ps := ["numbers"]) fun _ _ _ _ _ _ us hl => match us, hl with | [_], _ => rfl
  have F17 := fun_mk (st := s_l_due) l17 c17 k17
  have b17 := F17.binds (ps := ["system", "groups"]) fun _ _ _ _ _ _ us hl => match us, hl with | [_, _], _ => rfl
  have F18 := fun_mk (st := s_l_ends) l18 c18 k18
  have b18 := F18.binds (ps := ["state", "many"]) fun _ _ _ _ _ _ us hl => match us, hl with | [_, _], _ => rfl
  have F19 := fun_mk (st := s_l_choices) l19 c19 k19
  have b19 := F19.binds (ps := ["state", "many", "most"]) fun _ _ _ _ _ _ us hl => match us, hl with | [_, _, _], _ => rfl
  have F20 := fun_mk (st := s_l_system) l20 c20 k20
  have b20 := F20.binds (ps := ["state", "most"]) fun _ _ _ _ _ _ us hl => match us, hl with | [_, _], _ => rfl
  have F21 := fun_mk (st := s_l_light) l21 c21 k21
  have b21 := F21.binds (ps := ["state"]) fun _ _ _ _ _ _ us hl => match us, hl with | [_], _ => rfl
  have F22 := fun_mk (st := s_l_equal) l22 c22 k22
  have b22 := F22.binds (ps := ["actual", "due"]) fun _ _ _ _ _ _ us hl => match us, hl with | [_, _], _ => rfl
  have F23 := fun_mk (st := s_are_ends) l23 c23 k23
  have b23 := F23.binds (ps := ["many", "ends"]) fun _ _ _ _ _ _ us hl => match us, hl with | [_, _], _ => rfl
  have F24 := fun_mk (st := s_fault_in_state) l24 c24 k24
  have b24 := F24.binds (ps := ["many", "state", "choices"]) fun _ _ _ _ _ _ us hl => match us, hl with | [_, _, _], _ => rfl
  have F25 := fun_mk (st := s_fault) l25 c25 k25
  have b25 := F25.binds (ps := ["system"]) fun _ _ _ _ _ _ us hl => match us, hl with | [_], _ => rfl
  have F26 := fun_mk (st := s_law) l26 c26 k26
  have b26 := F26.binds (ps := ["script"]) fun _ _ _ _ _ _ us hl => match us, hl with | [_], _ => rfl
  let T : Env K mg := { a_l_tape := _, d_l_tape := _, F_l_tape := F0, b_l_tape := b0, g_l_tape := PySem.W.mg_of X G a0, a_l_draw := _, d_l_draw := _, F_l_draw := F1, b_l_draw := b1, g_l_draw := PySem.W.mg_of X G a1, a_l_take := _, d_l_take := _, F_l_take := F2, b_l_take := b2, g_l_take := PySem.W.mg_of X G a2, a_l_split := _, d_l_split := _, F_l_split := F3, b_l_split := b3, g_l_split := PySem.W.mg_of X G a3, a_l_twins := _, d_l_twins := _, F_l_twins := F4, b_l_twins := b4, g_l_twins := PySem.W.mg_of X G a4, a_numbered := _, d_numbered := _, F_numbered := F5, b_numbered := b5, g_numbered := PySem.W.mg_of X G a5, a_ends_between := _, d_ends_between := _, F_ends_between := F6, b_ends_between := b6, g_ends_between := PySem.W.mg_of X G a6, a_choices_between := _, d_choices_between := _, F_choices_between := F7, b_choices_between := b7, g_choices_between := PySem.W.mg_of X G a7, a_block_numbers := _, d_block_numbers := _, F_block_numbers := F8, b_block_numbers := b8, g_block_numbers := PySem.W.mg_of X G a8, a_members_of := _, d_members_of := _, F_members_of := F9, b_members_of := b9, g_members_of := PySem.W.mg_of X G a9, a_has_great_weight := _, d_has_great_weight := _, F_has_great_weight := F10, b_has_great_weight := b10, g_has_great_weight := PySem.W.mg_of X G a10, a_quotient := _, d_quotient := _, F_quotient := F11, b_quotient := b11, g_quotient := PySem.W.mg_of X G a11, a_l_told := _, d_l_told := _, F_l_told := F12, b_l_told := b12, g_l_told := PySem.W.mg_of X G a12, a_l_ratio := _, d_l_ratio := _, F_l_ratio := F13, b_l_ratio := b13, g_l_ratio := PySem.W.mg_of X G a13, a_l_sight := _, d_l_sight := _, F_l_sight := F14, b_l_sight := b14, g_l_sight := PySem.W.mg_of X G a14, a_l_blocks := _, d_l_blocks := _, F_l_blocks := F15, b_l_blocks := b15, g_l_blocks := PySem.W.mg_of X G a15, a_l_common := _, d_l_common := _, F_l_common := F16, b_l_common := b16, g_l_common := PySem.W.mg_of X G a16, a_l_due := _, d_l_due := _, F_l_due := F17, b_l_due := b17, g_l_due := PySem.W.mg_of X G a17, a_l_ends := _, d_l_ends := _, F_l_ends := F18, b_l_ends := b18, g_l_ends := PySem.W.mg_of X G a18, a_l_choices := _, d_l_choices := _, F_l_choices := F19, b_l_choices := b19, g_l_choices := PySem.W.mg_of X G a19, a_l_system := _, d_l_system := _, F_l_system := F20, b_l_system := b20, g_l_system := PySem.W.mg_of X G a20, a_l_light := _, d_l_light := _, F_l_light := F21, b_l_light := b21, g_l_light := PySem.W.mg_of X G a21, a_l_equal := _, d_l_equal := _, F_l_equal := F22, b_l_equal := b22, g_l_equal := PySem.W.mg_of X G a22, a_are_ends := _, d_are_ends := _, F_are_ends := F23, b_are_ends := b23, g_are_ends := PySem.W.mg_of X G a23, a_fault_in_state := _, d_fault_in_state := _, F_fault_in_state := F24, b_fault_in_state := b24, g_fault_in_state := PySem.W.mg_of X G a24, a_fault := _, d_fault := _, F_fault := F25, b_fault := b25, g_fault := PySem.W.mg_of X G a25, a_law := _, d_law := _, F_law := F26, b_law := b26, g_law := PySem.W.mg_of X G a26, c_BestoddsError := _, g_BestoddsError := PySem.W.mg_of X G ac_BestoddsError, e_BestoddsError := e_BestoddsError, k_BestoddsError := k_BestoddsError, c_WeightTooGreat := _, g_WeightTooGreat := PySem.W.mg_of X G ac_WeightTooGreat, e_WeightTooGreat := e_WeightTooGreat, k_WeightTooGreat := k_WeightTooGreat, c_BenchError := _, g_BenchError := PySem.W.mg_of X G ac_BenchError, e_BenchError := e_BenchError, k_BenchError := k_BenchError, z_ValueError := PySem.W.mg_none_of X G z_ValueError, z_abs := PySem.W.mg_none_of X G z_abs, z_any := PySem.W.mg_none_of X G z_any, z_bool := PySem.W.mg_none_of X G z_bool, z_enumerate := PySem.W.mg_none_of X G z_enumerate, z_int := PySem.W.mg_none_of X G z_int, z_isinstance := PySem.W.mg_none_of X G z_isinstance, z_len := PySem.W.mg_none_of X G z_len, z_list := PySem.W.mg_none_of X G z_list, z_max := PySem.W.mg_none_of X G z_max, z_min := PySem.W.mg_none_of X G z_min, z_range := PySem.W.mg_none_of X G z_range, z_sorted := PySem.W.mg_none_of X G z_sorted, z_str := PySem.W.mg_none_of X G z_str, z_sum := PySem.W.mg_none_of X G z_sum, z_tuple := PySem.W.mg_none_of X G z_tuple, z_zip := PySem.W.mg_none_of X G z_zip, z_gcd := PySem.W.mg_of X G z_gcd, k_MOST_CHOICES := t_MOST_CHOICES, c_MOST_CHOICES := PySem.W.mg_of X G z_MOST_CHOICES, k_MOST_COST := t_MOST_COST, c_MOST_COST := PySem.W.mg_of X G z_MOST_COST, k_MOST_ENDS := t_MOST_ENDS, c_MOST_ENDS := PySem.W.mg_of X G z_MOST_ENDS, k_MOST_STATES := t_MOST_STATES, c_MOST_STATES := PySem.W.mg_of X G z_MOST_STATES, k_MOST_WEIGHT := t_MOST_WEIGHT, c_MOST_WEIGHT := PySem.W.mg_of X G z_MOST_WEIGHT, m_BestoddsError := m_BestoddsError, y_BestoddsError := y_BestoddsError, m_WeightTooGreat := m_WeightTooGreat, y_WeightTooGreat := y_WeightTooGreat, m_BenchError := m_BenchError, y_BenchError := y_BenchError, h_WeightTooGreat_BestoddsError := h_WeightTooGreat_BestoddsError, j_WeightTooGreat_WeightTooGreat := j_WeightTooGreat_WeightTooGreat, j_WeightTooGreat_ValueError := j_WeightTooGreat_ValueError, j_WeightTooGreat_BenchError := j_WeightTooGreat_BenchError, xc_WeightTooGreat := xc_WeightTooGreat }
  exact ⟨PySem.W.fnOf "law" "law" (defArgs s_law) (defBody s_law) (defScope s_law) .none kV26 dc26 pm26 an26 cd26 ct26, fun s v => .of_eq rfl, fun base _ _ => ok_law T⟩
end Bo
open PySem PySem.W PyProof.Rows
set_option maxRecDepth 100000 in
set_option maxHeartbeats 0 in
theorem PySem.Challenge.cw_bestodds_k41_quotients_holds : PySem.Challenge.rw_bestodds_k41_quotients.Holds := by
  w_on; o_law; k_head; (case hw => w_witness2)
  k_fill
  refine L2.walk_of (l := PySem.Challenge.rw_bestodds_k41_quotients) (n := 63) (k := 9) (x := "script") (CX := fun _ => L2.CX0) (sp := fun w => Bo.sp_law _) rfl (by decide) rfl ⟨rfl, by decide, by decide⟩ (fun w h Y => PySem.W.kIn_of Y) ?F (fun _ _ a ns hl _ hS => ⟨a, ns, rfl, hS, hl, fun _ => rfl⟩) (fun _ _ _ _ _ h => h)
  case F =>
    intro w mg fa h KX G hmg
    refine' Bo.all_mk KX G hmg ?ac_BestoddsError ?ac_WeightTooGreat ?ac_BenchError ?e_BestoddsError ?k_BestoddsError ?e_WeightTooGreat ?k_WeightTooGreat ?e_BenchError ?k_BenchError ?a0 ?l0 ?c0 ?k0 ?a1 ?l1 ?c1 ?k1 ?a2 ?l2 ?c2 ?k2 ?a3 ?l3 ?c3 ?k3 ?a4 ?l4 ?c4 ?k4 ?a5 ?l5 ?c5 ?k5 ?a6 ?l6 ?c6 ?k6 ?a7 ?l7 ?c7 ?k7 ?a8 ?l8 ?c8 ?k8 ?a9 ?l9 ?c9 ?k9 ?a10 ?l10 ?c10 ?k10 ?a11 ?l11 ?c11 ?k11 ?a12 ?l12 ?c12 ?k12 ?a13 ?l13 ?c13 ?k13 ?a14 ?l14 ?c14 ?k14 ?a15 ?l15 ?c15 ?k15 ?a16 ?l16 ?c16 ?k16 ?a17 ?l17 ?c17 ?k17 ?a18 ?l18 ?c18 ?k18 ?a19 ?l19 ?c19 ?k19 ?a20 ?l20 ?c20 ?k20 ?a21 ?l21 ?c21 ?k21 ?a22 ?l22 ?c22 ?k22 ?a23 ?l23 ?c23 ?k23 ?a24 ?l24 ?c24 ?k24 ?a25 ?l25 ?c25 ?k25 ?a26 ?l26 ?c26 ?k26 ?z_ValueError ?z_abs ?z_any ?z_bool ?z_enumerate ?z_int ?z_isinstance ?z_len ?z_list ?z_max ?z_min ?z_range ?z_sorted ?z_str ?z_sum ?z_tuple ?z_zip ?z_gcd ?z_MOST_CHOICES ?z_MOST_COST ?z_MOST_ENDS ?z_MOST_STATES ?z_MOST_WEIGHT ?m_BestoddsError ?y_BestoddsError ?m_WeightTooGreat ?y_WeightTooGreat ?m_BenchError ?y_BenchError ?h_WeightTooGreat_BestoddsError ?j_WeightTooGreat_WeightTooGreat ?j_WeightTooGreat_ValueError ?j_WeightTooGreat_BenchError ?xc_WeightTooGreat
    (case ac_BestoddsError => k_is)
    (case ac_WeightTooGreat => k_is)
    (case ac_BenchError => k_is)
    (case e_BestoddsError => k_exc)
    (case k_BestoddsError => k_is)
    (case e_WeightTooGreat => k_exc)
    (case k_WeightTooGreat => k_is)
    (case e_BenchError => k_exc)
    (case k_BenchError => k_is)
    (case a0 => k_is)
    (case l0 => k_is)
    (case c0 => k_is)
    (case k0 => k_is)
    (case a1 => k_is)
    (case l1 => k_is)
    (case c1 => k_is)
    (case k1 => k_is)
    (case a2 => k_is)
    (case l2 => k_is)
    (case c2 => k_is)
    (case k2 => k_is)
    (case a3 => k_is)
    (case l3 => k_is)
    (case c3 => k_is)
    (case k3 => k_is)
    (case a4 => k_is)
    (case l4 => k_is)
    (case c4 => k_is)
    (case k4 => k_is)
    (case a5 => k_is)
    (case l5 => k_is)
    (case c5 => k_is)
    (case k5 => k_is)
    (case a6 => k_is)
    (case l6 => k_is)
    (case c6 => k_is)
    (case k6 => k_is)
    (case a7 => k_is)
    (case l7 => k_is)
    (case c7 => k_is)
    (case k7 => k_is)
    (case a8 => k_is)
    (case l8 => k_is)
    (case c8 => k_is)
    (case k8 => k_is)
    (case a9 => k_is)
    (case l9 => k_is)
    (case c9 => k_is)
    (case k9 => k_is)
    (case a10 => k_is)
    (case l10 => k_is)
    (case c10 => k_is)
    (case k10 => k_is)
    (case a11 => k_is)
    (case l11 => k_is)
    (case c11 => k_is)
    (case k11 => k_is)
    (case a12 => k_is)
    (case l12 => k_is)
    (case c12 => k_is)
    (case k12 => k_is)
    (case a13 => k_is)
    (case l13 => k_is)
    (case c13 => k_is)
    (case k13 => k_is)
    (case a14 => k_is)
    (case l14 => k_is)
    (case c14 => k_is)
    (case k14 => k_is)
    (case a15 => k_is)
    (case l15 => k_is)
    (case c15 => k_is)
    (case k15 => k_is)
    (case a16 => k_is)
    (case l16 => k_is)
    (case c16 => k_is)
    (case k16 => k_is)
    (case a17 => k_is)
    (case l17 => k_is)
    (case c17 => k_is)
    (case k17 => k_is)
    (case a18 => k_is)
    (case l18 => k_is)
    (case c18 => k_is)
    (case k18 => k_is)
    (case a19 => k_is)
    (case l19 => k_is)
    (case c19 => k_is)
    (case k19 => k_is)
    (case a20 => k_is)
    (case l20 => k_is)
    (case c20 => k_is)
    (case k20 => k_is)
    (case a21 => k_is)
    (case l21 => k_is)
    (case c21 => k_is)
    (case k21 => k_is)
    (case a22 => k_is)
    (case l22 => k_is)
    (case c22 => k_is)
    (case k22 => k_is)
    (case a23 => k_is)
    (case l23 => k_is)
    (case c23 => k_is)
    (case k23 => k_is)
    (case a24 => k_is)
    (case l24 => k_is)
    (case c24 => k_is)
    (case k24 => k_is)
    (case a25 => k_is)
    (case l25 => k_is)
    (case c25 => k_is)
    (case k25 => k_is)
    (case a26 => k_is)
    (case l26 => k_is)
    (case c26 => k_is)
    (case k26 => k_is)
    (case z_ValueError => k_is)
    (case z_abs => k_is)
    (case z_any => k_is)
    (case z_bool => k_is)
    (case z_enumerate => k_is)
    (case z_int => k_is)
    (case z_isinstance => k_is)
    (case z_len => k_is)
    (case z_list => k_is)
    (case z_max => k_is)
    (case z_min => k_is)
    (case z_range => k_is)
    (case z_sorted => k_is)
    (case z_str => k_is)
    (case z_sum => k_is)
    (case z_tuple => k_is)
    (case z_zip => k_is)
    (case z_gcd => k_is)
    (case z_MOST_CHOICES => k_is)
    (case z_MOST_COST => k_is)
    (case z_MOST_ENDS => k_is)
    (case z_MOST_STATES => k_is)
    (case z_MOST_WEIGHT => k_is)
    (case m_BestoddsError => k_is)
    (case y_BestoddsError => k_is)
    (case m_WeightTooGreat => k_is)
    (case y_WeightTooGreat => k_is)
    (case m_BenchError => k_is)
    (case y_BenchError => k_is)
    (case h_WeightTooGreat_BestoddsError => first | kernel_rfl | exact Eq.refl _)
    (case j_WeightTooGreat_WeightTooGreat => first | kernel_rfl | exact Eq.refl _)
    (case j_WeightTooGreat_ValueError => first | kernel_rfl | exact Eq.refl _)
    (case j_WeightTooGreat_BenchError => first | kernel_rfl | exact Eq.refl _)
    (case xc_WeightTooGreat => first | kernel_rfl | exact Eq.refl true)

