import PyProof.Rows.All
import Wide.All
import OpenK.AllK
import Wide.FinOn
import HandS.ForMost
import HandS.IsInst
import HandS.Wide
import HandS.Gcd
import HandS.Codes
import HandS.Style
import HandS.TupMul
import HandS.TupAny
import KE.GoesNew
import KE.GoesMore
import HandS.Conv
import HandS.SortInts
import HandS.DictTup
import HandS.ForExc
import HandS.ExcInit
import HandS.Small
import KE.KExcIs
import HandS.Text
import HandS.StrMore
import HandS.FStr
import PyProof.StrOps2
import HandS.Rev
import HandS.MapJoin
import HandS.ExcValue
import HandS.ExcField
import HandS.ExcIs
import HandS.TryMany
import HandS.NoneIn
import Flt.Len
import HandS.Star
import HandS.Iter
import HandS.List
import KE.KUnpackStar
import HandS.TupLe
import HandS.StrSplit
import PyProof.StrLawsTight
import PyProof.Rows.StrNews2
import KE.IntTextLaws
import KE.OsScanText
import PySem.Challenge.RW_bestodds_k06_written_systems_refused
set_option Elab.async false
set_option linter.all false
set_option maxRecDepth 100000
set_option maxHeartbeats 4000000
namespace Bo
open PySem L2

/-! ### readings, step by step -/
section
variable {σ : L2.St} {H : Hp} {Q : VK} {D : Ends} {ta tb te : TE} {t u : TS} {tt tu : TT} {K : PySem.W.Frag}
theorem r_seq (h : t { D with nx := u D } σ H) : tSeq t u D σ H := h
theorem r_asg {g : TG} (h : te σ H fun x H1 => g x σ H1 D.nx) : tAsg te g D σ H := h
theorem r_name {i : Nat} {v : V} {R : L2.St → Hp → Prop} (h : R (σ.set i (some v)) H) : gName i v σ H R := h
theorem r_var {i : Nat} (h : ∃ v, σ[i]? = some (some v) ∧ Q v H) : tVar i σ H Q := h
theorem r_c {v : V} (h : Q v H) : tC v σ H Q := h
theorem r_op {r : R2} (h : ta σ H fun x H1 => tb σ H1 fun y H2 => r x y H2 Q) : tOp r ta tb σ H Q := h
theorem r_un {r : V → Hp → VK → Prop} (h : ta σ H fun x H1 => r x H1 Q) : tUn r ta σ H Q := h
theorem r_i0 {g : Int → Int → V} {i j : Int} (h : Q (g i j) H) : rI0 g (.int i) (.int j) H Q := ⟨i, j, rfl, rfl, h⟩
theorem r_iC {C : Int → Int → Prop} {g : Int → Int → V} {i j : Int} (c : C i j) (h : Q (g i j) H) : rI C g (.int i) (.int j) H Q := ⟨i, j, rfl, rfl, c, h⟩
theorem r_u {g : Int → V} {i : Int} (h : Q (g i) H) : rU g (.int i) H Q := ⟨i, rfl, h⟩
theorem r_eqI {i j : Int} (h : Q (.bl (decide (i = j))) H) : rEq (.int i) (.int j) H Q := by
  refine ⟨rfl, ?_⟩
  have e : decide (V.int i = V.int j) = decide (i = j) := by
    by_cases q : i = j
    · subst q; simp
    · rw [decide_eq_false q, decide_eq_false fun z => q (V.int.inj z)]
  rw [e]
  exact h
theorem r_neI {i j : Int} (h : Q (.bl (!decide (i = j))) H) : rNe (.int i) (.int j) H Q := by
  refine ⟨rfl, ?_⟩
  have e : decide (V.int i = V.int j) = decide (i = j) := by
    by_cases q : i = j
    · subst q; simp
    · rw [decide_eq_false q, decide_eq_false fun z => q (V.int.inj z)]
  rw [e]
  exact h
theorem r_eqS {i j : Str} (h : Q (.bl (decide (i = j))) H) : rEq (.str i) (.str j) H Q := by
  refine ⟨rfl, ?_⟩
  have e : decide (V.str i = V.str j) = decide (i = j) := by
    by_cases q : i = j
    · subst q; simp
    · rw [decide_eq_false q, decide_eq_false fun z => q (V.str.inj z)]
  rw [e]
  exact h
theorem r_eqB {i j : Bool} (h : Q (.bl (decide (i = j))) H) : rEq (.bl i) (.bl j) H Q := by
  refine ⟨rfl, ?_⟩
  have e : decide (V.bl i = V.bl j) = decide (i = j) := by
    by_cases q : i = j
    · subst q; simp
    · rw [decide_eq_false q, decide_eq_false fun z => q (V.bl.inj z)]
  rw [e]
  exact h
theorem r_tst {R : Bool → Hp → Prop} (h : te σ H fun x H' => ∃ k, x = .bl k ∧ R k H') : tTest te σ H R := h
theorem r_tB {R : Bool → Hp → Prop} (h : te σ H fun x H' => ∃ k, x = .bl k ∧ R k H') : tB te σ H R := h
theorem r_bl {b : Bool} {R : Bool → Prop} (h : R b) : ∃ k, V.bl b = .bl k ∧ R k := ⟨b, rfl, h⟩
theorem r_not {R : Bool → Hp → Prop} (h : tt σ H fun c H1 => R (!c) H1) : tNot tt σ H R := h
theorem r_and {R : Bool → Hp → Prop} (h : tt σ H fun c H1 => if c = true then tu σ H1 R else R false H1) : tAnd tt tu σ H R := h
theorem r_or {R : Bool → Hp → Prop} (h : tt σ H fun c H1 => if c = true then R true H1 else tu σ H1 R) : tOr tt tu σ H R := h
theorem r_andV (h : ta σ H fun x H1 => ∃ c, x = .bl c ∧ if c = true then tb σ H1 Q else Q (.bl false) H1) : tAndV ta tb σ H Q := h
theorem r_orV (h : ta σ H fun x H1 => ∃ c, x = .bl c ∧ if c = true then Q (.bl true) H1 else tb σ H1 Q) : tOrV ta tb σ H Q := h
theorem r_notV (h : ta σ H fun x H1 => ∃ c, x = .bl c ∧ Q (.bl (!c)) H1) : tNotV ta σ H Q := h
theorem r_ifs (h : tt σ H fun b H1 => if b = true then t D σ H1 else u D σ H1) : tIfS tt t u D σ H := h
theorem r_ifE (h : tt σ H fun c H1 => if c = true then ta σ H1 Q else tb σ H1 Q) : tIf tt ta tb σ H Q := h
theorem r_ret (h : te σ H D.rt) : tRet te D σ H := h
theorem r_retN (h : D.rt .non H) : tRetN D σ H := h
theorem r_next (h : D.nx σ H) : tNext D σ H := h
theorem r_brk (h : D.bk σ H) : tBreak D σ H := h
theorem r_cont (h : D.ct σ H) : tCont D σ H := h
theorem r_drop (h : te σ H fun _ H1 => D.nx σ H1) : tDrop te D σ H := h
theorem r_nil {R : List V → Hp → Prop} (h : R [] H) : tNil σ H R := h
theorem r_cons {tr : TA} {R : List V → Hp → Prop} (h : ta σ H fun x H1 => tr σ H1 fun xs H2 => R (x :: xs) H2) : tCons ta tr σ H R := h
theorem r_tup {tA : TA} (h : tA σ H fun xs H1 => xs.length ≤ sizeLine ∧ ∀ p, H1 p = none → Q (.ref p) (upd H1 p (.tup xs))) : tTup tA σ H Q := h
theorem r_lst {tA : TA} (h : tA σ H fun xs H1 => xs.length ≤ sizeLine ∧ ∀ p, H1 p = none → Q (.ref p) (upd H1 p (.lst xs))) : tLst tA σ H Q := h
theorem r_cb {r : List V → Hp → VK → Prop} {tA : TA} (h : tA σ H fun vs H1 => r vs H1 Q) : tCB r tA σ H Q := h
theorem r_call {sp : Sp} {E : XK} {tA : TA} (h : tA σ H fun vs H1 => sp (vs ++ []) H1 Q E) : tCall sp [] E tA σ H Q := h
theorem r_gsub {to ti : TE} {ts : TSet} {v : V} {R : L2.St → Hp → Prop} (h : to σ H fun o H1 => ti σ H1 fun i H2 => ts o i v H2 fun H3 => R σ H3) : gSub to ti ts v σ H R := h
theorem r_ixQT {p : Addr} {xs : List V} {i : Int} {v : V} (s : SqT K H p xs) (a : atI xs i = some v) (h : Q v H) : rIx K (.ref p) (.int i) H Q := .inr (.inl ⟨p, xs, i, v, rfl, rfl, s, a, h⟩)
theorem r_ixQL {p : Addr} {xs : List V} {i : Int} {v : V} (s : SqL K H p xs) (a : atI xs i = some v) (h : Q v H) : rIx K (.ref p) (.int i) H Q := .inl ⟨p, xs, i, v, rfl, rfl, s, a, h⟩
theorem r_bm {T : String} {r : V → List V → Hp → VK → Prop} {tA : TA} (h : ta σ H fun x H1 => tyV K T x H1 ∧ tA σ H1 fun xs H2 => r x xs H2 Q) : tBM K T r ta tA σ H Q := h
theorem r_bm0 {T : String} {r : V → List V → Hp → VK → Prop} (h : ta σ H fun x H1 => tyV K T x H1 ∧ r x [] H1 Q) : tBM0 K T r ta σ H Q := h
theorem r_dput {td ty : TE} (h : te σ H fun v H1 => td σ H1 fun x H2 => ty σ H2 fun y H3 => ∃ a H4, x = .ref a ∧ DPut H3 a y v H4 ∧ D.nx σ H4) : sDPut td ty te D σ H := h
theorem r_dnew (h : ∀ p, H p = none → Q (.ref p) (upd H p (.dK []))) : tDNewK σ H Q := h
theorem r_chain {r r' : R2} {tc : TE} (h : ta σ H fun x H1 => tb σ H1 fun y H2 => r x y H2 fun z H3 => ∃ k, z = .bl k ∧ if k = true then tc σ H3 fun v H4 => r' y v H4 Q else Q (.bl false) H3) : tChain r r' ta tb tc σ H Q := h
theorem r_for {wi : TI} {g : TG} {b : TS} (h : wi σ H fun J H1 => ∃ W : Nat → Nat → L2.St → Hp → Prop, (∃ m, W 0 m σ H1) ∧ ∀ i m σ H, W i m σ H →
    (J.stop i H ∧ D.nx σ H) ∨ (J.go i H ∧ ∃ N : L2.St → Hp → Prop, (∀ σ' H', N σ' H' → ∃ m', m' < m ∧ W (i + 1) m' σ' H') ∧ ∀ x H', J.yld i H x H' → g x σ H' fun σ2 H2 => b { D with nx := N, ct := N, bk := D.nx } σ2 H2)) : tFor wi g b D σ H := h
theorem r_iList {R : It → Hp → Prop} (h : te σ H fun x H1 => ∃ a, x = .ref a ∧ (∃ xs, SqL K H1 a xs) ∧ R (Itl K a) H1) : iList K te σ H R := h
theorem r_iTup {R : It → Hp → Prop} (h : te σ H fun x H1 => ∃ a, x = .ref a ∧ (∃ xs, SqT K H1 a xs) ∧ R (Itt K a) H1) : iTup K te σ H R := h
theorem r_rng1 {tA : TA} {R : It → Hp → Prop} (h : tA σ H fun vs H1 => ∃ j : Int, vs = [.int j] ∧ -(2 ^ 62) ≤ j ∧ j < 2 ^ 62 ∧ R (Itr 0 j.toNat) H1) : iRng1 tA σ H R := h
theorem r_rng2 {tA : TA} {R : It → Hp → Prop} (h : tA σ H fun vs H1 => ∃ i j : Int, vs = [.int i, .int j] ∧ (-(2 ^ 62) ≤ i ∧ i < 2 ^ 62 ∧ -(2 ^ 62) ≤ j ∧ j < 2 ^ 62) ∧ R (Itr i (j - i).toNat) H1) : iRng2 tA σ H R := h
theorem r_if {c : Prop} [Decidable c] {A B : Prop} (h1 : c → A) (h2 : ¬ c → B) : if decide c = true then A else B := by
  by_cases h : c
  · rw [decide_eq_true h, if_pos rfl]
    exact h1 h
  · rw [decide_eq_false h, if_neg Bool.false_ne_true]
    exact h2 h
theorem r_ifN {c : Prop} [Decidable c] {A B : Prop} (h1 : ¬ c → A) (h2 : c → B) : if (!decide c) = true then A else B := by
  by_cases h : c
  · rw [decide_eq_true h]
    exact h2 h
  · rw [decide_eq_false h]
    exact h1 h
theorem r_ifT {A B : Prop} (h : A) : if true = true then A else B := h
theorem r_ifF {A B : Prop} (h : B) : if false = true then A else B := h
theorem r_ifNT {A B : Prop} (h : B) : if (!true) = true then A else B := h
theorem r_ifNF {A B : Prop} (h : A) : if (!false) = true then A else B := h
end

section
variable {σ : L2.St} {H : Hp} {D : Ends} {t u : TS}
end
/-! ### division by any int that is not nought -/
def CDivX (_ j : Int) : Prop := j ≠ 0 ∧ j.natAbs.log2 < 9000
theorem op_fdivX {X : Cx} : OpR X (binaryOp .FloorDiv) (rI CDivX fun i j => .int (i.fdiv j)) := opI fun _ _ _ _ _ _ _ hc q => PyProof.Rows.floordiv_int hc.1 q (.inl (PyProof.noPylong_of_log2 hc.2))

/-! ### heaps -/
section
variable {K : PySem.W.Frag} {H H' H1 : Hp} {a b p q : Addr} {xs ys : List V} {o : HO}
theorem sm_t (e : Same H H') (h : SqT K H a xs) : SqT K H' a xs := by
  rcases h with (h | ⟨o, h⟩) | h
  · exact .inl (.inl (e _ _ h))
  · exact .inl (.inr ⟨o, e _ _ h⟩)
  · exact .inr h
theorem sm_l (e : Same H H') (h : SqL K H a xs) : SqL K H' a xs := e.seq h
theorem sm_new (h : H p = none) : Same H (upd H p o) := fun b u e => by
  rw [upd_ne (ne_of_none e h)]
  exact e
end

/-! ### rules whose reading names K outright (within a comprehension) -/
section
variable {X : Cx}
theorem ixT (K : PySem.W.Frag) (h : X.K = K := by rfl) : IxR X (rIxT K) := by
  subst h
  exact ix_tup
theorem ixL (K : PySem.W.Frag) (h : X.K = K := by rfl) : IxR X (rIxL K) := by
  subst h
  exact ix_list
end
/-! ### what is kept but for the list at p; tuples -/
def Fm (p : Addr) (H H' : Hp) : Prop := ∀ b o, b ≠ p → H b = some o → H' b = some o
section
variable {K : PySem.W.Frag} {H H' H1 : Hp} {a b p q : Addr} {xs ys : List V} {o : HO}
theorem Fm.refl : Fm p H H := fun _ _ _ h => h
theorem Fm.trans (e : Fm p H H1) (f : Fm p H1 H') : Fm p H H' := fun b o n h => f b o n (e b o n h)
theorem Fm.free (e : Fm p H H') (n : a ≠ p) (h : H' a = none) : H a = none := by
  cases q : H a with
  | none => rfl
  | some u =>
    rw [e a u n q] at h
    cases h
/-- tuples are kept -/
def Tk (H H' : Hp) : Prop := ∀ b xs, (H b = some (.tup xs) → H' b = some (.tup xs)) ∧ ∀ o, H b = some (.frz o (.tup xs)) → H' b = some (.frz o (.tup xs))
theorem Tk.refl : Tk H H := fun _ _ => ⟨id, fun _ => id⟩
theorem Tk.trans (e : Tk H H1) (f : Tk H1 H') : Tk H H' := fun b xs => ⟨fun h => (f b xs).1 ((e b xs).1 h), fun o h => (f b xs).2 o ((e b xs).2 o h)⟩
theorem Fm.tk (e : Fm p H H') (h : H p = some (.lst ys)) : Tk H H' := fun b xs =>
  ⟨fun q => e b _ (ne_of q h (fun z => by cases z)) q, fun o q => e b _ (ne_of q h (fun z => by cases z)) q⟩
end

/-! ### data -/
section
variable {K : PySem.W.Frag} {H H' : Hp}
theorem dpa_len : ∀ {vs : List V} {ds : List PyData}, DpAll K H vs ds → vs.length = ds.length
  | _, _, .nil => rfl
  | _, _, .cons _ t => congrArg (· + 1) (dpa_len t)
theorem dpa_get : ∀ {vs : List V} {ds : List PyData} {i : Nat} {d : PyData}, DpAll K H vs ds → ds[i]? = some d → ∃ v, vs[i]? = some v ∧ Dp K H v d
  | _, _, _, _, .nil, e => by simp at e
  | _, _, 0, _, .cons h _, e => by
    simp at e
    subst e
    exact ⟨_, rfl, h⟩
  | _, _, i + 1, d, .cons _ t, e => by
    obtain ⟨v, h1, h2⟩ := dpa_get (i := i) (d := d) t (by simpa using e)
    exact ⟨v, by simpa using h1, h2⟩
/-- data without lists -/
inductive Tu : PyData → Prop
  | non : Tu .none
  | bl (b : Bool) : Tu (.bool b)
  | int (i : Int) : Tu (.int i)
  | str (x : Str) : Tu (.str x)
  | tup {ds : List PyData} (h : ∀ d, d ∈ ds → Tu d) : Tu (.tuple ds)
/-- the types of what is read -/
theorem tyx_t {a : Addr} {xs : List V} (s : SqT K H a xs) : TyX K H (.ref a) (.type "tuple") := by
  rcases s with (s | ⟨o, s⟩) | ⟨o, its, n, e, c, _⟩
  · exact .base (.tup s)
  · exact .fTuple s
  · exact .kTuple e c
theorem tyx_l {a : Addr} {xs : List V} (s : SqL K H a xs) : TyX K H (.ref a) (.type "list") := by
  rcases s with (s | ⟨o, s⟩) | ⟨o, its, n, e, c, _⟩
  · exact .base (.lst s)
  · exact .base (.frz s)
  · exact .kList e c
theorem r_isi {Q : VK} {x : V} {a c : String} (b : Bool) (ty : TyX K H x (.type a)) (e : kitB a c = some b) (h : Q (.bl b) H) : rIsi K [x, .ty c] H Q := ⟨x, .ty c, .type a, .type c, b, rfl, .ty c, ty, kit_ty e, h⟩
/-- data at most n deep -/
inductive Dn : Nat → PyData → Prop
  | non (n : Nat) : Dn n .none
  | bl (n : Nat) (b : Bool) : Dn n (.bool b)
  | int (n : Nat) (i : Int) : Dn n (.int i)
  | str (n : Nat) (x : Str) : Dn n (.str x)
  | tup {n : Nat} {ds : List PyData} (l : ds.length ≤ 100000) (h : ∀ d, d ∈ ds → Dn n d) : Dn (n + 1) (.tuple ds)
  | lst {n : Nat} {ds : List PyData} (l : ds.length ≤ 100000) (h : ∀ d, d ∈ ds → Dn n d) : Dn (n + 1) (.list ds)
theorem Dn.up : ∀ {n : Nat} {d : PyData}, Dn n d → Dn (n + 1) d
  | _, _, .non _ => .non _
  | _, _, .bl _ b => .bl _ b
  | _, _, .int _ i => .int _ i
  | _, _, .str _ x => .str _ x
  | _, _, .tup l h => .tup l fun d hd => (h d hd).up
  | _, _, .lst l h => .lst l fun d hd => (h d hd).up
end
end Bo

/-! ### what code is worth, as functions on plain values: lists that are changed belong to one slot each -/
namespace Bo
open PySem L2
/-! data that stand: lists and tuples that nobody changes -/
mutual
inductive Da (K : PySem.W.Frag) (B : Hp) : V → PyData → Prop
  | non : Da K B .non .none
  | bl (b : Bool) : Da K B (.bl b) (.bool b)
  | int (i : Int) : Da K B (.int i) (.int i)
  | str (x : Str) : Da K B (.str x) (.str x)
  | lst {a : Addr} {xs : List V} {ds : List PyData} (s : B a = some (.lst xs)) (h : DaAll K B xs ds) : Da K B (.ref a) (.list ds)
  | tup {a : Addr} {xs : List V} {ds : List PyData} (s : SqT K B a xs) (h : DaAll K B xs ds) : Da K B (.ref a) (.tuple ds)
inductive DaAll (K : PySem.W.Frag) (B : Hp) : List V → List PyData → Prop
  | nil : DaAll K B [] []
  | cons {v : V} {d : PyData} {vs : List V} {ds : List PyData} (h : Da K B v d) (t : DaAll K B vs ds) : DaAll K B (v :: vs) (d :: ds)
end
section
variable {K : PySem.W.Frag} {B B' : Hp}
mutual
theorem da_mono (e : Same B B') : ∀ {v : V} {d : PyData}, Da K B v d → Da K B' v d
  | _, _, .non => .non
  | _, _, .bl b => .bl b
  | _, _, .int i => .int i
  | _, _, .str x => .str x
  | _, _, .lst s a => .lst (e _ _ s) (daa_mono e a)
  | _, _, .tup s a => .tup (sm_t e s) (daa_mono e a)
theorem daa_mono (e : Same B B') : ∀ {vs : List V} {ds : List PyData}, DaAll K B vs ds → DaAll K B' vs ds
  | _, _, .nil => .nil
  | _, _, .cons h t => .cons (da_mono e h) (daa_mono e t)
end
mutual
theorem da_dp : ∀ {v : V} {d : PyData}, Da K B v d → Dp K B v d
  | _, _, .non => .non
  | _, _, .bl b => .bl b
  | _, _, .int i => .int i
  | _, _, .str x => .str x
  | _, _, .lst s a => .lst (SqL.of s) (daa_dp a)
  | _, _, .tup s a => .tup s (daa_dp a)
theorem daa_dp : ∀ {vs : List V} {ds : List PyData}, DaAll K B vs ds → DpAll K B vs ds
  | _, _, .nil => .nil
  | _, _, .cons h t => .cons (da_dp h) (daa_dp t)
end
theorem daa_len : ∀ {vs : List V} {ds : List PyData}, DaAll K B vs ds → vs.length = ds.length
  | _, _, .nil => rfl
  | _, _, .cons _ t => congrArg (· + 1) (daa_len t)
theorem daa_get : ∀ {vs : List V} {ds : List PyData} {i : Nat} {d : PyData}, DaAll K B vs ds → ds[i]? = some d → ∃ v, vs[i]? = some v ∧ Da K B v d
  | _, _, _, _, .nil, e => nomatch (show (none : Option PyData) = some _ from e)
  | _, _, 0, _, .cons h _, e => by
    cases (Option.some.inj e)
    exact ⟨_, rfl, h⟩
  | _, _, i + 1, d, .cons _ t, e => daa_get (i := i) (d := d) t e
theorem daa_at : ∀ {vs : List V} {ds : List PyData} {i : Nat} {v : V}, DaAll K B vs ds → vs[i]? = some v → ∃ d, ds[i]? = some d ∧ Da K B v d
  | _, _, _, _, .nil, e => nomatch (show (none : Option V) = some _ from e)
  | _, _, 0, _, .cons h _, e => by
    cases (Option.some.inj e)
    exact ⟨_, rfl, h⟩
  | _, _, i + 1, d, .cons _ t, e => daa_at (i := i) (v := d) t e
theorem daa_app : ∀ {vs ws : List V} {ds es : List PyData}, DaAll K B vs ds → DaAll K B ws es → DaAll K B (vs ++ ws) (ds ++ es)
  | _, _, _, _, .nil, s => s
  | _, _, _, _, .cons h t, s => .cons h (daa_app t s)
theorem daa_take : ∀ {vs : List V} {ds : List PyData} (n : Nat), DaAll K B vs ds → DaAll K B (vs.take n) (ds.take n)
  | _, _, 0, _ => .nil
  | _, _, _ + 1, .nil => .nil
  | _, _, n + 1, .cons h t => .cons h (daa_take n t)
theorem daa_drop : ∀ {vs : List V} {ds : List PyData} (n : Nat), DaAll K B vs ds → DaAll K B (vs.drop n) (ds.drop n)
  | _, _, 0, h => h
  | _, _, _ + 1, .nil => .nil
  | _, _, n + 1, .cons _ t => daa_drop n t
theorem daa_set : ∀ {vs : List V} {ds : List PyData} {v : V} {d : PyData} (i : Nat), DaAll K B vs ds → Da K B v d → DaAll K B (vs.set i v) (ds.set i d)
  | _, _, _, _, _, .nil, _ => .nil
  | _, _, _, _, 0, .cons _ t, h => .cons h t
  | _, _, _, _, i + 1, .cons g t, h => .cons g (daa_set i t h)
end
structure Exc where
  cls : String
  arg : Option PyData
inductive R (α : Type) where
  | ok (a : α)
  | err (e : Exc)
  | bad
namespace R
variable {α β : Type}
def bind (x : R α) (f : α → R β) : R β := match x with
  | .ok a => f a
  | .err e => .err e
  | .bad => .bad
@[simp] theorem bind_ok {a : α} {f : α → R β} : bind (.ok a) f = f a := rfl
@[simp] theorem bind_err {e : Exc} {f : α → R β} : bind (.err e) f = .err e := rfl
@[simp] theorem bind_bad {f : α → R β} : bind .bad f = .bad := rfl
/-- only where c holds -/
def when (c : Prop) [Decidable c] (x : R α) : R α := if c then x else .bad
@[simp] theorem when_pos {c : Prop} [Decidable c] {x : R α} (h : c) : when c x = x := if_pos h
theorem when_neg {c : Prop} [Decidable c] {x : R α} (h : ¬ c) : when c x = .bad := if_neg h
end R
/-- a slot's worth: data that stay, a list of its own, a dict of its own -/
inductive SV where
  | dat (d : PyData)
  | own (ds : List PyData)
  | dic (kvs : List (Key × PyData))
  | scr (ns : List Int)
def SV.mine : SV → Bool
  | .dat _ => false
  | .scr _ => false
  | _ => true
abbrev SS := List (Option SV)
/-- the entry: the heap, what of it stays, the boxes (the first parameters), what errors are to meet -/
structure Ct (K : PySem.W.Frag) (n : Nat) where
  H0 : Hp
  B0 : Hp
  bx : List (Option Addr)
  hbx : bx.length = n
  er : Exc → V → Hp → Prop
section
variable {K : PySem.W.Frag} {n : Nat}
structure Base (C : Ct K n) (H B : Hp) : Prop where
  keep : ∀ a o, some a ∉ C.bx → C.H0 a = some o → H a = some o
  b0 : Same C.B0 B
  bh : Same B H
  fr : ∀ a o, B a = some o → C.B0 a = some o ∨ C.H0 a = none
def DpKs (K : PySem.W.Frag) (B : Hp) (ws : List (Key × V)) (kvs : List (Key × PyData)) : Prop := Paired (fun w k => w.1 = k.1 ∧ Da K B w.2 k.2) ws kvs
def SR (C : Ct K n) (H B : Hp) (v : V) : SV → Prop
  | .scr ns => ∃ a, v = .ref a ∧ SqL K B a (ns.map V.int)
  | .dat d => Da K B v d
  | .own ds => ∃ a vs, v = .ref a ∧ H a = some (.lst vs) ∧ B a = none ∧ DaAll K B vs ds
  | .dic kvs => ∃ a ws, v = .ref a ∧ H a = some (.dK ws) ∧ B a = none ∧ DpKs K B ws kvs
structure Rep (C : Ct K n) (σ : L2.St) (H B : Hp) (S : SS) : Prop where
  base : Base C H B
  len : S.length = σ.length
  slot : ∀ (i : Nat) s, S[i]? = some (some s) → ∃ v, σ[i]? = some (some v) ∧ SR C H B v s
  dis : ∀ (i j : Nat) s u a, S[i]? = some (some s) → S[j]? = some (some u) → s.mine = true → u.mine = true → σ[i]? = some (some (.ref a)) → σ[j]? = some (some (.ref a)) → i = j
  ownf : ∀ (i : Nat) s a, S[i]? = some (some s) → s.mine = true → σ[i]? = some (some (.ref a)) → C.H0 a = none ∨ C.bx[i]? = some (some a)
  box : ∀ (i : Nat) a, C.bx[i]? = some (some a) → σ[i]? = some (some (.ref a)) ∧ ∃ s, S[i]? = some (some s) ∧ s.mine = true
/-- an error goes out -/
def Ct.Out (C : Ct K n) (e : Exc) : Prop := ∀ H B v, Base C H B → (∀ d, e.arg = some d → Da K B v d) → C.er e v H
def Post {α : Type} (C : Ct K n) (x : R α) (k : α → Prop) : Prop := match x with
  | .ok a => k a
  | .err e => C.Out e
  | .bad => False
section
variable {α β : Type} {C : Ct K n} {x : R α} {f : α → R β} {k k' : α → Prop} {g : β → Prop}
theorem post_bind : Post C (x.bind f) g ↔ Post C x fun a => Post C (f a) g := by cases x <;> exact Iff.rfl
theorem Post.mono (h : Post C x k) (m : ∀ a, k a → k' a) : Post C x k' := by
  cases x with
  | ok a => exact m a h
  | err e => exact h
  | bad => exact h
theorem post_when {c : Prop} [Decidable c] : Post C (R.when c x) k ↔ c ∧ Post C x k := by
  by_cases h : c
  · rw [R.when_pos h]
    exact ⟨fun q => ⟨h, q⟩, fun q => q.2⟩
  · rw [R.when_neg h]
    exact ⟨fun q => q.elim, fun q => (h q.1).elim⟩
end
/-! ### judgements: a reading's worth -/
abbrev VE := SS → R (PyData × SS)
abbrev VT := SS → R (Bool × SS)
abbrev VA := SS → R (List PyData × SS)
inductive FL where
  | nx (S : SS) | rt (d : PyData) (S : SS) | bk (S : SS) | ct (S : SS)
abbrev VS := SS → R FL
def SE (C : Ct K n) (t : TE) (f : VE) : Prop := ∀ (σ : L2.St) (H B : Hp) (S : SS) (Q : VK), Rep C σ H B S →
  Post C (f S) (fun p => ∀ v H' B', Rep C σ H' B' p.2 → Same B B' → Da K B' v p.1 → Q v H') → t σ H Q
def ST (C : Ct K n) (t : TT) (f : VT) : Prop := ∀ (σ : L2.St) (H B : Hp) (S : SS) (Q : Bool → Hp → Prop), Rep C σ H B S →
  Post C (f S) (fun p => ∀ H' B', Rep C σ H' B' p.2 → Same B B' → Q p.1 H') → t σ H Q
def SA (C : Ct K n) (t : TA) (f : VA) : Prop := ∀ (σ : L2.St) (H B : Hp) (S : SS) (Q : List V → Hp → Prop), Rep C σ H B S →
  Post C (f S) (fun p => ∀ vs H' B', Rep C σ H' B' p.2 → Same B B' → DaAll K B' vs p.1 → Q vs H') → t σ H Q
def FlPost (C : Ct K n) (B : Hp) (D : Ends) : FL → Prop
  | .nx S' => ∀ σ' H' B', Rep C σ' H' B' S' → Same B B' → D.nx σ' H'
  | .rt d S' => ∀ v σ' H' B', Rep C σ' H' B' S' → Same B B' → Da K B' v d → D.rt v H'
  | .bk S' => ∀ σ' H' B', Rep C σ' H' B' S' → Same B B' → D.bk σ' H'
  | .ct S' => ∀ σ' H' B', Rep C σ' H' B' S' → Same B B' → D.ct σ' H'
def SSt (C : Ct K n) (t : TS) (f : VS) : Prop := ∀ (σ : L2.St) (H B : Hp) (S : SS) (D : Ends), Rep C σ H B S → Post C (f S) (FlPost C B D) → t D σ H
/-! ### the state under changes -/
section
variable {C : Ct K n} {σ : L2.St} {H B : Hp} {S : SS}
theorem Rep.own_at (R : Rep C σ H B S) {i : Nat} {s : SV} (h : S[i]? = some (some s)) (m : s.mine = true) : ∃ a o, σ[i]? = some (some (.ref a)) ∧ H a = some o ∧ B a = none := by
  obtain ⟨v, hv, r⟩ := R.slot i s h
  cases s with
  | dat d => cases m
  | scr ns => cases m
  | own ds =>
    obtain ⟨a, vs, rfl, h1, h2, _⟩ := r
    exact ⟨a, _, hv, h1, h2⟩
  | dic ds =>
    obtain ⟨a, vs, rfl, h1, h2, _⟩ := r
    exact ⟨a, _, hv, h1, h2⟩
theorem Rep.new (R : Rep C σ H B S) {p : Addr} (hp : H p = none) : C.H0 p = none ∧ B p = none ∧ some p ∉ C.bx := by
  have nb : some p ∉ C.bx := fun hb => by
    obtain ⟨i, hi⟩ := List.getElem?_of_mem hb
    obtain ⟨e, s, hs, m⟩ := R.box i p hi
    obtain ⟨a, o, e2, h2, _⟩ := R.own_at hs m
    rw [e] at e2
    cases e2
    rw [hp] at h2
    cases h2
  refine ⟨?_, ?_, nb⟩
  · cases q : C.H0 p with
    | none => rfl
    | some o =>
      rw [R.base.keep p o nb q] at hp
      cases hp
  · cases q : B p with
    | none => rfl
    | some o =>
      rw [R.base.bh p o q] at hp
      cases hp
theorem dpks_mono {B B' : Hp} (e : Same B B') : ∀ {ws : List (Key × V)} {ks : List (Key × PyData)}, DpKs K B ws ks → DpKs K B' ws ks
  | _, _, .nil => .nil
  | _, _, .cons h t => .cons ⟨h.1, da_mono e h.2⟩ (dpks_mono e t)
theorem SR.mono {H' B' : Hp} {v : V} {s : SV} (eB : Same B B') (hh : s.mine = true → ∀ a, v = .ref a → ∀ o, H a = some o → B a = none → H' a = some o ∧ B' a = none) (h : SR C H B v s) : SR C H' B' v s := by
  cases s with
  | dat d => exact da_mono eB h
  | scr ns =>
    obtain ⟨a, e, q⟩ := h
    exact ⟨a, e, sm_l eB q⟩
  | own ds =>
    obtain ⟨a, vs, rfl, h1, h2, h3⟩ := h
    obtain ⟨q1, q2⟩ := hh rfl a rfl _ h1 h2
    exact ⟨a, vs, rfl, q1, q2, daa_mono eB h3⟩
  | dic ds =>
    obtain ⟨a, vs, rfl, h1, h2, h3⟩ := h
    obtain ⟨q1, q2⟩ := hh rfl a rfl _ h1 h2
    exact ⟨a, vs, rfl, q1, q2, dpks_mono eB h3⟩
/-- the heaps grow (or change where nothing of ours stands) -/
theorem Rep.grow {H' B' : Hp} (R : Rep C σ H B S) (b : Base C H' B') (eB : Same B B') (hh : ∀ a o, H a = some o → B a = none → (∃ i : Nat, ∃ s, S[i]? = some (some s) ∧ s.mine = true ∧ σ[i]? = some (some (.ref a))) → H' a = some o ∧ B' a = none) : Rep C σ H' B' S :=
  ⟨b, R.len, fun i s h => by
    obtain ⟨v, hv, r⟩ := R.slot i s h
    exact ⟨v, hv, SR.mono eB (fun m a e o h1 h2 => hh a o h1 h2 ⟨i, s, h, m, by rw [hv, e]⟩) r⟩, R.dis, R.ownf, R.box⟩
/-- a new thing that stays -/
theorem Rep.laid (R : Rep C σ H B S) {p : Addr} {o : HO} (hp : H p = none) : Rep C σ (upd H p o) (upd B p o) S ∧ Same B (upd B p o) := by
  obtain ⟨h0, hb, nb⟩ := R.new hp
  have eB : Same B (upd B p o) := sm_new hb
  refine ⟨R.grow ⟨fun a u n q => ?_, R.base.b0.trans eB, fun a u q => ?_, fun a u q => ?_⟩ eB fun a u h1 h2 _ => ?_, eB⟩
  · rw [upd_ne (ne_of_none q h0)]
    exact R.base.keep a u n q
  · by_cases e : a = p
    · subst e
      rw [upd_same] at q ⊢
      exact q
    · rw [upd_ne e] at q ⊢
      exact R.base.bh a u q
  · by_cases e : a = p
    · subst e
      exact .inr h0
    · rw [upd_ne e] at q
      exact R.base.fr a u q
  · have n := ne_of_none h1 hp
    rw [upd_ne n, upd_ne n]
    exact ⟨h1, h2⟩
/-- a new thing that does not stay (it may be taken by a slot) -/
theorem Rep.loose (R : Rep C σ H B S) {p : Addr} {o : HO} (hp : H p = none) : Rep C σ (upd H p o) B S := by
  obtain ⟨h0, hb, nb⟩ := R.new hp
  refine R.grow ⟨fun a u n q => ?_, R.base.b0, fun a u q => ?_, R.base.fr⟩ (Same.refl _) fun a u h1 h2 _ => ?_
  · rw [upd_ne (ne_of_none q h0)]
    exact R.base.keep a u n q
  · rw [upd_ne (ne_of_none q hb)]
    exact R.base.bh a u q
  · rw [upd_ne (ne_of_none h1 hp)]
    exact ⟨h1, h2⟩
/-- a slot is stored: data -/
theorem Rep.put (R : Rep C σ H B S) {i : Nat} {v : V} {d : PyData} (hb : n ≤ i) (h : Da K B v d) : Rep C (σ.set i (some v)) H B (S.set i (some (.dat d))) := by
  have ne : ∀ j s, (S.set i (some (.dat d)))[j]? = some (some s) → s.mine = true → j ≠ i ∧ S[j]? = some (some s) := fun j s h m => by
    by_cases e : j = i
    · subst e
      have hl : j < S.length := by
        have := (List.getElem?_eq_some_iff.mp h).1
        simpa using this
      rw [List.getElem?_set_self hl] at h
      cases h
      cases m
    · rw [List.getElem?_set_ne (Ne.symm e)] at h
      exact ⟨e, h⟩
  refine ⟨R.base, by simp [R.len], fun j s h2 => ?_, fun j k s u a h1 h2 m1 m2 e1 e2 => ?_, fun j s a h1 m e => ?_, fun j a h1 => ?_⟩
  · by_cases e : j = i
    · subst e
      have hl : j < S.length := by
        have := (List.getElem?_eq_some_iff.mp h2).1
        simpa using this
      rw [List.getElem?_set_self hl] at h2
      cases h2
      exact ⟨v, List.getElem?_set_self (by rw [← R.len]; exact hl), h⟩
    · rw [List.getElem?_set_ne (Ne.symm e)] at h2 ⊢
      exact R.slot j s h2
  · obtain ⟨n1, q1⟩ := ne j s h1 m1
    obtain ⟨n2, q2⟩ := ne k u h2 m2
    rw [List.getElem?_set_ne (Ne.symm n1)] at e1
    rw [List.getElem?_set_ne (Ne.symm n2)] at e2
    exact R.dis j k s u a q1 q2 m1 m2 e1 e2
  · obtain ⟨n1, q1⟩ := ne j s h1 m
    rw [List.getElem?_set_ne (Ne.symm n1)] at e
    exact R.ownf j s a q1 m e
  · have n1 : j ≠ i := by
      have := (List.getElem?_eq_some_iff.mp h1).1
      have := C.hbx
      omega
    rw [List.getElem?_set_ne (Ne.symm n1), List.getElem?_set_ne (Ne.symm n1)]
    exact R.box j a h1
/-- a slot takes a new list or dict -/
theorem Rep.take (R : Rep C σ H B S) {i : Nat} {p : Addr} {s : SV} (hb : n ≤ i) (m : s.mine = true) (h : SR C H B (.ref p) s) (h0 : C.H0 p = none)
    (hf : ∀ (j : Nat) u, S[j]? = some (some u) → u.mine = true → σ[j]? ≠ some (some (.ref p))) : Rep C (σ.set i (some (.ref p))) H B (S.set i (some s)) := by
  have at_ : ∀ j u, (S.set i (some s))[j]? = some (some u) → (j = i ∧ u = s ∧ (σ.set i (some (.ref p)))[j]? = some (some (.ref p))) ∨ (j ≠ i ∧ S[j]? = some (some u) ∧ (σ.set i (some (.ref p)))[j]? = σ[j]?) := fun j u h => by
    by_cases e : j = i
    · subst e
      have hl : j < S.length := by
        have := (List.getElem?_eq_some_iff.mp h).1
        simpa using this
      rw [List.getElem?_set_self hl] at h
      cases h
      exact .inl ⟨rfl, rfl, List.getElem?_set_self (by rw [← R.len]; exact hl)⟩
    · rw [List.getElem?_set_ne (Ne.symm e)] at h
      exact .inr ⟨e, h, List.getElem?_set_ne (Ne.symm e)⟩
  refine ⟨R.base, by simp [R.len], fun j u h2 => ?_, fun j k u w a h1 h2 m1 m2 e1 e2 => ?_, fun j u a h1 m e => ?_, fun j a h1 => ?_⟩
  · rcases at_ j u h2 with ⟨e, e2, e3⟩ | ⟨n, q, e3⟩
    · subst e2
      exact ⟨_, e3, h⟩
    · rw [e3]
      exact R.slot j u q
  · rcases at_ j u h1 with ⟨x1, x2, x3⟩ | ⟨x1, x2, x3⟩
    · rcases at_ k w h2 with ⟨y1, y2, y3⟩ | ⟨y1, y2, y3⟩
      · rw [x1, y1]
      · rw [x3] at e1
        cases e1
        rw [y3] at e2
        exact absurd e2 (hf k w y2 m2)
    · rcases at_ k w h2 with ⟨y1, y2, y3⟩ | ⟨y1, y2, y3⟩
      · rw [y3] at e2
        cases e2
        rw [x3] at e1
        exact absurd e1 (hf j u x2 m1)
      · rw [x3] at e1
        rw [y3] at e2
        exact R.dis j k u w a x2 y2 m1 m2 e1 e2
  · rcases at_ j u h1 with ⟨x1, x2, x3⟩ | ⟨x1, x2, x3⟩
    · rw [x3] at e
      cases e
      exact .inl h0
    · rw [x3] at e
      exact R.ownf j u a x2 m e
  · have n1 : j ≠ i := by
      have := (List.getElem?_eq_some_iff.mp h1).1
      have := C.hbx
      omega
    rw [List.getElem?_set_ne (Ne.symm n1), List.getElem?_set_ne (Ne.symm n1)]
    exact R.box j a h1
/-- a list or dict of a slot is changed -/
theorem Rep.write (R : Rep C σ H B S) {i : Nat} {a : Addr} {s s' : SV} {o : HO} (h : S[i]? = some (some s)) (m : s.mine = true) (m' : s'.mine = true) (hv : σ[i]? = some (some (.ref a))) (r : SR C (upd H a o) B (.ref a) s') :
    Rep C σ (upd H a o) B (S.set i (some s')) := by
  obtain ⟨a', o', e1, e2, e3⟩ := R.own_at h m
  rw [hv] at e1
  cases e1
  have hl : i < S.length := (List.getElem?_eq_some_iff.mp h).1
  have at_ : ∀ j u, (S.set i (some s'))[j]? = some (some u) → (j = i ∧ u = s') ∨ (j ≠ i ∧ S[j]? = some (some u)) := fun j u h => by
    by_cases e : j = i
    · subst e
      rw [List.getElem?_set_self hl] at h
      cases h
      exact .inl ⟨rfl, rfl⟩
    · rw [List.getElem?_set_ne (Ne.symm e)] at h
      exact .inr ⟨e, h⟩
  have old : ∀ (j : Nat) (u : SV), (S.set i (some s'))[j]? = some (some u) → u.mine = true → ∃ u' : SV, S[j]? = some (some u') ∧ u'.mine = true := fun j u h2 m2 => by
    rcases at_ j u h2 with ⟨x1, x2⟩ | ⟨x1, x2⟩
    · subst x1
      exact ⟨s, h, m⟩
    · exact ⟨u, x2, m2⟩
  refine ⟨⟨fun b u n q => ?_, R.base.b0, fun b u q => ?_, R.base.fr⟩, by simp [R.len], fun j u h2 => ?_, fun j k u w b h1 h2 m1 m2 q1 q2 => ?_, fun j u b h1 m e => ?_, fun j b h1 => ?_⟩
  · have : b ≠ a := by
      rintro rfl
      rcases R.ownf i s b h m hv with z | z
      · rw [z] at q
        cases q
      · exact n (List.mem_of_getElem? z)
    rw [upd_ne this]
    exact R.base.keep b u n q
  · rw [upd_ne (ne_of_none q e3)]
    exact R.base.bh b u q
  · rcases at_ j u h2 with ⟨x1, x2⟩ | ⟨x1, x2⟩
    · subst x1 x2
      exact ⟨_, hv, r⟩
    · obtain ⟨v, q1, q2⟩ := R.slot j u x2
      refine ⟨v, q1, SR.mono (Same.refl _) (fun mu b e ob h1 h2 => ⟨?_, h2⟩) q2⟩
      rw [upd_ne]
      · exact h1
      · rintro rfl
        exact x1 (R.dis j i u s b x2 h mu m (by rw [q1, e]) hv)
  · obtain ⟨u', z1, z2⟩ := old j u h1 m1
    obtain ⟨w', z3, z4⟩ := old k w h2 m2
    exact R.dis j k u' w' b z1 z3 z2 z4 q1 q2
  · obtain ⟨u', z1, z2⟩ := old j u h1 m
    exact R.ownf j u' b z1 z2 e
  · obtain ⟨q1, u, q2, q3⟩ := R.box j b h1
    refine ⟨q1, ?_⟩
    by_cases e : j = i
    · subst e
      exact ⟨s', List.getElem?_set_self hl, m'⟩
    · rw [List.getElem?_set_ne (Ne.symm e)]
      exact ⟨u, q2, q3⟩
/-- a list of a slot stays from here on -/
theorem Rep.rest (R : Rep C σ H B S) {i : Nat} {ds : List PyData} (hb : n ≤ i) (h : S[i]? = some (some (.own ds))) : ∃ B', Rep C σ H B' (S.set i (some (.dat (.list ds)))) ∧ Same B B' := by
  obtain ⟨v, hv, a, vs, rfl, h1, h2, h3⟩ := R.slot i _ h
  have hl : i < S.length := (List.getElem?_eq_some_iff.mp h).1
  have eB : Same B (upd B a (.lst vs)) := sm_new h2
  refine ⟨upd B a (.lst vs), ⟨⟨R.base.keep, R.base.b0.trans eB, fun b o q => ?_, fun b o q => ?_⟩, by simp [R.len], fun j s hj => ?_, fun j k s u b q1 q2 m1 m2 e1 e2 => ?_, fun j s b q m e => ?_, fun j b q => ?_⟩, eB⟩
  · by_cases e : b = a
    · subst e
      rw [upd_same] at q
      cases q
      exact h1
    · rw [upd_ne e] at q
      exact R.base.bh b o q
  · by_cases e : b = a
    · subst e
      rcases R.ownf i _ b h rfl hv with z | z
      · exact .inr z
      · have := (List.getElem?_eq_some_iff.mp z).1
        have := C.hbx
        omega
    · rw [upd_ne e] at q
      exact R.base.fr b o q
  · by_cases e : j = i
    · subst e
      rw [List.getElem?_set_self hl] at hj
      cases hj
      exact ⟨_, hv, .lst (upd_same) (daa_mono eB h3)⟩
    · rw [List.getElem?_set_ne (Ne.symm e)] at hj
      obtain ⟨v, q1, q2⟩ := R.slot j s hj
      refine ⟨v, q1, SR.mono eB (fun mu b e2 ob z1 z2 => ⟨z1, ?_⟩) q2⟩
      rw [upd_ne]
      · exact z2
      · rintro rfl
        exact e (R.dis j i s _ b hj h mu rfl (by rw [q1, e2]) hv)
  · have n1 : j ≠ i := fun e => by
      subst e
      rw [List.getElem?_set_self hl] at q1
      cases q1
      cases m1
    have n2 : k ≠ i := fun e => by
      subst e
      rw [List.getElem?_set_self hl] at q2
      cases q2
      cases m2
    rw [List.getElem?_set_ne (Ne.symm n1)] at q1
    rw [List.getElem?_set_ne (Ne.symm n2)] at q2
    exact R.dis j k s u b q1 q2 m1 m2 e1 e2
  · have n1 : j ≠ i := fun e => by
      subst e
      rw [List.getElem?_set_self hl] at q
      cases q
      cases m
    rw [List.getElem?_set_ne (Ne.symm n1)] at q
    exact R.ownf j s b q m e
  · have n1 : j ≠ i := by
      have := (List.getElem?_eq_some_iff.mp q).1
      have := C.hbx
      omega
    obtain ⟨q1, u, q2, q3⟩ := R.box j b q
    exact ⟨q1, u, by rw [List.getElem?_set_ne (Ne.symm n1)]; exact q2, q3⟩
end
end
end Bo

/-! ### expressions -/
namespace Bo
open PySem L2
section
variable {K : PySem.W.Frag} {n : Nat} {C : Ct K n} {σ : L2.St} {H B : Hp} {S : SS}
/-! names, constants -/
def vVar (i : Nat) : VE := fun S => match S[i]? with
  | some (some (.dat d)) => .ok (d, S)
  | _ => .bad
theorem s_var {i : Nat} : SE C (tVar i) (vVar i) := by
  intro σ H B S Q R h
  unfold vVar at h
  split at h
  · rename_i d e
    obtain ⟨v, hv, r⟩ := R.slot i _ e
    exact ⟨v, hv, h v H B R (Same.refl _) r⟩
  · exact h.elim
def vC (d : PyData) : VE := fun S => .ok (d, S)
theorem s_int {m : Int} : SE C (tC (.int m)) (vC (.int m)) := fun _ H B _ _ R h => h _ H B R (Same.refl _) (.int m)
theorem s_bl {b : Bool} : SE C (tC (.bl b)) (vC (.bool b)) := fun _ H B _ _ R h => h _ H B R (Same.refl _) (.bl b)
theorem s_str {x : Str} : SE C (tC (.str x)) (vC (.str x)) := fun _ H B _ _ R h => h _ H B R (Same.refl _) (.str x)
theorem s_non : SE C (tC .non) (vC .none) := fun _ H B _ _ R h => h _ H B R (Same.refl _) .non
/-! operators -/
def SR2 (C : Ct K n) (r : R2) (g : PyData → PyData → R PyData) : Prop := ∀ (σ : L2.St) (H B : Hp) (S : SS) (x y : V) (d e : PyData) (Q : VK), Rep C σ H B S → Da K B x d → Da K B y e →
  Post C (g d e) (fun z => ∀ v H' B', Rep C σ H' B' S → Same B B' → Da K B' v z → Q v H') → r x y H Q
def vOp (g : PyData → PyData → R PyData) (fa fb : VE) : VE := fun S => (fa S).bind fun p => (fb p.2).bind fun q => (g p.1 q.1).bind fun z => .ok (z, q.2)
theorem s_op {r : R2} {g : PyData → PyData → R PyData} {ta tb : TE} {fa fb : VE} (hr : SR2 C r g) (ha : SE C ta fa) (hb : SE C tb fb) : SE C (tOp r ta tb) (vOp g fa fb) := by
  intro σ H B S Q R h
  unfold vOp at h
  rw [post_bind] at h
  refine ha σ H B S _ R (h.mono fun p h1 v H1 B1 R1 e1 d1 => ?_)
  rw [post_bind] at h1
  refine hb σ H1 B1 p.2 _ R1 (h1.mono fun q h2 w H2 B2 R2 e2 d2 => ?_)
  rw [post_bind] at h2
  exact hr σ H2 B2 q.2 v w p.1 q.1 Q R2 (da_mono e2 d1) d2 (h2.mono fun z h3 u H3 B3 R3 e3 d3 => h3 u H3 B3 R3 (e1.trans (e2.trans e3)) d3)
def gI (f : Int → Int → Int) : PyData → PyData → R PyData
  | .int i, .int j => .ok (.int (f i j))
  | _, _ => .bad
def gIC (c : Int → Int → Bool) (f : Int → Int → Int) : PyData → PyData → R PyData
  | .int i, .int j => R.when (c i j = true) (.ok (.int (f i j)))
  | _, _ => .bad
def gIB (f : Int → Int → Bool) : PyData → PyData → R PyData
  | .int i, .int j => .ok (.bool (f i j))
  | _, _ => .bad
theorem o_i0 {f : Int → Int → Int} : SR2 C (rI0 fun i j => .int (f i j)) (gI f) := by
  intro σ H B S x y d e Q R h1 h2 h
  cases h1 <;> cases h2 <;> first | exact h.elim | exact ⟨_, _, rfl, rfl, h _ H B R (Same.refl _) (.int _)⟩
theorem o_ib {f : Int → Int → Bool} : SR2 C (rI0 fun i j => .bl (f i j)) (gIB f) := by
  intro σ H B S x y d e Q R h1 h2 h
  cases h1 <;> cases h2 <;> first | exact h.elim | exact ⟨_, _, rfl, rfl, h _ H B R (Same.refl _) (.bl _)⟩
theorem o_ic {c : Int → Int → Bool} {p : Int → Int → Prop} {f : Int → Int → Int} (hc : ∀ i j, c i j = true → p i j) : SR2 C (rI p fun i j => .int (f i j)) (gIC c f) := by
  intro σ H B S x y d e Q R h1 h2 h
  cases h1 <;> cases h2 <;> first
    | exact h.elim
    | (obtain ⟨k, h⟩ := post_when.mp h
       exact ⟨_, _, rfl, rfl, hc _ _ k, h _ H B R (Same.refl _) (.int _)⟩)
/-- a product, neither factor too long -/
def cMul (i j : Int) : Bool := decide (i.natAbs < 2 ^ 400000 ∧ j.natAbs < 2 ^ 400000)
def cFdiv (_ j : Int) : Bool := decide (j ≠ 0 ∧ j.natAbs < 2 ^ 8999)
def cMod (_ j : Int) : Bool := decide (j ≠ 0)
theorem lg_lt {m k : Nat} (h : m < 2 ^ k) (hk : 0 < k) : m.log2 < k := by
  by_cases e : m = 0
  · subst e
    exact hk
  · exact (Nat.log2_lt e).mpr h
theorem o_mul : SR2 C (rI CMulW fun i j => .int (i * j)) (gIC cMul fun i j => i * j) := o_ic fun i j h => by
  obtain ⟨h1, h2⟩ := of_decide_eq_true h
  have := lg_lt h1 (by decide)
  have := lg_lt h2 (by decide)
  unfold CMulW
  omega
theorem o_fdiv : SR2 C (rI CDivX fun i j => .int (i.fdiv j)) (gIC cFdiv Int.fdiv) := o_ic fun i j h => by
  obtain ⟨h1, h2⟩ := of_decide_eq_true h
  exact ⟨h1, Nat.lt_trans (lg_lt h2 (by decide)) (by decide)⟩
theorem o_mod : SR2 C (rI (fun _ j => j ≠ 0) fun i j => .int (i.fmod j)) (gIC cMod Int.fmod) := o_ic fun i j h => of_decide_eq_true h
/-- == of plain values -/
def eqF : PyData → PyData → Option Bool
  | .int i, .int j => some (decide (i = j))
  | .bool i, .bool j => some (decide (i = j))
  | .str i, .str j => some (decide (i = j))
  | .none, .none => some true
  | .none, .int _ => some false
  | .int _, .none => some false
  | .none, .bool _ => some false
  | .bool _, .none => some false
  | .none, .str _ => some false
  | .str _, .none => some false
  | .int _, .str _ => some false
  | .str _, .int _ => some false
  | .bool _, .str _ => some false
  | .str _, .bool _ => some false
  | _, _ => none
def gEq (d e : PyData) : R PyData := match eqF d e with
  | some b => .ok (.bool b)
  | none => .bad
def gNe (d e : PyData) : R PyData := match eqF d e with
  | some b => .ok (.bool (!b))
  | none => .bad
theorem eqF_ok {x y : V} {d e : PyData} {b : Bool} (h1 : Da K B x d) (h2 : Da K B y e) (h : eqF d e = some b) : scal x y = true ∧ decide (x = y) = b := by
  cases h1 <;> cases h2 <;> first
    | (cases h; done)
    | (cases (Option.some.inj h); exact ⟨rfl, by simp⟩)
theorem o_eq : SR2 C rEq gEq := by
  intro σ H B S x y d e Q R h1 h2 h
  unfold gEq at h
  split at h
  · rename_i b q
    obtain ⟨k, k2⟩ := eqF_ok h1 h2 q
    exact ⟨k, by rw [k2]; exact h _ H B R (Same.refl _) (.bl _)⟩
  · exact h.elim
theorem o_ne : SR2 C rNe gNe := by
  intro σ H B S x y d e Q R h1 h2 h
  unfold gNe at h
  split at h
  · rename_i b q
    obtain ⟨k, k2⟩ := eqF_ok h1 h2 q
    exact ⟨k, by rw [k2]; exact h _ H B R (Same.refl _) (.bl _)⟩
  · exact h.elim
def isNone : PyData → Bool
  | .none => true
  | _ => false
theorem o_isN : SR2 C (fun x y H Q => y = .non ∧ Q (.bl (decide (x = .non))) H) (fun d e => R.when (isNone e = true) (.ok (.bool (isNone d)))) := by
  intro σ H B S x y d e Q R h1 h2 h
  obtain ⟨k, h⟩ := post_when.mp h
  cases h2 <;> first | (cases k; done) | skip
  refine ⟨rfl, ?_⟩
  have q : decide (x = V.non) = isNone d := by cases h1 <;> simp [isNone]
  rw [q]
  exact h _ H B R (Same.refl _) (.bl _)
theorem o_notN : SR2 C (fun x y H Q => y = .non ∧ Q (.bl (!decide (x = .non))) H) (fun d e => R.when (isNone e = true) (.ok (.bool (!isNone d)))) := by
  intro σ H B S x y d e Q R h1 h2 h
  obtain ⟨k, h⟩ := post_when.mp h
  cases h2 <;> first | (cases k; done) | skip
  refine ⟨rfl, ?_⟩
  have q : decide (x = V.non) = isNone d := by cases h1 <;> simp [isNone]
  rw [q]
  exact h _ H B R (Same.refl _) (.bl _)
/-- == of deep data -/
def gEqD (d e : PyData) : R PyData := R.when (SeqAt.shaped d = true ∧ SeqAt.shaped e = true) (.ok (.bool (PyData.eqv d e)))
def gNeD (d e : PyData) : R PyData := R.when (SeqAt.shaped d = true ∧ SeqAt.shaped e = true) (.ok (.bool (!PyData.eqv d e)))
/-- x in a sequence of plain values -/
def flatD : PyData → Bool
  | .none => true
  | .bool _ => true
  | .int _ => true
  | .str _ => true
  | _ => false
def eqP : PyData → PyData → Bool
  | .int i, .int j => decide (i = j)
  | .bool i, .bool j => decide (i = j)
  | .str i, .str j => decide (i = j)
  | .none, .none => true
  | .int i, .bool b => decide (i = if b then 1 else 0)
  | .bool b, .int i => decide ((if b then 1 else 0) = i)
  | _, _ => false
def inD (d : PyData) (ds : List PyData) : Bool := ds.any fun e => eqP e d
def itemsD : PyData → Option (List PyData)
  | .list ds => some ds
  | .tuple ds => some ds
  | _ => none
def gIn (neg : Bool) (d e : PyData) : R PyData := match itemsD e with
  | some ds => R.when (flatD d = true ∧ ds.all flatD = true) (.ok (.bool (if neg then !inD d ds else inD d ds)))
  | none => .bad
theorem seq_of {y : V} {e : PyData} {ds : List PyData} (h : Da K B y e) (q : itemsD e = some ds) : ∃ p xs, y = .ref p ∧ (SqL K B p xs ∨ SqT K B p xs) ∧ DaAll K B xs ds := by
  cases h with
  | lst s a => cases (Option.some.inj q); exact ⟨_, _, rfl, .inl (SqL.of s), a⟩
  | tup s a => cases (Option.some.inj q); exact ⟨_, _, rfl, .inr s, a⟩
  | non => exact nomatch q
  | bl b => exact nomatch q
  | int i => exact nomatch q
  | str x => exact nomatch q
theorem seq_up {H : Hp} {p : Addr} {xs : List V} (e : Same B H) (h : SqL K B p xs ∨ SqT K B p xs) : SqL K H p xs ∨ SqT K H p xs := h.imp (sm_l e) (sm_t e)
/-- an item -/
def ixD (ds : List PyData) (i : Int) : R PyData := match atI ds i with
  | some d => .ok d
  | none => .bad
def gIxL : PyData → PyData → R PyData
  | .list ds, .int i => ixD ds i
  | _, _ => .bad
def gIxT : PyData → PyData → R PyData
  | .tuple ds, .int i => ixD ds i
  | _, _ => .bad
theorem at_da {xs : List V} {ds : List PyData} {i : Int} {d : PyData} (a : DaAll K B xs ds) (h : atI ds i = some d) : ∃ v, atI xs i = some v ∧ Da K B v d := by
  unfold atI at h ⊢
  rw [daa_len a]
  cases e : ixN ds.length i with
  | none => rw [e] at h; exact nomatch h
  | some j =>
    rw [e] at h
    exact daa_get a h
theorem o_ixL : SR2 C (rIxL K) gIxL := by
  intro σ H B S x y d e Q R h1 h2 h
  cases h1 with
  | lst s a =>
    cases h2 with
    | int i =>
      unfold gIxL ixD at h
      simp only at h
      split at h
      · rename_i z q
        obtain ⟨v, hv, dv⟩ := at_da a q
        exact ⟨_, _, _, v, rfl, rfl, SqL.of (R.base.bh _ _ s), hv, h v H B R (Same.refl _) dv⟩
      · exact h.elim
    | _ => exact h.elim
  | _ => exact h.elim
theorem o_ixT : SR2 C (rIxT K) gIxT := by
  intro σ H B S x y d e Q R h1 h2 h
  cases h1 with
  | tup s a =>
    cases h2 with
    | int i =>
      unfold gIxT ixD at h
      simp only at h
      split at h
      · rename_i z q
        obtain ⟨v, hv, dv⟩ := at_da a q
        exact ⟨_, _, _, v, rfl, rfl, sm_t R.base.bh s, hv, h v H B R (Same.refl _) dv⟩
      · exact h.elim
    | _ => exact h.elim
  | _ => exact h.elim
/-- + of lists, of tuples -/
def gCat : PyData → PyData → R PyData
  | .list ds, .list es => R.when (ds.length + es.length ≤ 100000) (.ok (.list (ds ++ es)))
  | _, _ => .bad
def gCatT : PyData → PyData → R PyData
  | .tuple ds, .tuple es => R.when (ds.length + es.length ≤ 100000) (.ok (.tuple (ds ++ es)))
  | _, _ => .bad
theorem line_le {m : Nat} (h : m ≤ 100000) : m ≤ sizeLine := Nat.le_trans h (by decide)
/-- a new list, a new tuple that stays -/
theorem Rep.lst (R : Rep C σ H B S) {p : Addr} {xs : List V} {ds : List PyData} (hp : H p = none) (a : DaAll K B xs ds) : ∃ B', Rep C σ (upd H p (.lst xs)) B' S ∧ Same B B' ∧ Da K B' (.ref p) (.list ds) := by
  obtain ⟨R1, e⟩ := R.laid (o := .lst xs) hp
  exact ⟨_, R1, e, .lst upd_same (daa_mono e a)⟩
theorem Rep.tup (R : Rep C σ H B S) {p : Addr} {xs : List V} {ds : List PyData} (hp : H p = none) (a : DaAll K B xs ds) : ∃ B', Rep C σ (upd H p (.tup xs)) B' S ∧ Same B B' ∧ Da K B' (.ref p) (.tuple ds) := by
  obtain ⟨R1, e⟩ := R.laid (o := .tup xs) hp
  exact ⟨_, R1, e, .tup (SqT.of upd_same) (daa_mono e a)⟩
theorem o_cat : SR2 C rCat gCat := by
  intro σ H B S x y d e Q R h1 h2 h
  cases h1 with
  | lst s a =>
    cases h2 with
    | lst s2 a2 =>
      obtain ⟨k, h⟩ := post_when.mp h
      refine ⟨_, _, _, _, rfl, rfl, R.base.bh _ _ s, R.base.bh _ _ s2, line_le (by rw [daa_len a, daa_len a2]; exact k), fun p hp => ?_⟩
      obtain ⟨B', R1, e1, d1⟩ := R.lst hp (daa_app a a2)
      exact h _ _ B' R1 e1 d1
    | _ => exact h.elim
  | _ => exact h.elim
theorem o_catT : SR2 C (rCatA K) gCatT := by
  intro σ H B S x y d e Q R h1 h2 h
  cases h1 with
  | tup s a =>
    cases h2 with
    | tup s2 a2 =>
      obtain ⟨k, h⟩ := post_when.mp h
      have l1 := daa_len a
      have l2 := daa_len a2
      refine ⟨_, _, _, _, rfl, rfl, sm_t R.base.bh s, sm_t R.base.bh s2, line_le (by rw [l1, l2]; exact k), fun e => ?_, fun _ e => ?_, fun _ _ p hp => ?_⟩
      · subst e
        cases a
        exact h _ H B R (Same.refl _) (.tup s2 a2)
      · subst e
        cases a2
        refine h _ H B R (Same.refl _) (.tup s ?_)
        rw [List.append_nil]
        exact a
      · obtain ⟨B', R1, e1, d1⟩ := R.tup hp (daa_app a a2)
        exact h _ _ B' R1 e1 d1
    | _ => exact h.elim
  | _ => exact h.elim
def gCatS : PyData → PyData → R PyData
  | .str x, .str y => R.when (x.length + y.length ≤ 100000) (.ok (.str (x ++ y)))
  | _, _ => .bad
theorem o_catS : SR2 C (fun x y H Q => ∃ i j, x = .str i ∧ y = .str j ∧ i.length + j.length ≤ sizeLine ∧ Q (.str (i ++ j)) H) gCatS := by
  intro σ H B S x y d e Q R h1 h2 h
  cases h1 <;> cases h2 <;> first
    | exact h.elim
    | (obtain ⟨k, h⟩ := post_when.mp h
       exact ⟨_, _, rfl, rfl, line_le k, h _ H B R (Same.refl _) (.str _)⟩)
/-! one-place operators -/
def vUn (g : PyData → R PyData) (fa : VE) : VE := fun S => (fa S).bind fun p => (g p.1).bind fun z => .ok (z, p.2)
def gNeg : PyData → R PyData
  | .int i => .ok (.int (-i))
  | _ => .bad
theorem s_neg {ta : TE} {fa : VE} (ha : SE C ta fa) : SE C (tUn (rU fun i => .int (-i)) ta) (vUn gNeg fa) := by
  intro σ H B S Q R h
  unfold vUn at h
  rw [post_bind] at h
  refine ha σ H B S _ R (h.mono fun p h1 v H1 B1 R1 e1 d1 => ?_)
  rw [post_bind] at h1
  generalize p.1 = d at d1 h1
  cases d1 <;> first | exact h1.elim | exact ⟨_, rfl, h1 _ H1 B1 R1 e1 (.int _)⟩
/-! bools -/
def toB : PyData → R Bool
  | .bool b => .ok b
  | _ => .bad
theorem bl_of {v : V} {d : PyData} {k : Bool → Prop} (h : Da K B v d) (q : Post C (toB d) k) : ∃ b, v = .bl b ∧ d = .bool b ∧ k b := by
  cases h <;> first | exact q.elim | exact ⟨_, rfl, rfl, q⟩
def vAnd (fa fb : VE) : VE := fun S => (fa S).bind fun p => (toB p.1).bind fun b => if b = true then fb p.2 else .ok (.bool false, p.2)
def vOr (fa fb : VE) : VE := fun S => (fa S).bind fun p => (toB p.1).bind fun b => if b = true then .ok (.bool true, p.2) else fb p.2
def vNot (fa : VE) : VE := fun S => (fa S).bind fun p => (toB p.1).bind fun b => .ok (.bool (!b), p.2)
theorem s_andV {ta tb : TE} {fa fb : VE} (ha : SE C ta fa) (hb : SE C tb fb) : SE C (tAndV ta tb) (vAnd fa fb) := by
  intro σ H B S Q R h
  unfold vAnd at h
  rw [post_bind] at h
  refine ha σ H B S _ R (h.mono fun p h1 v H1 B1 R1 e1 d1 => ?_)
  rw [post_bind] at h1
  obtain ⟨b, rfl, _, h1⟩ := bl_of d1 h1
  refine ⟨b, rfl, ?_⟩
  cases b with
  | true => exact hb σ H1 B1 p.2 Q R1 (h1.mono fun q h2 w H2 B2 R2 e2 d2 => h2 w H2 B2 R2 (e1.trans e2) d2)
  | false => exact h1 _ H1 B1 R1 e1 (.bl _)
theorem s_orV {ta tb : TE} {fa fb : VE} (ha : SE C ta fa) (hb : SE C tb fb) : SE C (tOrV ta tb) (vOr fa fb) := by
  intro σ H B S Q R h
  unfold vOr at h
  rw [post_bind] at h
  refine ha σ H B S _ R (h.mono fun p h1 v H1 B1 R1 e1 d1 => ?_)
  rw [post_bind] at h1
  obtain ⟨b, rfl, _, h1⟩ := bl_of d1 h1
  refine ⟨b, rfl, ?_⟩
  cases b with
  | false => exact hb σ H1 B1 p.2 Q R1 (h1.mono fun q h2 w H2 B2 R2 e2 d2 => h2 w H2 B2 R2 (e1.trans e2) d2)
  | true => exact h1 _ H1 B1 R1 e1 (.bl _)
/-! tests -/
def vTst (fa : VE) : VT := fun S => (fa S).bind fun p => (toB p.1).bind fun b => .ok (b, p.2)
theorem s_tst {ta : TE} {fa : VE} (ha : SE C ta fa) : ST C (tTest ta) (vTst fa) := by
  intro σ H B S Q R h
  unfold vTst at h
  rw [post_bind] at h
  refine ha σ H B S _ R (h.mono fun p h1 v H1 B1 R1 e1 d1 => ?_)
  rw [post_bind] at h1
  obtain ⟨b, rfl, _, h1⟩ := bl_of d1 h1
  exact ⟨b, rfl, h1 H1 B1 R1 e1⟩
theorem s_tB {ta : TE} {fa : VE} (ha : SE C ta fa) : ST C (tB ta) (vTst fa) := s_tst ha
def tNotF (fa : VT) : VT := fun S => (fa S).bind fun p => .ok (!p.1, p.2)
theorem s_not {ta : TT} {fa : VT} (ha : ST C ta fa) : ST C (tNot ta) (tNotF fa) := by
  intro σ H B S Q R h
  unfold tNotF at h
  rw [post_bind] at h
  exact ha σ H B S _ R (h.mono fun p h1 H1 B1 R1 e1 => h1 H1 B1 R1 e1)
def tAndF (fa fb : VT) : VT := fun S => (fa S).bind fun p => if p.1 = true then fb p.2 else .ok (false, p.2)
def tOrF (fa fb : VT) : VT := fun S => (fa S).bind fun p => if p.1 = true then .ok (true, p.2) else fb p.2
theorem s_and {ta tb : TT} {fa fb : VT} (ha : ST C ta fa) (hb : ST C tb fb) : ST C (tAnd ta tb) (tAndF fa fb) := by
  intro σ H B S Q R h
  unfold tAndF at h
  rw [post_bind] at h
  refine ha σ H B S _ R (h.mono fun p h1 H1 B1 R1 e1 => ?_)
  obtain ⟨c, S1⟩ := p
  cases c with
  | true => exact hb σ H1 B1 S1 Q R1 (Post.mono h1 fun q h2 H2 B2 R2 e2 => h2 H2 B2 R2 (e1.trans e2))
  | false => exact h1 H1 B1 R1 e1
theorem s_or {ta tb : TT} {fa fb : VT} (ha : ST C ta fa) (hb : ST C tb fb) : ST C (tOr ta tb) (tOrF fa fb) := by
  intro σ H B S Q R h
  unfold tOrF at h
  rw [post_bind] at h
  refine ha σ H B S _ R (h.mono fun p h1 H1 B1 R1 e1 => ?_)
  obtain ⟨c, S1⟩ := p
  cases c with
  | false => exact hb σ H1 B1 S1 Q R1 (Post.mono h1 fun q h2 H2 B2 R2 e2 => h2 H2 B2 R2 (e1.trans e2))
  | true => exact h1 H1 B1 R1 e1
/-- by truth -/
def truD : PyData → R Bool
  | .none => .ok false
  | .bool b => .ok b
  | .int i => .ok (i != 0)
  | .str x => R.when (x.length ≤ 100000) (.ok ((x.length : Int) != 0))
  | .list ds => .ok (!ds.isEmpty)
  | .tuple ds => .ok (!ds.isEmpty)
  | _ => .bad
def vTru (fa : VE) : VT := fun S => (fa S).bind fun p => (truD p.1).bind fun b => .ok (b, p.2)
/-! x if c else y -/
def vIf (fc : VT) (fa fb : VE) : VE := fun S => (fc S).bind fun p => if p.1 = true then fa p.2 else fb p.2
/-! a < b < c -/
def vChain (g g' : PyData → PyData → R PyData) (fa fb fc : VE) : VE := fun S => (fa S).bind fun p => (fb p.2).bind fun q => (g p.1 q.1).bind fun z => (toB z).bind fun b =>
  if b = true then (fc q.2).bind fun r => (g' q.1 r.1).bind fun z => .ok (z, r.2) else .ok (.bool false, q.2)
theorem s_chain {r r' : R2} {g g' : PyData → PyData → R PyData} {ta tb tc : TE} {fa fb fc : VE} (hr : SR2 C r g) (hr' : SR2 C r' g') (ha : SE C ta fa) (hb : SE C tb fb) (hc : SE C tc fc) : SE C (tChain r r' ta tb tc) (vChain g g' fa fb fc) := by
  intro σ H B S Q R h
  unfold vChain at h
  rw [post_bind] at h
  refine ha σ H B S _ R (h.mono fun p h1 v H1 B1 R1 e1 d1 => ?_)
  rw [post_bind] at h1
  refine hb σ H1 B1 p.2 _ R1 (h1.mono fun q h2 w H2 B2 R2 e2 d2 => ?_)
  rw [post_bind] at h2
  refine hr σ H2 B2 q.2 v w p.1 q.1 _ R2 (da_mono e2 d1) d2 (h2.mono fun z h3 u H3 B3 R3 e3 d3 => ?_)
  rw [post_bind] at h3
  obtain ⟨b, rfl, _, h3⟩ := bl_of d3 h3
  refine ⟨b, rfl, ?_⟩
  cases b with
  | false => exact h3 _ H3 B3 R3 (e1.trans (e2.trans e3)) (.bl _)
  | true =>
    replace h3 : Post C ((fc q.2).bind fun r => (g' q.1 r.1).bind fun z => .ok (z, r.2)) _ := h3
    rw [post_bind] at h3
    refine hc σ H3 B3 q.2 _ R3 (h3.mono fun r h4 w4 H4 B4 R4 e4 d4 => ?_)
    rw [post_bind] at h4
    exact hr' σ H4 B4 r.2 w w4 q.1 r.1 Q R4 (da_mono (e3.trans e4) d2) d4 (h4.mono fun z h5 u H5 B5 R5 e5 d5 => h5 u H5 B5 R5 (e1.trans (e2.trans (e3.trans (e4.trans e5)))) d5)
/-! argument lists, displays, calls -/
def vNil : VA := fun S => .ok ([], S)
def vCons (fa : VE) (fr : VA) : VA := fun S => (fa S).bind fun p => (fr p.2).bind fun q => .ok (p.1 :: q.1, q.2)
theorem s_nil : SA C tNil vNil := fun _ H B _ _ R h => h _ H B R (Same.refl _) .nil
theorem s_cons {ta : TE} {tr : TA} {fa : VE} {fr : VA} (ha : SE C ta fa) (hr : SA C tr fr) : SA C (tCons ta tr) (vCons fa fr) := by
  intro σ H B S Q R h
  unfold vCons at h
  rw [post_bind] at h
  refine ha σ H B S _ R (h.mono fun p h1 v H1 B1 R1 e1 d1 => ?_)
  rw [post_bind] at h1
  exact hr σ H1 B1 p.2 _ R1 (h1.mono fun q h2 w H2 B2 R2 e2 d2 => h2 _ H2 B2 R2 (e1.trans e2) (.cons (da_mono e2 d1) d2))
def vTup (fa : VA) : VE := fun S => (fa S).bind fun p => R.when (p.1.length ≤ 100000) (.ok (.tuple p.1, p.2))
def vLst (fa : VA) : VE := fun S => (fa S).bind fun p => R.when (p.1.length ≤ 100000) (.ok (.list p.1, p.2))
theorem s_tup {ta : TA} {fa : VA} (ha : SA C ta fa) : SE C (tTup ta) (vTup fa) := by
  intro σ H B S Q R h
  unfold vTup at h
  rw [post_bind] at h
  refine ha σ H B S _ R (h.mono fun p h1 vs H1 B1 R1 e1 d1 => ?_)
  obtain ⟨k, h1⟩ := post_when.mp h1
  refine ⟨line_le (by rw [daa_len d1]; exact k), fun a ha => ?_⟩
  obtain ⟨B', R2, e2, d2⟩ := R1.tup ha d1
  exact h1 _ _ B' R2 (e1.trans e2) d2
theorem s_lst {ta : TA} {fa : VA} (ha : SA C ta fa) : SE C (tLst ta) (vLst fa) := by
  intro σ H B S Q R h
  unfold vLst at h
  rw [post_bind] at h
  refine ha σ H B S _ R (h.mono fun p h1 vs H1 B1 R1 e1 d1 => ?_)
  obtain ⟨k, h1⟩ := post_when.mp h1
  refine ⟨line_le (by rw [daa_len d1]; exact k), fun a ha => ?_⟩
  obtain ⟨B', R2, e2, d2⟩ := R1.lst ha d1
  exact h1 _ _ B' R2 (e1.trans e2) d2
/-- a built-in, by values -/
def SCR (C : Ct K n) (r : List V → Hp → VK → Prop) (g : List PyData → R PyData) : Prop := ∀ (σ : L2.St) (H B : Hp) (S : SS) (xs : List V) (ds : List PyData) (Q : VK), Rep C σ H B S → DaAll K B xs ds →
  Post C (g ds) (fun z => ∀ v H' B', Rep C σ H' B' S → Same B B' → Da K B' v z → Q v H') → r xs H Q
def vCall (g : List PyData → R PyData) (fa : VA) : VE := fun S => (fa S).bind fun p => (g p.1).bind fun z => .ok (z, p.2)
theorem s_cb {r : List V → Hp → VK → Prop} {g : List PyData → R PyData} {ta : TA} {fa : VA} (hr : SCR C r g) (ha : SA C ta fa) : SE C (tCB r ta) (vCall g fa) := by
  intro σ H B S Q R h
  unfold vCall at h
  rw [post_bind] at h
  refine ha σ H B S _ R (h.mono fun p h1 vs H1 B1 R1 e1 d1 => ?_)
  rw [post_bind] at h1
  exact hr σ H1 B1 p.2 vs p.1 Q R1 d1 (h1.mono fun z h2 v H2 B2 R2 e2 d2 => h2 v H2 B2 R2 (e1.trans e2) d2)
def gLen : List PyData → R PyData
  | [.list ds] => .ok (.int ds.length)
  | [.tuple ds] => .ok (.int ds.length)
  | _ => .bad
theorem c_len : SCR C (fun xs H Q => ∃ p ys, xs = [.ref p] ∧ (SqL K H p ys ∨ SqT K H p ys) ∧ Q (.int ys.length) H) gLen := by
  intro σ H B S xs ds Q R d h
  cases d with
  | nil => exact h.elim
  | cons h1 t =>
    cases t with
    | cons h2 t => cases h1 <;> exact h.elim
    | nil =>
      cases h1 with
      | lst s a => exact ⟨_, _, rfl, .inl (SqL.of (R.base.bh _ _ s)), by rw [daa_len a]; exact h _ H B R (Same.refl _) (.int _)⟩
      | tup s a => exact ⟨_, _, rfl, .inr (sm_t R.base.bh s), by rw [daa_len a]; exact h _ H B R (Same.refl _) (.int _)⟩
      | _ => exact h.elim
def gInt : List PyData → R PyData
  | [.int i] => .ok (.int i)
  | [.bool b] => .ok (.int (if b then 1 else 0))
  | _ => .bad
theorem c_int : SCR C (fun xs H Q => (∃ i, xs = [.int i] ∧ Q (.int i) H) ∨ ∃ k, xs = [.bl k] ∧ Q (.int (if k then 1 else 0)) H) gInt := by
  intro σ H B S xs ds Q R d h
  cases d with
  | nil => exact h.elim
  | cons h1 t =>
    cases t with
    | cons h2 t => cases h1 <;> exact h.elim
    | nil => cases h1 <;> first | exact h.elim | exact .inl ⟨_, rfl, h _ H B R (Same.refl _) (.int _)⟩ | exact .inr ⟨_, rfl, h _ H B R (Same.refl _) (.int _)⟩
def gTuple : List PyData → R PyData
  | [.list ds] => .ok (.tuple ds)
  | [.tuple ds] => .ok (.tuple ds)
  | _ => .bad
def gList : List PyData → R PyData
  | [.list ds] => .ok (.list ds)
  | [.tuple ds] => .ok (.list ds)
  | _ => .bad
theorem c_tuple : SCR C (fun xs H Q => ∃ p ys, xs = [.ref p] ∧ ((SqL K H p ys ∧ ∀ l, H l = none → Q (.ref l) (upd H l (.tup ys))) ∨ (SqT K H p ys ∧ Q (.ref p) H))) gTuple := by
  intro σ H B S xs ds Q R d h
  cases d with
  | nil => exact h.elim
  | cons h1 t =>
    cases t with
    | cons h2 t => cases h1 <;> exact h.elim
    | nil =>
      cases h1 with
      | lst s a =>
        refine ⟨_, _, rfl, .inl ⟨SqL.of (R.base.bh _ _ s), fun l hl => ?_⟩⟩
        obtain ⟨B', R1, e1, d1⟩ := R.tup hl a
        exact h _ _ B' R1 e1 d1
      | tup s a => exact ⟨_, _, rfl, .inr ⟨sm_t R.base.bh s, h _ H B R (Same.refl _) (.tup s a)⟩⟩
      | _ => exact h.elim
/-- ints, bools of data -/
def intsD : List PyData → Option (List Int)
  | [] => some []
  | .int i :: ds => (intsD ds).map (i :: ·)
  | _ :: _ => none
def boolsD : List PyData → Option (List Bool)
  | [] => some []
  | .bool i :: ds => (boolsD ds).map (i :: ·)
  | _ :: _ => none
theorem ints_map : ∀ ns : List Int, intsD (ns.map PyData.int) = some ns
  | [] => rfl
  | n :: ns => by
    show (intsD (ns.map PyData.int)).map (n :: ·) = _
    rw [ints_map ns]
    rfl
theorem bools_map : ∀ ns : List Bool, boolsD (ns.map PyData.bool) = some ns
  | [] => rfl
  | n :: ns => by
    show (boolsD (ns.map PyData.bool)).map (n :: ·) = _
    rw [bools_map ns]
    rfl
def gInts (g : List Int → PyData) : List PyData → R PyData
  | [.list ds] => match intsD ds with
    | some ns => .ok (g ns)
    | none => .bad
  | _ => .bad
def gBools (g : List Bool → PyData) : List PyData → R PyData
  | [.list ds] => match boolsD ds with
    | some ns => .ok (g ns)
    | none => .bad
  | _ => .bad
end
end Bo

namespace Bo
open PySem L2
section
variable {K : PySem.W.Frag} {n : Nat} {C : Ct K n} {σ : L2.St} {H B : Hp} {S : SS}
/-! ### new lists -/
/-- nobody else has it -/
structure Loose (C : Ct K n) (σ : L2.St) (S : SS) (B : Hp) (a : Addr) : Prop where
  b : B a = none
  h0 : C.H0 a = none
  no : ∀ (j : Nat) (u : SV), S[j]? = some (some u) → u.mine = true → σ[j]? ≠ some (some (.ref a))
abbrev VF := SS → R (List PyData × SS)
/-- a new list: what it holds -/
def SEF (C : Ct K n) (t : TE) (f : VF) : Prop := ∀ (σ : L2.St) (H B : Hp) (S : SS) (Q : VK), Rep C σ H B S →
  Post C (f S) (fun p => ∀ a vs H' B', Rep C σ H' B' p.2 → Same B B' → H' a = some (.lst vs) → Loose C σ p.2 B' a → DaAll K B' vs p.1 → Q (.ref a) H') → t σ H Q
theorem Rep.settle (R : Rep C σ H B S) {a : Addr} {vs : List V} (h : H a = some (.lst vs)) (L : Loose C σ S B a) : Rep C σ H (upd B a (.lst vs)) S ∧ Same B (upd B a (.lst vs)) := by
  have e : Same B (upd B a (.lst vs)) := sm_new L.b
  refine ⟨R.grow ⟨R.base.keep, R.base.b0.trans e, fun b o q => ?_, fun b o q => ?_⟩ e fun b o h1 h2 ⟨j, u, q1, q2, q3⟩ => ⟨h1, ?_⟩, e⟩
  · by_cases z : b = a
    · subst z
      rw [upd_same] at q
      cases q
      exact h
    · rw [upd_ne z] at q
      exact R.base.bh b o q
  · by_cases z : b = a
    · subst z
      exact .inr L.h0
    · rw [upd_ne z] at q
      exact R.base.fr b o q
  · rw [upd_ne]
    · exact h2
    · rintro rfl
      exact L.no j u q1 q2 q3
def vFr (f : VF) : VE := fun S => (f S).bind fun p => .ok (.list p.1, p.2)
/-- a new list that stays -/
theorem s_fr {t : TE} {f : VF} (h : SEF C t f) : SE C t (vFr f) := by
  intro σ H B S Q R q
  unfold vFr at q
  rw [post_bind] at q
  refine h σ H B S Q R (q.mono fun p q a vs H' B' R1 e1 ha L d => ?_)
  obtain ⟨R2, e2⟩ := R1.settle ha L
  exact q _ H' _ R2 (e1.trans e2) (.lst upd_same (daa_mono e2 d))
/-- laid where nothing stood -/
theorem Rep.newLoose (R : Rep C σ H B S) {p : Addr} {o : HO} (hp : H p = none) : Rep C σ (upd H p o) B S ∧ Loose C σ S B p := by
  obtain ⟨h0, hb, _⟩ := R.new hp
  refine ⟨R.loose hp, hb, h0, fun j u q m e => ?_⟩
  obtain ⟨a, o, e1, e2, _⟩ := R.own_at q m
  rw [e] at e1
  cases e1
  rw [hp] at e2
  cases e2
def vLstF (fa : VA) : VF := fun S => (fa S).bind fun p => R.when (p.1.length ≤ 100000) (.ok p)
theorem f_lst {ta : TA} {fa : VA} (ha : SA C ta fa) : SEF C (tLst ta) (vLstF fa) := by
  intro σ H B S Q R h
  unfold vLstF at h
  rw [post_bind] at h
  refine ha σ H B S _ R (h.mono fun p h1 vs H1 B1 R1 e1 d1 => ?_)
  obtain ⟨k, h1⟩ := post_when.mp h1
  refine ⟨line_le (by rw [daa_len d1]; exact k), fun a ha => ?_⟩
  obtain ⟨R2, L⟩ := R1.newLoose (o := .lst vs) ha
  exact h1 a vs _ B1 R2 e1 upd_same L d1
/-- list(x) -/
def vListF (fa : VE) : VF := fun S => (fa S).bind fun p => match itemsD p.1 with
  | some ds => .ok (ds, p.2)
  | none => .bad
/-! ### slices -/
abbrev VO := SS → R (Option Int × SS)
def SO (C : Ct K n) (t : TO) (f : VO) : Prop := ∀ (σ : L2.St) (H B : Hp) (S : SS) (Q : Option Int → Hp → Prop), Rep C σ H B S →
  Post C (f S) (fun p => ∀ H' B', Rep C σ H' B' p.2 → Same B B' → Q p.1 H') → t σ H Q
def vNoPart : VO := fun S => .ok (none, S)
def toI : PyData → R Int
  | .int i => .ok i
  | _ => .bad
def vPart (fa : VE) : VO := fun S => (fa S).bind fun p => (toI p.1).bind fun i => .ok (some i, p.2)
theorem s_noPart : SO C tNoPart vNoPart := fun _ H B _ _ R h => h H B R (Same.refl _)
theorem int_of {v : V} {d : PyData} {k : Int → Prop} (h : Da K B v d) (q : Post C (toI d) k) : ∃ b, v = .int b ∧ d = .int b ∧ k b := by
  cases h <;> first | exact q.elim | exact ⟨_, rfl, rfl, q⟩
theorem s_part {ta : TE} {fa : VE} (ha : SE C ta fa) : SO C (tPart ta) (vPart fa) := by
  intro σ H B S Q R h
  unfold vPart at h
  rw [post_bind] at h
  refine ha σ H B S _ R (h.mono fun p h1 v H1 B1 R1 e1 d1 => ?_)
  rw [post_bind] at h1
  obtain ⟨i, rfl, _, h1⟩ := int_of d1 h1
  exact ⟨i, rfl, h1 H1 B1 R1 e1⟩
def cutD {α : Type} (l : List α) (lo hi : Option Int) : List α := (l.drop (HT.sIx l.length 0 lo)).take (HT.sIx l.length l.length hi - HT.sIx l.length 0 lo)
theorem daa_cut {vs : List V} {ds : List PyData} {lo hi : Option Int} (h : DaAll K B vs ds) : DaAll K B (cutV vs lo hi) (cutD ds lo hi) := by
  unfold cutV cutD
  rw [daa_len h]
  exact daa_take _ (daa_drop _ h)
def SSl (C : Ct K n) (r : V → Option Int → Option Int → Hp → VK → Prop) (g : PyData → Option Int → Option Int → R PyData) : Prop := ∀ (σ : L2.St) (H B : Hp) (S : SS) (x : V) (d : PyData) (lo hi : Option Int) (Q : VK), Rep C σ H B S → Da K B x d →
  Post C (g d lo hi) (fun z => ∀ v H' B', Rep C σ H' B' S → Same B B' → Da K B' v z → Q v H') → r x lo hi H Q
def vSl (g : PyData → Option Int → Option Int → R PyData) (fa : VE) (fl fh : VO) : VE := fun S => (fa S).bind fun p => (fl p.2).bind fun l => (fh l.2).bind fun h => (g p.1 l.1 h.1).bind fun z => .ok (z, h.2)
theorem s_sl {r : V → Option Int → Option Int → Hp → VK → Prop} {g : PyData → Option Int → Option Int → R PyData} {ta : TE} {tl th : TO} {fa : VE} {fl fh : VO} (hr : SSl C r g) (ha : SE C ta fa) (hl : SO C tl fl) (hh : SO C th fh) : SE C (tSl r ta tl th) (vSl g fa fl fh) := by
  intro σ H B S Q R h
  unfold vSl at h
  rw [post_bind] at h
  refine ha σ H B S _ R (h.mono fun p h1 v H1 B1 R1 e1 d1 => ?_)
  rw [post_bind] at h1
  refine hl σ H1 B1 p.2 _ R1 (h1.mono fun l h2 H2 B2 R2 e2 => ?_)
  rw [post_bind] at h2
  refine hh σ H2 B2 l.2 _ R2 (h2.mono fun u h3 H3 B3 R3 e3 => ?_)
  rw [post_bind] at h3
  exact hr σ H3 B3 u.2 v p.1 l.1 u.1 Q R3 (da_mono (e2.trans e3) d1) (h3.mono fun z h4 w H4 B4 R4 e4 d4 => h4 w H4 B4 R4 (e1.trans (e2.trans (e3.trans e4))) d4)
def gSlL (d : PyData) (lo hi : Option Int) : R PyData := match d with
  | .list ds => .ok (.list (cutD ds lo hi))
  | _ => .bad
def gSlT (d : PyData) (lo hi : Option Int) : R PyData := match d with
  | .tuple ds => .ok (.tuple (cutD ds lo hi))
  | _ => .bad
theorem l_slL : SSl C (rSlL K) gSlL := by
  intro σ H B S x d lo hi Q R h1 h
  cases h1 with
  | lst s a =>
    refine ⟨_, _, rfl, SqL.of (R.base.bh _ _ s), fun p hp => ?_⟩
    obtain ⟨B', R1, e1, d1⟩ := R.lst hp (daa_cut a)
    exact h _ _ B' R1 e1 d1
  | _ => exact h.elim
/-- xs[::-1] -/
def gRevL : PyData → R PyData
  | .list ds => .ok (.list ds.reverse)
  | _ => .bad
/-! ### targets -/
def SG (C : Ct K n) (g : TG) (fg : PyData → SS → R SS) (ts : List Nat) : Prop := ∀ (σ : L2.St) (H B : Hp) (S : SS) (v : V) (d : PyData) (Q : L2.St → Hp → Prop), Rep C σ H B S → Da K B v d →
  Post C (fg d S) (fun S' => ∀ σ', Rep C σ' H B S' → σ'.length = σ.length → (∀ i, i ∉ ts → σ'[i]? = σ[i]?) → Q σ' H) → g v σ H Q
def SGs (C : Ct K n) (g : TGs) (fg : List PyData → SS → R SS) (ts : List Nat) : Prop := ∀ (σ : L2.St) (H B : Hp) (S : SS) (vs : List V) (ds : List PyData) (Q : L2.St → Hp → Prop), Rep C σ H B S → DaAll K B vs ds →
  Post C (fg ds S) (fun S' => ∀ σ', Rep C σ' H B S' → σ'.length = σ.length → (∀ i, i ∉ ts → σ'[i]? = σ[i]?) → Q σ' H) → g vs σ H Q
def aName (i : Nat) : PyData → SS → R SS := fun d S => .ok (S.set i (some (.dat d)))
theorem g_name {i : Nat} (hi : n ≤ i) : SG C (gName i) (aName i) [i] := by
  intro σ H B S v d Q R dv h
  exact h _ (R.put hi dv) (by simp) fun j hj => List.getElem?_set_ne (fun e => hj (by simp [e]))
def aNil : List PyData → SS → R SS := fun ds S => match ds with
  | [] => .ok S
  | _ => .bad
def aCons (f : PyData → SS → R SS) (g : List PyData → SS → R SS) : List PyData → SS → R SS := fun ds S => match ds with
  | d :: ds => (f d S).bind fun S1 => g ds S1
  | [] => .bad
theorem g_nil : SGs C gNil aNil [] := by
  intro σ H B S vs ds Q R dv h
  cases dv with
  | nil => exact ⟨rfl, h σ R rfl fun _ _ => rfl⟩
  | cons => exact h.elim
theorem g_cons {g : TG} {gs : TGs} {f : PyData → SS → R SS} {fs : List PyData → SS → R SS} {ts us : List Nat} (h1 : SG C g f ts) (h2 : SGs C gs fs us) : SGs C (gCons g gs) (aCons f fs) (ts ++ us) := by
  intro σ H B S vs ds Q R dv h
  cases dv with
  | nil => exact h.elim
  | cons d t =>
    replace h := post_bind.mp h
    refine ⟨_, _, rfl, h1 σ H B S _ _ _ R d (h.mono fun S1 h σ1 R1 l1 k1 => ?_)⟩
    exact h2 σ1 H B S1 _ _ _ R1 t (h.mono fun S2 h σ2 R2 l2 k2 => h σ2 R2 (l2.trans l1) fun i hi => by
      rw [List.mem_append] at hi
      exact (k2 i fun z => hi (.inr z)).trans (k1 i fun z => hi (.inl z)))
def aTup (m : Nat) (f : List PyData → SS → R SS) : PyData → SS → R SS := fun d S => match d with
  | .tuple ds => R.when (ds.length = m) (f ds S)
  | _ => .bad
theorem g_tup {m : Nat} {gs : TGs} {fs : List PyData → SS → R SS} {ts : List Nat} (h1 : SGs C gs fs ts) : SG C (gTup K m gs) (aTup m fs) ts := by
  intro σ H B S v d Q R dv h
  cases dv with
  | tup s a =>
    obtain ⟨k, h⟩ := post_when.mp h
    exact ⟨_, _, rfl, sm_t R.base.bh s, (daa_len a).trans k, h1 σ H B S _ _ Q R a h⟩
  | _ => exact h.elim
/-! ### what is walked -/
/-- the walk J over ds, whatever else changes -/
structure Walks (C : Ct K n) (B : Hp) (J : It) (ds : List PyData) : Prop where
  go : ∀ (i : Nat) (H : Hp), i < ds.length → Same B H → J.go i H
  stop : ∀ (H : Hp), Same B H → J.stop ds.length H
  yld : ∀ (i : Nat) (H H' : Hp) (x : V) (d : PyData), ds[i]? = some d → J.yld i H x H' → ∀ (C : Ct K n) σ B1 S, Rep C σ H B1 S → Same B B1 → ∃ B', Rep C σ H' B' S ∧ Same B1 B' ∧ Da K B' x d ∧ ∀ D o, H D = some o → H' D = some o
def SI (C : Ct K n) (w : TI) (f : VF) : Prop := ∀ (σ : L2.St) (H B : Hp) (S : SS) (Rr : It → Hp → Prop), Rep C σ H B S →
  Post C (f S) (fun p => ∀ J H' B', Rep C σ H' B' p.2 → Same B B' → Walks C B' J p.1 → Rr J H') → w σ H Rr
theorem walks_list {a : Addr} {xs : List V} {ds : List PyData} (s : B a = some (.lst xs)) (h : DaAll K B xs ds) : Walks C B (Itl K a) ds where
  go := fun i H hi e => by
    rw [← daa_len h] at hi
    exact ⟨xs, xs[i], SqL.of (e _ _ s), List.getElem?_eq_getElem hi⟩
  stop := fun H e => ⟨xs, SqL.of (e _ _ s), by rw [daa_len h]; exact Nat.le_refl _⟩
  yld := fun i H H' x d hd y C σ B1 S R e => by
    obtain ⟨rfl, y⟩ := y
    have hx := y xs (SqL.of (R.base.bh _ _ (e _ _ s)))
    obtain ⟨d', q1, q2⟩ := daa_at h hx
    rw [hd] at q1
    cases q1
    exact ⟨B1, R, Same.refl _, da_mono e q2, fun _ _ z => z⟩
theorem walks_tup {a : Addr} {xs : List V} {ds : List PyData} (s : SqT K B a xs) (h : DaAll K B xs ds) : Walks C B (Itt K a) ds where
  go := fun i H hi e => by
    rw [← daa_len h] at hi
    exact ⟨xs, xs[i], sm_t e s, List.getElem?_eq_getElem hi⟩
  stop := fun H e => ⟨xs, sm_t e s, by rw [daa_len h]; exact Nat.le_refl _⟩
  yld := fun i H H' x d hd y C σ B1 S R e => by
    obtain ⟨rfl, y⟩ := y
    have hx := y xs (sm_t (e.trans R.base.bh) s)
    obtain ⟨d', q1, q2⟩ := daa_at h hx
    rw [hd] at q1
    cases q1
    exact ⟨B1, R, Same.refl _, da_mono e q2, fun _ _ z => z⟩
def rangeD (lo : Int) (m : Nat) : List PyData := (List.range m).map fun i => .int (lo + (i : Nat))
theorem walks_range {lo : Int} {m : Nat} : Walks C B (Itr lo m) (rangeD lo m) where
  go := fun i H hi _ => by
    unfold rangeD at hi
    rw [List.length_map, List.length_range] at hi
    exact hi
  stop := fun H _ => by
    unfold rangeD
    rw [List.length_map, List.length_range]
    exact Nat.le_refl m
  yld := fun i H H' x d hd y C σ B1 S R e => by
    obtain ⟨rfl, rfl⟩ := y
    unfold rangeD at hd
    rw [List.getElem?_map] at hd
    have hi : i < m := by
      rcases Nat.lt_or_ge i m with q | q
      · exact q
      · rw [List.getElem?_eq_none (by rw [List.length_range]; exact q)] at hd
        cases hd
    rw [List.getElem?_range hi] at hd
    cases hd
    exact ⟨B1, R, Same.refl _, .int _, fun _ _ z => z⟩
def vIter (fa : VE) : VF := fun S => (fa S).bind fun p => match p.1 with
  | .list ds => .ok (ds, p.2)
  | _ => .bad
def vIterT (fa : VE) : VF := fun S => (fa S).bind fun p => match p.1 with
  | .tuple ds => .ok (ds, p.2)
  | _ => .bad
theorem i_list {ta : TE} {fa : VE} (ha : SE C ta fa) : SI C (iList K ta) (vIter fa) := by
  intro σ H B S Rr R h
  replace h := post_bind.mp h
  refine ha σ H B S _ R (h.mono fun p h1 v H1 B1 R1 e1 d1 => ?_)
  obtain ⟨d, S1⟩ := p
  dsimp only at d1 h1 R1
  cases d1 with
  | lst s a => exact ⟨_, rfl, ⟨_, SqL.of (R1.base.bh _ _ s)⟩, h1 _ H1 B1 R1 e1 (walks_list s a)⟩
  | _ => exact h1.elim
theorem i_tup {ta : TE} {fa : VE} (ha : SE C ta fa) : SI C (iTup K ta) (vIterT fa) := by
  intro σ H B S Rr R h
  replace h := post_bind.mp h
  refine ha σ H B S _ R (h.mono fun p h1 v H1 B1 R1 e1 d1 => ?_)
  obtain ⟨d, S1⟩ := p
  dsimp only at d1 h1 R1
  cases d1 with
  | tup s a => exact ⟨_, rfl, ⟨_, sm_t R1.base.bh s⟩, h1 _ H1 B1 R1 e1 (walks_tup s a)⟩
  | _ => exact h1.elim
def vRange1 (fa : VA) : VF := fun S => (fa S).bind fun p => match p.1 with
  | [.int j] => R.when (-1000000 ≤ j ∧ j ≤ 1000000) (.ok (rangeD 0 j.toNat, p.2))
  | _ => .bad
def vRange2 (fa : VA) : VF := fun S => (fa S).bind fun p => match p.1 with
  | [.int i, .int j] => R.when ((-1000000 ≤ i ∧ i ≤ 1000000) ∧ -1000000 ≤ j ∧ j ≤ 1000000) (.ok (rangeD i (j - i).toNat, p.2))
  | _ => .bad
theorem i_range1 {ta : TA} {fa : VA} (ha : SA C ta fa) : SI C (iRng1 ta) (vRange1 fa) := by
  intro σ H B S Rr R h
  replace h := post_bind.mp h
  refine ha σ H B S _ R (h.mono fun p h1 v H1 B1 R1 e1 d1 => ?_)
  obtain ⟨d, S1⟩ := p
  dsimp only at d1 h1 R1
  split at h1
  · rename_i j
    obtain ⟨⟨k1, k2⟩, h1⟩ := post_when.mp h1
    cases d1 with
    | cons q1 t =>
      cases t
      cases q1
      exact ⟨j, rfl, by omega, by omega, h1 _ H1 B1 R1 e1 walks_range⟩
  · exact h1.elim
/-! zip of two lists -/
def zipD (ds es : List PyData) : List PyData := (ds.zip es).map fun p => .tuple [p.1, p.2]
/-! enumerate of a list -/
def enumD (ds : List PyData) : List PyData := (ds.zipIdx).map fun p => .tuple [.int (p.2 : Nat), p.1]
theorem enumD_get {ds : List PyData} {i : Nat} {d : PyData} (h : ds[i]? = some d) : (enumD ds)[i]? = some (.tuple [.int (i : Nat), d]) := by
  unfold enumD
  rw [List.getElem?_map, List.getElem?_zipIdx, h]
  simp
theorem enumD_len {ds : List PyData} : (enumD ds).length = ds.length := by simp [enumD]
/-! ### statements -/
def vNext : VS := fun S => .ok (.nx S)
def vRet (fa : VE) : VS := fun S => (fa S).bind fun p => .ok (.rt p.1 p.2)
def vRetN : VS := fun S => .ok (.rt .none S)
def vDrop (fa : VE) : VS := fun S => (fa S).bind fun p => .ok (.nx p.2)
def seqF (fb : VS) : FL → R FL
  | .nx S => fb S
  | f => .ok f
def vSeq (fa fb : VS) : VS := fun S => (fa S).bind (seqF fb)
def vIfS (fc : VT) (fa fb : VS) : VS := fun S => (fc S).bind fun p => if p.1 = true then fa p.2 else fb p.2
def vAsg (fa : VE) (fg : PyData → SS → R SS) : VS := fun S => (fa S).bind fun p => (fg p.1 p.2).bind fun S => .ok (.nx S)
theorem st_next : SSt C tNext vNext := fun σ H B _ _ R h => h σ H B R (Same.refl _)
theorem st_ret {ta : TE} {fa : VE} (ha : SE C ta fa) : SSt C (tRet ta) (vRet fa) := by
  intro σ H B S D R h
  replace h := post_bind.mp h
  exact ha σ H B S _ R (h.mono fun p h1 v H1 B1 R1 e1 d1 => h1 v σ H1 B1 R1 e1 d1)
theorem st_drop {ta : TE} {fa : VE} (ha : SE C ta fa) : SSt C (tDrop ta) (vDrop fa) := by
  intro σ H B S D R h
  replace h := post_bind.mp h
  exact ha σ H B S _ R (h.mono fun p h1 v H1 B1 R1 e1 d1 => h1 σ H1 B1 R1 e1)
theorem FlPost.from {B0 : Hp} {D : Ends} {fl : FL} (h : FlPost C B0 D fl) (e : Same B0 B) : FlPost C B D fl := by
  cases fl with
  | nx S => exact fun σ' H' B' R e' => h σ' H' B' R (e.trans e')
  | rt d S => exact fun v σ' H' B' R e' => h v σ' H' B' R (e.trans e')
  | bk S => exact fun σ' H' B' R e' => h σ' H' B' R (e.trans e')
  | ct S => exact fun σ' H' B' R e' => h σ' H' B' R (e.trans e')
theorem st_seq {ta tb : TS} {fa fb : VS} (ha : SSt C ta fa) (hb : SSt C tb fb) : SSt C (tSeq ta tb) (vSeq fa fb) := by
  intro σ H B S D R h
  replace h := post_bind.mp h
  refine ha σ H B S _ R (h.mono fun fl h1 => ?_)
  cases fl with
  | nx S1 => exact fun σ' H' B' R1 e1 => hb σ' H' B' S1 D R1 (Post.mono h1 fun fl q => q.from e1)
  | rt d S1 => exact h1
  | bk S1 => exact h1
  | ct S1 => exact h1
theorem st_if {tc : TT} {ta tb : TS} {fc : VT} {fa fb : VS} (hc : ST C tc fc) (ha : SSt C ta fa) (hb : SSt C tb fb) : SSt C (tIfS tc ta tb) (vIfS fc fa fb) := by
  intro σ H B S D R h
  replace h := post_bind.mp h
  refine hc σ H B S _ R (h.mono fun p h1 H1 B1 R1 e1 => ?_)
  obtain ⟨c, S1⟩ := p
  cases c with
  | true => exact ha σ H1 B1 S1 D R1 (Post.mono h1 fun fl q => q.from e1)
  | false => exact hb σ H1 B1 S1 D R1 (Post.mono h1 fun fl q => q.from e1)
theorem st_asg {ta : TE} {fa : VE} {g : TG} {fg : PyData → SS → R SS} {ts : List Nat} (ha : SE C ta fa) (hg : SG C g fg ts) : SSt C (tAsg ta g) (vAsg fa fg) := by
  intro σ H B S D R h
  replace h := post_bind.mp h
  refine ha σ H B S _ R (h.mono fun p h1 v H1 B1 R1 e1 d1 => ?_)
  exact hg σ H1 B1 p.2 v p.1 _ R1 d1 ((post_bind.mp h1).mono fun S2 h2 σ' R2 _ _ => h2 σ' H1 B1 R2 e1)
/-- a new list for a slot of its own -/
def vOwn (i : Nat) (f : VF) : VS := fun S => (f S).bind fun p => .ok (.nx (p.2.set i (some (.own p.1))))
theorem st_own {ta : TE} {f : VF} {i : Nat} (hi : n ≤ i) (ha : SEF C ta f) : SSt C (tAsg ta (gName i)) (vOwn i f) := by
  intro σ H B S D R h
  replace h := post_bind.mp h
  refine ha σ H B S _ R (h.mono fun p h1 a vs H1 B1 R1 e1 ha L d1 => ?_)
  exact h1 _ H1 B1 (R1.take hi rfl ⟨a, vs, rfl, ha, L.b, d1⟩ L.h0 L.no) e1
/-- from here on the lists of these slots stay -/
def frzS (i : Nat) (S : SS) : SS := match S[i]? with
  | some (some (.own ds)) => S.set i (some (.dat (.list ds)))
  | _ => S
def vFrz (i : Nat) (f : VS) : VS := fun S => f (frzS i S)
theorem st_frz {t : TS} {f : VS} {i : Nat} (hi : n ≤ i) (h : SSt C t f) : SSt C t (vFrz i f) := by
  intro σ H B S D R q
  unfold vFrz frzS at q
  split at q
  · rename_i ds e
    obtain ⟨B1, R1, e1⟩ := R.rest hi e
    exact h σ H B1 _ D R1 (q.mono fun fl q => q.from e1)
  · exact h σ H B S D R q
/-! ### loops -/
def loopF (fg : PyData → SS → R SS) (fb : VS) : List PyData → SS → R FL
  | [], S => .ok (.nx S)
  | d :: ds, S => (fg d S).bind fun S1 => (fb S1).bind fun fl => match fl with
    | .nx S2 => loopF fg fb ds S2
    | .ct S2 => loopF fg fb ds S2
    | .bk S2 => .ok (.nx S2)
    | .rt d S2 => .ok (.rt d S2)
def vFor (fi : VF) (fg : PyData → SS → R SS) (fb : VS) : VS := fun S => (fi S).bind fun p => loopF fg fb p.1 p.2
theorem st_for {wi : TI} {g : TG} {tb : TS} {fi : VF} {fg : PyData → SS → R SS} {fb : VS} {ts : List Nat} (hi : SI C wi fi) (hg : SG C g fg ts) (hb : SSt C tb fb) : SSt C (tFor wi g tb) (vFor fi fg fb) := by
  intro σ H B S D R h
  replace h := post_bind.mp h
  refine hi σ H B S _ R (h.mono fun p h1 J H1 B1 R1 e1 W => ?_)
  obtain ⟨ds, S1⟩ := p
  dsimp only at h1 R1 W
  refine ⟨fun i m σ' H' => m = ds.length - i ∧ i ≤ ds.length ∧ ∃ B' S', Rep C σ' H' B' S' ∧ Same B1 B' ∧ Post C (loopF fg fb (ds.drop i) S') (FlPost C B D), ⟨ds.length, by simp, Nat.zero_le _, B1, S1, R1, Same.refl _, h1⟩, ?_⟩
  rintro i m σ' H' ⟨rfl, hi, B', S', R', e', q⟩
  have eH : Same B1 H' := e'.trans R'.base.bh
  rcases Nat.lt_or_ge i ds.length with hlt | hge
  · refine .inr ⟨W.go i H' hlt eH, fun σ2 H2 => ∃ B2 S2, Rep C σ2 H2 B2 S2 ∧ Same B1 B2 ∧ Post C (loopF fg fb (ds.drop (i + 1)) S2) (FlPost C B D), ?_, ?_⟩
    · rintro σ2 H2 ⟨B2, S2, R2, e2, q2⟩
      exact ⟨ds.length - (i + 1), by omega, rfl, hlt, B2, S2, R2, e2, q2⟩
    · intro x H2 y
      obtain ⟨B2, R2, e2, dx, _⟩ := W.yld i H' H2 x ds[i] (List.getElem?_eq_getElem hlt) y C σ' B' S' R' e'
      rw [List.drop_eq_getElem_cons hlt] at q
      replace q := post_bind.mp q
      refine hg σ' H2 B2 S' x ds[i] _ R2 dx (q.mono fun S3 q σ3 R3 _ _ => ?_)
      replace q := post_bind.mp q
      refine hb σ3 H2 B2 S3 _ R3 (q.mono fun fl q => ?_)
      have e3 : Same B1 B2 := e'.trans e2
      cases fl with
      | nx S4 => exact fun σ4 H4 B4 R4 e4 => ⟨B4, S4, R4, e3.trans e4, q⟩
      | ct S4 => exact fun σ4 H4 B4 R4 e4 => ⟨B4, S4, R4, e3.trans e4, q⟩
      | bk S4 => exact fun σ4 H4 B4 R4 e4 => q σ4 H4 B4 R4 (e1.trans (e3.trans e4))
      | rt d S4 => exact fun v σ4 H4 B4 R4 e4 => q v σ4 H4 B4 R4 (e1.trans (e3.trans e4))
  · have ei : i = ds.length := by omega
    subst ei
    rw [List.drop_length] at q
    exact .inl ⟨W.stop H' eH, q σ' H' B' R' (e1.trans e')⟩
end
end Bo

namespace Bo
open PySem L2
section
variable {K : PySem.W.Frag} {n : Nat} {C : Ct K n} {σ : L2.St} {H B : Hp} {S : SS}
/-! ### a list that is held aside -/
def Ct.hold (C : Ct K n) (D : Addr) (xs : List V) : Ct K n := { C with H0 := upd C.H0 D (.lst xs) }
section
variable {D : Addr} {xs : List V}
theorem hold_base (h0 : C.H0 D = none) (b : Base (C.hold D xs) H B) : Base C H B := by
  refine ⟨fun a o n q => b.keep a o n (by show upd C.H0 D _ a = _; rw [upd_ne (ne_of_none q h0)]; exact q), b.b0, b.bh, fun a o q => ?_⟩
  rcases b.fr a o q with z | z
  · exact .inl z
  · refine .inr ?_
    have z' : upd C.H0 D (.lst xs) a = none := z
    by_cases e : a = D
    · subst e
      exact h0
    · rw [upd_ne e] at z'
      exact z'
theorem hold_out {e : Exc} (h0 : C.H0 D = none) (h : C.Out e) : (C.hold D xs).Out e := fun H B v b d => h H B v (hold_base h0 b) d
theorem hold_post {α : Type} {x : R α} {k : α → Prop} (h0 : C.H0 D = none) (h : Post C x k) : Post (C.hold D xs) x k := by
  cases x with
  | ok a => exact h
  | err e => exact hold_out h0 h
  | bad => exact h
theorem Rep.hold (R : Rep C σ H B S) (hD : H D = some (.lst xs)) (L : Loose C σ S B D) : Rep (C.hold D xs) σ H B S := by
  refine ⟨⟨fun a o n q => ?_, R.base.b0, R.base.bh, fun a o q => ?_⟩, R.len, fun i s h => ?_, R.dis, fun i s a h m e => ?_, R.box⟩
  · have q' : upd C.H0 D (.lst xs) a = some o := q
    by_cases z : a = D
    · subst z
      rw [upd_same] at q'
      cases q'
      exact hD
    · rw [upd_ne z] at q'
      exact R.base.keep a o n q'
  · rcases R.base.fr a o q with z | z
    · exact .inl z
    · refine .inr ?_
      show upd C.H0 D (.lst xs) a = none
      rw [upd_ne (ne_of_none q L.b)]
      exact z
  · obtain ⟨v, hv, r⟩ := R.slot i s h
    exact ⟨v, hv, by cases s <;> exact r⟩
  · rcases R.ownf i s a h m e with z | z
    · refine .inl ?_
      show upd C.H0 D (.lst xs) a = none
      rw [upd_ne (fun q => L.no i s h m (by rw [← q]; exact e))]
      exact z
    · exact .inr z
theorem Rep.unhold (h0 : C.H0 D = none) (hB : C.B0 D = none) (nb : some D ∉ C.bx) (R : Rep (C.hold D xs) σ H B S) : Rep C σ H B S ∧ H D = some (.lst xs) ∧ Loose C σ S B D := by
  have hH : (C.hold D xs).H0 D = some (.lst xs) := upd_same
  have bD : B D = none := by
    cases q : B D with
    | none => rfl
    | some o =>
      rcases R.base.fr D o q with z | z
      · exact nomatch (z.symm.trans hB)
      · exact nomatch (z.symm.trans hH)
  refine ⟨⟨hold_base h0 R.base, R.len, fun i s h => ?_, R.dis, fun i s a h m e => ?_, R.box⟩, R.base.keep D _ nb hH, bD, h0, fun j u q m e => ?_⟩
  · obtain ⟨v, hv, r⟩ := R.slot i s h
    exact ⟨v, hv, by cases s <;> exact r⟩
  · rcases R.ownf i s a h m e with z | z
    · refine .inl ?_
      have z' : upd C.H0 D (.lst xs) a = none := z
      by_cases q : a = D
      · subst q
        exact h0
      · rw [upd_ne q] at z'
        exact z'
    · exact .inr z
  · rcases R.ownf j u D q m e with z | z
    · exact nomatch (z.symm.trans hH)
    · exact nb (List.mem_of_getElem? z)
end
/-! ### slots set aside -/
def wipeS (S : SS) : List Nat → SS
  | [] => S
  | v :: vs => (wipeS S vs).set v none
def backS (S0 S : SS) : List Nat → SS
  | [] => S
  | v :: vs => (backS S0 S vs).set v (S0[v]?.join)
theorem wipeS_len : ∀ vs : List Nat, (wipeS S vs).length = S.length
  | [] => rfl
  | v :: vs => by
    unfold wipeS
    rw [List.length_set, wipeS_len vs]
theorem backS_len {S0 : SS} : ∀ vs : List Nat, (backS S0 S vs).length = S.length
  | [] => rfl
  | v :: vs => by
    unfold backS
    rw [List.length_set, backS_len vs]
theorem wipeS_some {i : Nat} {s : SV} : ∀ {vs : List Nat}, (wipeS S vs)[i]? = some (some s) → i ∉ vs ∧ S[i]? = some (some s)
  | [], h => ⟨by simp, h⟩
  | v :: vs, h => by
    unfold wipeS at h
    by_cases e : i = v
    · subst e
      have hl := (List.getElem?_eq_some_iff.mp h).1
      rw [List.length_set] at hl
      rw [List.getElem?_set_self hl] at h
      cases h
    · rw [List.getElem?_set_ne (Ne.symm e)] at h
      obtain ⟨h1, h2⟩ := wipeS_some h
      exact ⟨fun z => (List.mem_cons.mp z).elim e h1, h2⟩
theorem backS_some {S0 : SS} {i : Nat} {s : SV} : ∀ {vs : List Nat}, (backS S0 S vs)[i]? = some (some s) → (i ∈ vs ∧ S0[i]? = some (some s)) ∨ (i ∉ vs ∧ S[i]? = some (some s))
  | [], h => .inr ⟨by simp, h⟩
  | v :: vs, h => by
    unfold backS at h
    by_cases e : i = v
    · subst e
      have hl := (List.getElem?_eq_some_iff.mp h).1
      rw [List.length_set] at hl
      rw [List.getElem?_set_self hl] at h
      refine .inl ⟨List.mem_cons_self, ?_⟩
      cases q : S0[i]? with
      | none => rw [q] at h; cases h
      | some o => rw [q] at h; exact h
    · rw [List.getElem?_set_ne (Ne.symm e)] at h
      rcases backS_some h with ⟨h1, h2⟩ | ⟨h1, h2⟩
      · exact .inl ⟨List.mem_cons_of_mem _ h1, h2⟩
      · exact .inr ⟨fun z => (List.mem_cons.mp z).elim e h1, h2⟩
theorem wipe_ext {σ σ' : L2.St} {vs : List Nat} (hl : σ'.length = σ.length) (h : ∀ i, i ∉ vs → σ'[i]? = σ[i]?) : wipe σ' vs = wipe σ vs := by
  have key : ∀ us : List Nat, ∀ i, i ∈ us → ∀ τ : L2.St, i < τ.length → (wipe τ us)[i]? = some none := by
    intro us
    induction us with
    | nil => intro i hi; exact absurd hi (by simp)
    | cons u us ih =>
      intro i hi τ hτ
      unfold wipe
      by_cases e : i = u
      · subst e
        rw [List.getElem?_set_self (by rw [wipe_length]; exact hτ)]
      · rw [List.getElem?_set_ne (Ne.symm e)]
        rcases List.mem_cons.mp hi with z | z
        · exact absurd z e
        · exact ih i z τ hτ
  refine List.ext_getElem? fun i => ?_
  by_cases hi : i ∈ vs
  · by_cases hb : i < σ.length
    · rw [key vs i hi σ hb, key vs i hi σ' (by omega)]
    · rw [List.getElem?_eq_none (by rw [wipe_length]; omega), List.getElem?_eq_none (by rw [wipe_length]; omega)]
  · rw [wipe_out hi, wipe_out hi, h i hi]
theorem Rep.wiped (R : Rep C σ H B S) {vs : List Nat} (hv : ∀ v ∈ vs, n ≤ v) : Rep C (wipe σ vs) H B (wipeS S vs) := by
  refine ⟨R.base, by rw [wipeS_len, wipe_length]; exact R.len, fun i s h => ?_, fun i j s u a h1 h2 m1 m2 e1 e2 => ?_, fun i s a h m e => ?_, fun i a h => ?_⟩
  · obtain ⟨h1, h2⟩ := wipeS_some h
    rw [wipe_out h1]
    exact R.slot i s h2
  · obtain ⟨p1, p2⟩ := wipeS_some h1
    obtain ⟨q1, q2⟩ := wipeS_some h2
    rw [wipe_out p1] at e1
    rw [wipe_out q1] at e2
    exact R.dis i j s u a p2 q2 m1 m2 e1 e2
  · obtain ⟨p1, p2⟩ := wipeS_some h
    rw [wipe_out p1] at e
    exact R.ownf i s a p2 m e
  · have hn : i ∉ vs := fun z => by
      have := hv i z
      have := (List.getElem?_eq_some_iff.mp h).1
      have := C.hbx
      omega
    obtain ⟨q1, s, q2, q3⟩ := R.box i a h
    refine ⟨by rw [wipe_out hn]; exact q1, s, ?_, q3⟩
    have out : ∀ us : List Nat, i ∉ us → (wipeS S us)[i]? = S[i]? := by
      intro us
      induction us with
      | nil => intro _; rfl
      | cons u us ih =>
        intro hu
        unfold wipeS
        rw [List.getElem?_set_ne (fun e => hu (by simp [e]))]
        exact ih fun z => hu (List.mem_cons_of_mem _ z)
    rw [out vs hn]
    exact q2
/-- no slot to be set aside has a list of its own -/
def okS (vs : List Nat) (S : SS) : Bool := vs.all fun v => match S[v]? with
  | some (some s) => !s.mine
  | _ => true
theorem okS_at {vs : List Nat} {i : Nat} {s : SV} (h : okS vs S = true) (hi : i ∈ vs) (e : S[i]? = some (some s)) : s.mine = false := by
  have := List.all_eq_true.mp h i hi
  rw [e] at this
  simpa using this
theorem Rep.back {H1 B1 : Hp} {S1 : SS} {vs : List Nat} (R : Rep C σ H B S) (R1 : Rep C (wipe σ vs) H1 B1 S1) (e : Same B B1) (ok : okS vs S = true) (hv : ∀ v ∈ vs, n ≤ v) : Rep C σ H1 B1 (backS S S1 vs) := by
  have mine : ∀ (i : Nat) s, (backS S S1 vs)[i]? = some (some s) → s.mine = true → i ∉ vs ∧ S1[i]? = some (some s) := fun i s h m => by
    rcases backS_some h with ⟨h1, h2⟩ | h
    · rw [okS_at ok h1 h2] at m
      cases m
    · exact h
  refine ⟨R1.base, by rw [backS_len, R1.len, wipe_length], fun i s h => ?_, fun i j s u a h1 h2 m1 m2 e1 e2 => ?_, fun i s a h m q => ?_, fun i a h => ?_⟩
  · rcases backS_some h with ⟨h1, h2⟩ | ⟨h1, h2⟩
    · obtain ⟨v, hv, r⟩ := R.slot i s h2
      have hm := okS_at ok h1 h2
      exact ⟨v, hv, SR.mono e (fun m => by rw [hm] at m; cases m) r⟩
    · obtain ⟨v, q, r⟩ := R1.slot i s h2
      rw [wipe_out h1] at q
      exact ⟨v, q, r⟩
  · obtain ⟨p1, p2⟩ := mine i s h1 m1
    obtain ⟨q1, q2⟩ := mine j u h2 m2
    exact R1.dis i j s u a p2 q2 m1 m2 (by rw [wipe_out p1]; exact e1) (by rw [wipe_out q1]; exact e2)
  · obtain ⟨p1, p2⟩ := mine i s h m
    exact R1.ownf i s a p2 m (by rw [wipe_out p1]; exact q)
  · have hn : i ∉ vs := fun z => by
      have := hv i z
      have := (List.getElem?_eq_some_iff.mp h).1
      have := C.hbx
      omega
    obtain ⟨q1, s, q2, q3⟩ := R1.box i a h
    refine ⟨by rw [← wipe_out hn]; exact q1, s, ?_, q3⟩
    have out : ∀ us : List Nat, i ∉ us → (backS S S1 us)[i]? = S1[i]? := by
      intro us
      induction us with
      | nil => intro _; rfl
      | cons u us ih =>
        intro hu
        unfold backS
        rw [List.getElem?_set_ne (fun e => hu (by simp [e]))]
        exact ih fun z => hu (List.mem_cons_of_mem _ z)
    rw [out vs hn]
    exact q2
/-! ### comprehensions -/
def lcF (fg : PyData → SS → R SS) (ft : VT) (fe : VE) (vs : List Nat) : List PyData → SS → R (List PyData × SS)
  | [], S => .ok ([], S)
  | d :: ds, S => (fg d S).bind fun S1 => (ft S1).bind fun p => if p.1 = true then (fe p.2).bind fun q => (lcF fg ft fe vs ds (wipeS q.2 vs)).bind fun r => .ok (q.1 :: r.1, r.2) else lcF fg ft fe vs ds (wipeS p.2 vs)
def vLc (vs : List Nat) (fi : VF) (fg : PyData → SS → R SS) (ft : VT) (fe : VE) : VF := fun S => (fi S).bind fun p => R.when (okS vs p.2 = true ∧ p.1.length ≤ 100000) ((lcF fg ft fe vs p.1 (wipeS p.2 vs)).bind fun r => .ok (r.1, backS p.2 r.2 vs))
def vYes : VT := fun S => .ok (true, S)
theorem s_yes : ST C tYes vYes := fun σ H B S Q R h => h H B R (Same.refl _)
theorem f_lc {wi : TI} {g : TG} {tt : TT} {te : TE} {vs ts : List Nat} {fi : VF} {fg : PyData → SS → R SS} {ft : VT} {fe : VE} (hv : vs.all (fun v => decide (n ≤ v)) = true) (hts : ts.all (fun t => decide (t ∈ vs)) = true) (hi : SI C wi fi)
    (hg : ∀ C' : Ct K n, SG C' g fg ts) (ht : ∀ C' : Ct K n, ST C' tt ft) (he : ∀ C' : Ct K n, SE C' te fe) : SEF C (tLc wi g tt te vs) (vLc vs fi fg ft fe) := by
  intro σ H B S Q R h
  have hv' : ∀ v ∈ vs, n ≤ v := fun v m => of_decide_eq_true (List.all_eq_true.mp hv v m)
  have hts' : ∀ t ∈ ts, t ∈ vs := fun t m => of_decide_eq_true (List.all_eq_true.mp hts t m)
  replace h := post_bind.mp h
  refine hi σ H B S _ R (h.mono fun p h J H1 B1 R1 e1 W => ?_)
  obtain ⟨ds, S1⟩ := p
  dsimp only at h R1 W
  obtain ⟨⟨ok, hlen⟩, h⟩ := post_when.mp h
  replace h := post_bind.mp h
  intro D hD
  obtain ⟨h0, hB1, nb⟩ := R1.new hD
  have hB0 : C.B0 D = none := by
    cases q : C.B0 D with
    | none => rfl
    | some o =>
      rw [R1.base.b0 D o q] at hB1
      cases hB1
  refine ⟨fun i m H' => m = ds.length - i ∧ i ≤ ds.length ∧ ∃ B' S' acc accd, Rep C (wipe σ vs) H' B' S' ∧ Same B1 B' ∧ H' D = some (.lst acc) ∧ Loose C (wipe σ vs) S' B' D ∧ DaAll K B' acc accd ∧ accd.length ≤ i ∧
    Post C (lcF fg ft fe vs (ds.drop i) S') (fun r => ∀ a us H'' B'', Rep C σ H'' B'' (backS S1 r.2 vs) → Same B B'' → H'' a = some (.lst us) → Loose C σ (backS S1 r.2 vs) B'' a → DaAll K B'' us (accd ++ r.1) → Q (.ref a) H''), ⟨ds.length, ?_⟩, ?_⟩
  · obtain ⟨R2, L2⟩ := (R1.wiped hv').newLoose (o := .lst []) hD
    exact ⟨by simp, Nat.zero_le _, B1, wipeS S1 vs, [], [], R2, Same.refl _, upd_same, L2, .nil, Nat.le_refl _, h.mono fun r q => q⟩
  rintro i m H' ⟨rfl, hi, B', S', acc, accd, R', e', hA, L, dA, lA, q⟩
  have eH : Same B1 H' := e'.trans R'.base.bh
  rcases Nat.lt_or_ge i ds.length with hlt | hge
  · refine .inr ⟨W.go i H' hlt eH, _, fun H2 z => ⟨ds.length - (i + 1), by omega, rfl, hlt, z⟩, ?_⟩
    intro x H2 y
    have Rh := R'.hold hA L
    obtain ⟨B2, R2, e2, dx, _⟩ := W.yld i H' H2 x ds[i] (List.getElem?_eq_getElem hlt) y (C.hold D acc) (wipe σ vs) B' S' Rh e'
    rw [List.drop_eq_getElem_cons hlt] at q
    replace q := post_bind.mp q
    refine hg (C.hold D acc) (wipe σ vs) H2 B2 S' x ds[i] _ R2 dx (hold_post h0 (q.mono fun S3 q σ3 R3 l3 k3 => ?_))
    have hw : wipe σ3 vs = wipe σ vs := by
      have hw1 : wipe σ3 vs = wipe (wipe σ vs) vs := wipe_ext l3 fun j hj => k3 j fun z => hj (hts' j z)
      have hw2 : wipe (wipe σ vs) vs = wipe σ vs := wipe_ext (wipe_length _ _) fun j hj => wipe_out hj
      rw [hw1, hw2]
    refine ⟨hw, ?_⟩
    replace q := post_bind.mp q
    -- what a turn leaves is the next turn's start
    have next : ∀ {H4 B4 : Hp} {S4 : SS}, Rep (C.hold D acc) σ3 H4 B4 S4 → Rep C (wipe σ vs) H4 B4 (wipeS S4 vs) ∧ H4 D = some (.lst acc) ∧ Loose C (wipe σ vs) (wipeS S4 vs) B4 D ∧ Rep C σ3 H4 B4 S4 ∧ Loose C σ3 S4 B4 D := fun R4 => by
      obtain ⟨R5, hD5, L5⟩ := R4.unhold h0 hB0 nb
      have R6 := R5.wiped hv'
      rw [hw] at R6
      refine ⟨R6, hD5, ⟨L5.b, h0, fun j u z m e => ?_⟩, R5, L5⟩
      obtain ⟨z1, z2⟩ := wipeS_some z
      refine L5.no j u z2 m ?_
      rw [← hw, wipe_out z1] at e
      exact e
    refine ht (C.hold D acc) σ3 H2 B2 S3 _ R3 (hold_post h0 (q.mono fun p q H3 B3 R4 e3 => ?_))
    obtain ⟨c, S4⟩ := p
    cases c with
    | false =>
      obtain ⟨R6, hD6, L6, _, _⟩ := next R4
      have e13 := e2.trans e3
      exact ⟨B3, wipeS S4 vs, acc, accd, R6, e'.trans e13, hD6, L6, daa_mono e13 dA, by omega, q⟩
    | true =>
      replace q : Post C ((fe S4).bind _) _ := q
      replace q := post_bind.mp q
      refine he (C.hold D acc) σ3 H3 B3 S4 _ R4 (hold_post h0 (q.mono fun r q v H5 B5 R5 e5 d5 => ?_))
      replace q := post_bind.mp q
      obtain ⟨R6, hD6, L6, R7, L7⟩ := next R5
      have e15 := e2.trans (e3.trans e5)
      refine ⟨acc, hD6, Nat.lt_of_lt_of_le (Nat.lt_of_le_of_lt (Nat.le_of_eq (daa_len dA)) (Nat.lt_of_le_of_lt lA hlt)) (line_le hlen), ?_⟩
      have R8 : Rep C (wipe σ vs) (upd H5 D (.lst (acc ++ [v]))) B5 (wipeS r.2 vs) := by
        refine R6.grow ⟨fun a o na z => ?_, R6.base.b0, fun a o z => ?_, R6.base.fr⟩ (Same.refl _) fun a o z1 z2 ⟨j, u, z3, z4, z5⟩ => ⟨?_, z2⟩
        · rw [upd_ne (ne_of_none z h0)]
          exact R6.base.keep a o na z
        · rw [upd_ne (ne_of_none z L6.b)]
          exact R6.base.bh a o z
        · rw [upd_ne]
          · exact z1
          · rintro rfl
            exact L6.no j u z3 z4 z5
      refine ⟨B5, wipeS r.2 vs, acc ++ [v], accd ++ [r.1], R8, e'.trans e15, upd_same, L6, daa_app (daa_mono e15 dA) (.cons d5 .nil), ?_, ?_⟩
      · rw [List.length_append, List.length_singleton]
        omega
      · refine q.mono fun w q a us H'' B'' Ra eb hA' L' d' => q a us H'' B'' Ra eb hA' L' ?_
        rw [List.append_assoc] at d'
        exact d'
  · have ei : i = ds.length := by omega
    subst ei
    rw [List.drop_length] at q
    refine .inl ⟨W.stop H' eH, ?_⟩
    have Rb := R1.back R' e' ok hv'
    refine q D acc H' B' Rb (e1.trans e') hA ⟨L.b, h0, fun j u z m e => ?_⟩ (by rw [List.append_nil]; exact dA)
    rcases backS_some z with ⟨z1, z2⟩ | ⟨z1, z2⟩
    · rw [okS_at ok z1 z2] at m
      cases m
    · exact L.no j u z2 m (by rw [wipe_out z1]; exact e)
end
end Bo

namespace Bo
open PySem L2
section
variable {K : PySem.W.Frag} {n : Nat} {C : Ct K n} {σ : L2.St} {H B : Hp} {S : SS}
/-! ### a slot's own list, read -/
def ownD (S : SS) (i : Nat) : R (List PyData) := match S[i]? with
  | some (some (.own ds)) => .ok ds
  | _ => .bad
theorem own_of {i : Nat} {k : List PyData → Prop} (R : Rep C σ H B S) (h : Post C (ownD S i) k) : ∃ ds a vs, S[i]? = some (some (.own ds)) ∧ σ[i]? = some (some (.ref a)) ∧ H a = some (.lst vs) ∧ DaAll K B vs ds ∧ k ds := by
  unfold ownD at h
  split at h
  · rename_i ds e
    obtain ⟨v, hv, a, vs, rfl, h1, _, h3⟩ := R.slot i _ e
    exact ⟨ds, a, vs, e, hv, h1, h3, h⟩
  · exact h.elim
def vLenO (i : Nat) : VE := fun S => (ownD S i).bind fun ds => .ok (.int ds.length, S)
theorem s_lenO {i : Nat} : SE C (tCB (fun xs H Q => ∃ p ys, xs = [.ref p] ∧ (SqL K H p ys ∨ SqT K H p ys) ∧ Q (.int ys.length) H) (tCons (tVar i) tNil)) (vLenO i) := by
  intro σ H B S Q R h
  obtain ⟨ds, a, vs, e1, e2, e3, e4, h⟩ := own_of R (post_bind.mp h)
  exact ⟨_, e2, a, vs, rfl, .inl (SqL.of e3), by rw [daa_len e4]; exact h _ H B R (Same.refl _) (.int _)⟩
def vIxO (i : Nat) (fk : VE) : VE := fun S => (ownD S i).bind fun _ => (fk S).bind fun p => (ownD p.2 i).bind fun ds => (toI p.1).bind fun k => (ixD ds k).bind fun d => .ok (d, p.2)
theorem s_ixO {i : Nat} {tk : TE} {fk : VE} (hk : SE C tk fk) : SE C (tOp (rIxL K) (tVar i) tk) (vIxO i fk) := by
  intro σ H B S Q R h
  obtain ⟨ds0, a0, vs0, q1, q2, q3, q4, h⟩ := own_of R (post_bind.mp h)
  refine ⟨_, q2, ?_⟩
  replace h := post_bind.mp h
  refine hk σ H B S _ R (h.mono fun p h1 v H1 B1 R1 e1 d1 => ?_)
  obtain ⟨ds, a, vs, e1', e2, e3, e4, h1⟩ := own_of R1 (post_bind.mp h1)
  rw [q2] at e2
  cases e2
  obtain ⟨k, rfl, _, h1⟩ := int_of d1 (post_bind.mp h1)
  unfold ixD at h1
  split at h1
  · rename_i z qz
    obtain ⟨w, hw, dw⟩ := at_da e4 qz
    exact ⟨_, _, _, w, rfl, rfl, SqL.of e3, hw, h1 w H1 B1 R1 e1 dw⟩
  · exact h1.elim
def vInO (neg : Bool) (fa : VE) (i : Nat) : VE := fun S => (fa S).bind fun p => (ownD p.2 i).bind fun ds => R.when (flatD p.1 = true ∧ ds.all flatD = true) (.ok (.bool (if neg then !inD p.1 ds else inD p.1 ds), p.2))
def vTupleO (i : Nat) : VE := fun S => (ownD S i).bind fun ds => .ok (.tuple ds, S)
theorem s_tupleO {i : Nat} : SE C (tCB (fun xs H Q => ∃ p ys, xs = [.ref p] ∧ ((SqL K H p ys ∧ ∀ l, H l = none → Q (.ref l) (upd H l (.tup ys))) ∨ (SqT K H p ys ∧ Q (.ref p) H))) (tCons (tVar i) tNil)) (vTupleO i) := by
  intro σ H B S Q R h
  obtain ⟨ds, a, vs, e1, e2, e3, e4, h⟩ := own_of R (post_bind.mp h)
  refine ⟨_, e2, a, vs, rfl, .inl ⟨SqL.of e3, fun l hl => ?_⟩⟩
  obtain ⟨B', R1, e1, d1⟩ := R.tup hl e4
  exact h _ _ B' R1 e1 d1
def vListO (i : Nat) : VF := fun S => (ownD S i).bind fun ds => .ok (ds, S)
def vTruO (i : Nat) : VT := fun S => (ownD S i).bind fun ds => .ok (!ds.isEmpty, S)
/-! ### a slot's own list, changed -/
/-- xs.append(e) -/
def vApp (i : Nat) (fe : VE) : VE := fun S => (ownD S i).bind fun _ => (fe S).bind fun p => (ownD p.2 i).bind fun ds => R.when (ds.length < 100000) (.ok (.none, p.2.set i (some (.own (ds ++ [p.1])))))
theorem s_app {i : Nat} {te : TE} {fe : VE} (he : SE C te fe) : SE C (tBM K "list" rAppend (tVar i) (tCons te tNil)) (vApp i fe) := by
  intro σ H B S Q R h
  obtain ⟨ds0, a0, vs0, q1, q2, q3, q4, h⟩ := own_of R (post_bind.mp h)
  refine ⟨_, q2, .inl ⟨rfl, _, SqL.of q3⟩, ?_⟩
  replace h := post_bind.mp h
  refine he σ H B S _ R (h.mono fun p h1 v H1 B1 R1 e1 d1 => ?_)
  obtain ⟨ds, a, vs, p1, p2, p3, p4, h1⟩ := own_of R1 (post_bind.mp h1)
  rw [q2] at p2
  cases p2
  obtain ⟨k, h1⟩ := post_when.mp h1
  refine ⟨_, vs, v, rfl, rfl, p3, Nat.lt_of_lt_of_le (by rw [daa_len p4]; exact k) (by decide), ?_⟩
  obtain ⟨_, _, w1, w2, w3⟩ := R1.own_at p1 rfl
  rw [q2] at w1
  cases w1
  exact h1 _ _ B1 (R1.write p1 rfl rfl q2 ⟨_, vs ++ [v], rfl, upd_same, w3, daa_app p4 (.cons d1 .nil)⟩) e1 .non
/-- xs[k] = e -/
def vSetI (i : Nat) (fk fe : VE) : VS := fun S => (fe S).bind fun p => (ownD p.2 i).bind fun _ => (fk p.2).bind fun q => (ownD q.2 i).bind fun ds => (toI q.1).bind fun k => match ixN ds.length k with
  | some j => .ok (.nx (q.2.set i (some (.own (ds.set j p.1)))))
  | none => .bad
theorem st_setI {i : Nat} {tk te : TE} {fk fe : VE} (hk : SE C tk fk) (he : SE C te fe) : SSt C (tAsg te (gSub (tVar i) tk rSetL)) (vSetI i fk fe) := by
  intro σ H B S D R h
  replace h := post_bind.mp h
  refine he σ H B S _ R (h.mono fun p h1 v H1 B1 R1 e1 d1 => ?_)
  obtain ⟨ds0, a0, vs0, q1, q2, q3, q4, h1⟩ := own_of R1 (post_bind.mp h1)
  refine ⟨_, q2, ?_⟩
  replace h1 := post_bind.mp h1
  refine hk σ H1 B1 p.2 _ R1 (h1.mono fun q h2 w H2 B2 R2 e2 d2 => ?_)
  obtain ⟨ds, a, vs, p1, p2, p3, p4, h2⟩ := own_of R2 (post_bind.mp h2)
  rw [q2] at p2
  cases p2
  obtain ⟨k, rfl, _, h2⟩ := int_of d2 (post_bind.mp h2)
  split at h2
  · rename_i j ej
    obtain ⟨_, _, w1, w2, w3⟩ := R2.own_at p1 rfl
    rw [q2] at w1
    cases w1
    refine ⟨_, vs, k, j, rfl, rfl, p3, by rw [daa_len p4]; exact ej, ?_⟩
    exact h2 _ _ B2 (R2.write p1 rfl rfl q2 ⟨_, vs.set j v, rfl, upd_same, w3, daa_set j p4 (da_mono e2 d1)⟩) (e1.trans e2)
  · exact h2.elim
/-! ### dicts of a slot -/
def keyD : PyData → R Key
  | .int i => .ok (.inl i)
  | .str x => .ok (.inr x)
  | _ => .bad
def putD (kvs : List (Key × PyData)) (k : Key) (d : PyData) : List (Key × PyData) :=
  if (kvs.any fun kv => decide (kv.1 = k)) = true then kvs.map (fun kv => if kv.1 = k then (kv.1, d) else kv) else kvs ++ [(k, d)]
def dicD (S : SS) (i : Nat) : R (List (Key × PyData)) := match S[i]? with
  | some (some (.dic ds)) => .ok ds
  | _ => .bad
/-- d[k] = e: the value first -/
def vPutD (i : Nat) (fk fe : VE) : VS := fun S => (fe S).bind fun p => (dicD p.2 i).bind fun _ => (fk p.2).bind fun q => (keyD q.1).bind fun y => (dicD q.2 i).bind fun kvs => R.when (kvs.length < 100000) (.ok (.nx (q.2.set i (some (.dic (putD kvs y p.1))))))
/-! ### calls -/
def Frz (H B B' : Hp) : Prop := ∀ a o, B' a = some o → B a = some o ∨ H a = none
def R.okTo {α : Type} (x : R α) (k : α → Prop) : Prop := match x with
  | .ok a => k a
  | _ => False
def R.noErr {α : Type} (x : R α) : R α := match x with
  | .ok a => .ok a
  | _ => .bad
/-- a def that changes nothing and raises nothing -/
def spP (K : PySem.W.Frag) (m : Nat) (den : List PyData → R PyData) : Sp := fun vs H Q _ => ∃ (ds : List PyData) (B : Hp), DaAll K B vs ds ∧ Same B H ∧ ds.length = m ∧
  (den ds).okTo fun z => ∀ v H' B', Same H H' → Same B B' → Same B' H' → Frz H B B' → Da K B' v z → Q v H'
/-- a def whose first argument is a list that it may change -/
def spB (K : PySem.W.Frag) (m : Nat) (den : List PyData → List PyData → R (PyData × List PyData)) : Sp := fun vs H Q _ => ∃ (a : Addr) (us ws : List V) (bs ds : List PyData) (B : Hp), vs = .ref a :: us ∧ H a = some (.lst ws) ∧ B a = none ∧ DaAll K B ws bs ∧ DaAll K B us ds ∧ Same B H ∧ ds.length = m ∧
  (den bs ds).okTo fun z => ∀ v H' B' ws', (∀ b o, b ≠ a → H b = some o → H' b = some o) → Same B B' → Same B' H' → Frz H B B' → B' a = none → H' a = some (.lst ws') → DaAll K B' ws' z.2 → Da K B' v z.1 → Q v H'
/-- a def of the script -/
def spS (K : PySem.W.Frag) (den : List Int → R PyData) : Sp := fun vs H Q _ => ∃ (a : Addr) (ns : List Int) (B : Hp), vs = [.ref a] ∧ SqL K B a (ns.map V.int) ∧ Same B H ∧
  (den ns).okTo fun z => ∀ v H' B', Same H H' → Same B B' → Same B' H' → Frz H B B' → Da K B' v z → Q v H'
theorem okTo_of {α : Type} {x : R α} {k : α → Prop} (h : Post C x.noErr k) : x.okTo k := by
  cases x with
  | ok a => exact h
  | err e => exact h.elim
  | bad => exact h.elim
theorem R.okTo.mono {α : Type} {x : R α} {k k' : α → Prop} (h : x.okTo k) (m : ∀ a, k a → k' a) : x.okTo k' := by
  cases x with
  | ok a => exact m a h
  | err e => exact h
  | bad => exact h
/-- behind a call that changed nothing of ours -/
theorem Rep.after {H' B' : Hp} (R : Rep C σ H B S) (sH : Same H H') (sB : Same B B') (bh : Same B' H') (fz : Frz H B B') : Rep C σ H' B' S := by
  refine R.grow ⟨fun a o na q => sH a o (R.base.keep a o na q), R.base.b0.trans sB, bh, fun a o q => ?_⟩ sB fun a o h1 h2 _ => ⟨sH a o h1, ?_⟩
  · rcases fz a o q with z | z
    · exact R.base.fr a o z
    · exact .inr (R.new z).1
  · cases q : B' a with
    | none => rfl
    | some u =>
      rcases fz a u q with z | z
      · exact nomatch (h2.symm.trans z)
      · exact nomatch (h1.symm.trans z)
def vCallP (m : Nat) (den : List PyData → R PyData) (fa : VA) : VE := fun S => (fa S).bind fun p => R.when (p.1.length = m) (((den p.1).noErr).bind fun z => .ok (z, p.2))
theorem s_callP {m : Nat} {den : List PyData → R PyData} {E : XK} {ta : TA} {fa : VA} (ha : SA C ta fa) : SE C (tCall (spP K m den) [] E ta) (vCallP m den fa) := by
  intro σ H B S Q R h
  replace h := post_bind.mp h
  refine ha σ H B S _ R (h.mono fun p h1 vs H1 B1 R1 e1 d1 => ?_)
  obtain ⟨k, h1⟩ := post_when.mp h1
  replace h1 := post_bind.mp h1
  rw [List.append_nil]
  exact ⟨p.1, B1, d1, R1.base.bh, k, (okTo_of h1).mono fun z h2 v H' B' sH sB bh fz dv => h2 v H' B' (R1.after sH sB bh fz) (e1.trans sB) dv⟩
/-- behind a call that changed our slot's list -/
theorem Rep.afterB {H' B' : Hp} {i : Nat} {a : Addr} {s s' : SV} {o' : HO} (R : Rep C σ H B S) (h : S[i]? = some (some s)) (m : s.mine = true) (m' : s'.mine = true) (hv : σ[i]? = some (some (.ref a))) (sH : ∀ b o, b ≠ a → H b = some o → H' b = some o) (sB : Same B B') (bh : Same B' H') (fz : Frz H B B')
    (hb : B' a = none) (hH : H' a = some o') (r : SR C H' B' (.ref a) s') : Rep C σ H' B' (S.set i (some s')) := by
  obtain ⟨a', o, e1, e2, e3⟩ := R.own_at h m
  rw [hv] at e1
  cases e1
  -- first the change at a alone, then the growth of the rest
  have hl : i < S.length := (List.getElem?_eq_some_iff.mp h).1
  have at_ : ∀ j u, (S.set i (some s'))[j]? = some (some u) → (j = i ∧ u = s') ∨ (j ≠ i ∧ S[j]? = some (some u)) := fun j u h => by
    by_cases e : j = i
    · subst e
      rw [List.getElem?_set_self hl] at h
      cases h
      exact .inl ⟨rfl, rfl⟩
    · rw [List.getElem?_set_ne (Ne.symm e)] at h
      exact .inr ⟨e, h⟩
  have old : ∀ (j : Nat) (u : SV), (S.set i (some s'))[j]? = some (some u) → u.mine = true → ∃ u' : SV, S[j]? = some (some u') ∧ u'.mine = true := fun j u h2 m2 => by
    rcases at_ j u h2 with ⟨x1, x2⟩ | ⟨x1, x2⟩
    · subst x1
      exact ⟨s, h, m⟩
    · exact ⟨u, x2, m2⟩
  refine ⟨⟨fun b u nb q => ?_, R.base.b0.trans sB, bh, fun b u q => ?_⟩, by simp [R.len], fun j u h2 => ?_, fun j k u w b h1 h2 m1 m2 q1 q2 => ?_, fun j u b h1 m e => ?_, fun j b h1 => ?_⟩
  · refine sH b u ?_ (R.base.keep b u nb q)
    rintro rfl
    rcases R.ownf i s b h m hv with z | z
    · rw [z] at q
      cases q
    · exact nb (List.mem_of_getElem? z)
  · rcases fz b u q with z | z
    · exact R.base.fr b u z
    · exact .inr (R.new z).1
  · rcases at_ j u h2 with ⟨x1, x2⟩ | ⟨x1, x2⟩
    · subst x1 x2
      exact ⟨_, hv, r⟩
    · obtain ⟨v, q1, q2⟩ := R.slot j u x2
      refine ⟨v, q1, SR.mono sB (fun mu b e ob h1 h2 => ⟨sH b ob ?_ h1, ?_⟩) q2⟩
      · rintro rfl
        exact x1 (R.dis j i u s b x2 h mu m (by rw [q1, e]) hv)
      · cases q : B' b with
        | none => rfl
        | some w =>
          rcases fz b w q with z | z
          · exact nomatch (h2.symm.trans z)
          · exact nomatch (h1.symm.trans z)
  · obtain ⟨u', z1, z2⟩ := old j u h1 m1
    obtain ⟨w', z3, z4⟩ := old k w h2 m2
    exact R.dis j k u' w' b z1 z3 z2 z4 q1 q2
  · obtain ⟨u', z1, z2⟩ := old j u h1 m
    exact R.ownf j u' b z1 z2 e
  · obtain ⟨q1, u, q2, q3⟩ := R.box j b h1
    refine ⟨q1, ?_⟩
    by_cases e : j = i
    · subst e
      exact ⟨s', List.getElem?_set_self hl, m'⟩
    · rw [List.getElem?_set_ne (Ne.symm e)]
      exact ⟨u, q2, q3⟩
def vCallB (m : Nat) (den : List PyData → List PyData → R (PyData × List PyData)) (i : Nat) (fa : VA) : VE := fun S => (ownD S i).bind fun _ => (fa S).bind fun p => (ownD p.2 i).bind fun bs => R.when (p.1.length = m) (((den bs p.1).noErr).bind fun z => .ok (z.1, p.2.set i (some (.own z.2))))
theorem s_callB {m i : Nat} {den : List PyData → List PyData → R (PyData × List PyData)} {E : XK} {ta : TA} {fa : VA} (ha : SA C ta fa) : SE C (tCall (spB K m den) [] E (tCons (tVar i) ta)) (vCallB m den i fa) := by
  intro σ H B S Q R h
  obtain ⟨ds0, a0, vs0, q1, q2, q3, q4, h⟩ := own_of R (post_bind.mp h)
  refine ⟨_, q2, ?_⟩
  replace h := post_bind.mp h
  refine ha σ H B S _ R (h.mono fun p h1 vs H1 B1 R1 e1 d1 => ?_)
  obtain ⟨bs, a, ws, p1, p2, p3, p4, h1⟩ := own_of R1 (post_bind.mp h1)
  rw [q2] at p2
  cases p2
  obtain ⟨k, h1⟩ := post_when.mp h1
  replace h1 := post_bind.mp h1
  obtain ⟨_, _, w1, w2, w3⟩ := R1.own_at p1 rfl
  rw [q2] at w1
  cases w1
  rw [List.append_nil]
  exact ⟨_, vs, ws, bs, p.1, B1, rfl, p3, w3, p4, d1, R1.base.bh, k, (okTo_of h1).mono fun z h2 v H' B' ws' sH sB bh fz hb hH dw dv =>
    h2 v H' B' (R1.afterB p1 rfl rfl q2 sH sB bh fz hb hH ⟨_, ws', rfl, hH, hb, dw⟩) (e1.trans sB) dv⟩
def vCallD (m : Nat) (den : List (Key × PyData) → List PyData → R (PyData × List (Key × PyData))) (i : Nat) (fa : VA) : VE := fun S => (dicD S i).bind fun _ => (fa S).bind fun p => (dicD p.2 i).bind fun bs => R.when (p.1.length = m) (((den bs p.1).noErr).bind fun z => .ok (z.1, p.2.set i (some (.dic z.2))))
/-- the script -/
def vCallS (den : List Int → R PyData) (i : Nat) : VE := fun S => match S[i]? with
  | some (some (.scr ns)) => ((den ns).noErr).bind fun z => .ok (z, S)
  | _ => .bad
theorem s_callS {i : Nat} {den : List Int → R PyData} {E : XK} : SE C (tCall (spS K den) [] E (tCons (tVar i) tNil)) (vCallS den i) := by
  intro σ H B S Q R h
  unfold vCallS at h
  split at h
  · rename_i ns e
    obtain ⟨v, hv, a, rfl, sq⟩ := R.slot i _ e
    refine ⟨_, hv, ?_⟩
    replace h := post_bind.mp h
    exact ⟨a, ns, B, rfl, sq, R.base.bh, (okTo_of h).mono fun z h2 v H' B' sH sB bh fz dv => h2 v H' B' (R.after sH sB bh fz) sB dv⟩
  · exact h.elim
/-- for x in script -/
theorem walks_scr {a : Addr} {ns : List Int} (s : SqL K B a (ns.map V.int)) : Walks C B (Itl K a) (ns.map PyData.int) where
  go := fun i H hi e => by
    rw [List.length_map] at hi
    exact ⟨_, .int ns[i], sm_l e s, by rw [List.getElem?_map, List.getElem?_eq_getElem hi]; rfl⟩
  stop := fun H e => ⟨_, sm_l e s, by rw [List.length_map, List.length_map]; exact Nat.le_refl _⟩
  yld := fun i H H' x d hd y C σ B1 S R e => by
    obtain ⟨rfl, y⟩ := y
    have hx := y _ (sm_l (e.trans R.base.bh) s)
    rw [List.getElem?_map] at hx hd
    cases q : ns[i]? with
    | none => rw [q] at hd; cases hd
    | some z =>
      rw [q] at hx hd
      cases hx
      cases hd
      exact ⟨B1, R, Same.refl _, .int _, fun _ _ z => z⟩
def vScr (i : Nat) : VF := fun S => match S[i]? with
  | some (some (.scr ns)) => .ok (ns.map PyData.int, S)
  | _ => .bad
theorem i_scr {i : Nat} : SI C (iList K (tVar i)) (vScr i) := by
  intro σ H B S Rr R h
  unfold vScr at h
  split at h
  · rename_i ns e
    obtain ⟨v, hv, a, rfl, sq⟩ := R.slot i _ e
    exact ⟨_, hv, a, rfl, ⟨_, sm_l R.base.bh sq⟩, h _ H B R (Same.refl _) (walks_scr sq)⟩
  · exact h.elim
/-! ### a def by its body -/
def endP (x : R FL) : R PyData := x.bind fun fl => match fl with
  | .nx _ => .ok .none
  | .rt d _ => .ok d
  | _ => .bad
def startS (N : Nat) (ds : List PyData) : SS := ds.map (fun d => some (.dat d)) ++ List.replicate (N - ds.length) none
/-- what a def is worth: N names, its body -/
def denP (N : Nat) (f : VS) : List PyData → R PyData := fun ds => endP (f (startS N ds))
theorem startS_some {N : Nat} {ds : List PyData} {i : Nat} {s : SV} (h : (startS N ds)[i]? = some (some s)) : ∃ d, ds[i]? = some d ∧ s = .dat d := by
  unfold startS at h
  by_cases hi : i < ds.length
  · rw [List.getElem?_append_left (by rw [List.length_map]; exact hi), List.getElem?_map, List.getElem?_eq_getElem hi] at h
    cases h
    exact ⟨_, List.getElem?_eq_getElem hi, rfl⟩
  · rw [List.getElem?_append_right (by rw [List.length_map]; omega), List.getElem?_replicate] at h
    split at h <;> cases h
theorem start_get {N : List Str} {vs : List V} {i : Nat} {v : V} (h : vs[i]? = some v) : (L2.start N vs)[i]? = some (some v) := by
  have hi := (List.getElem?_eq_some_iff.mp h).1
  unfold L2.start
  rw [List.getElem?_append_left (by rw [List.length_map]; exact hi), List.getElem?_map, h]
  rfl
def ct0 (H B : Hp) (er : Exc → V → Hp → Prop) : Ct K 0 := ⟨H, B, [], rfl, er⟩
theorem rep_start {N : List Str} {vs : List V} {ds : List PyData} {er : Exc → V → Hp → Prop} (d : DaAll K B vs ds) (bh : Same B H) : Rep (ct0 (K := K) H B er) (L2.start N vs) H B (startS N.length ds) := by
  have nomine : ∀ (i : Nat) s, (startS N.length ds)[i]? = some (some s) → s.mine = true → False := fun i s h m => by
    obtain ⟨d, _, rfl⟩ := startS_some h
    cases m
  refine ⟨⟨fun a o _ q => q, Same.refl _, bh, fun a o q => .inl q⟩, ?_, fun i s h => ?_, fun i j s u a h1 h2 m1 m2 e1 e2 => (nomine i s h1 m1).elim, fun i s a h m e => (nomine i s h m).elim, fun i a h => nomatch (show (none : Option (Option Addr)) = some (some a) from h)⟩
  · unfold startS L2.start
    rw [List.length_append, List.length_append, List.length_map, List.length_map, List.length_replicate, List.length_replicate, daa_len d]
  · obtain ⟨d', h1, rfl⟩ := startS_some h
    obtain ⟨v, h2, h3⟩ := daa_get d h1
    exact ⟨v, start_get h2, h3⟩
theorem len_P {m : Nat} {den : List PyData → R PyData} {vs : List V} {Q : VK} {E : XK} (h : spP K m den vs H Q E) : vs.length = m := by
  obtain ⟨ds, B, d, _, e, _⟩ := h
  rw [daa_len d, e]
theorem post_okTo {α : Type} {x : R α} {k : α → Prop} {n : Nat} {C : Ct K n} (h : x.okTo k) : Post C x k := by
  cases x with
  | ok a => exact h
  | err e => exact h.elim
  | bad => exact h.elim
theorem run_P {m : Nat} {N : List Str} {f : VS} {t : TS} {vs : List V} {Q : VK} {E : XK} (s : ∀ C : Ct K 0, SSt C t f) (h : spP K m (denP N.length f) vs H Q E) : t { nx := fun _ H' => Q .non H', rt := Q } (L2.start N vs) H := by
  obtain ⟨ds, B, d, bh, _, h⟩ := h
  have R := rep_start (N := N) (er := fun _ _ _ => True) d bh
  refine s _ _ H B _ _ R ?_
  unfold denP endP at h
  have h2 := post_okTo (C := ct0 (K := K) H B fun _ _ _ => True) h
  refine (post_bind.mp h2).mono fun fl q => ?_
  cases fl with
  | nx S => exact fun σ' H' B' R' e => q .non H' B' (fun a o z => R'.base.keep a o (by simp [ct0]) z) e R'.base.bh (fun a o z => R'.base.fr a o z) .non
  | rt d S => exact fun v σ' H' B' R' e dv => q v H' B' (fun a o z => R'.base.keep a o (by simp [ct0]) z) e R'.base.bh (fun a o z => R'.base.fr a o z) dv
  | bk S => exact q.elim
  | ct S => exact q.elim
/-- .. with a list that it may change -/
def endB (x : R FL) : R (PyData × List PyData) := x.bind fun fl => match fl with
  | .nx S => (ownD S 0).bind fun bs => .ok (.none, bs)
  | .rt d S => (ownD S 0).bind fun bs => .ok (d, bs)
  | _ => .bad
def denB (N : Nat) (f : VS) : List PyData → List PyData → R (PyData × List PyData) := fun bs ds => endB (f (some (.own bs) :: startS (N - 1) ds))
def ct1 (H B : Hp) (a : Addr) (er : Exc → V → Hp → Prop) : Ct K 1 := ⟨H, B, [some a], rfl, er⟩
theorem rep_startB {x : Str} {N : List Str} {a : Addr} {us : List V} {ds : List PyData} {s : SV} {er : Exc → V → Hp → Prop} (m : s.mine = true) (r : SR (ct1 (K := K) H B a er) H B (.ref a) s) (d : DaAll K B us ds) (bh : Same B H) :
    Rep (ct1 (K := K) H B a er) (L2.start (x :: N) (.ref a :: us)) H B (some s :: startS N.length ds) := by
  have e0 : L2.start (x :: N) (.ref a :: us) = some (.ref a) :: L2.start N us := by
    unfold L2.start
    rw [List.map_cons, List.length_cons, List.length_cons, Nat.add_sub_add_right]
    rfl
  rw [e0]
  have mine : ∀ (i : Nat) u, (some s :: startS N.length ds)[i]? = some (some u) → u.mine = true → i = 0 := fun i u h mu => by
    cases i with
    | zero => rfl
    | succ i =>
      obtain ⟨d, _, rfl⟩ := startS_some (show (startS N.length ds)[i]? = some (some u) from h)
      cases mu
  refine ⟨⟨fun a o _ q => q, Same.refl _, bh, fun a o q => .inl q⟩, ?_, fun i u h => ?_, fun i j s u a h1 h2 m1 m2 e1 e2 => by rw [mine i s h1 m1, mine j u h2 m2], fun i u b h mu e => ?_, fun i b h => ?_⟩
  · unfold startS L2.start
    rw [List.length_cons, List.length_cons, List.length_append, List.length_append, List.length_map, List.length_map, List.length_replicate, List.length_replicate, daa_len d]
  · cases i with
    | zero =>
      cases (Option.some.inj (Option.some.inj (show some (some s) = some (some u) from h)))
      exact ⟨_, rfl, r⟩
    | succ i =>
      obtain ⟨d', h1, rfl⟩ := startS_some (show (startS N.length ds)[i]? = some (some u) from h)
      obtain ⟨v, h2, h3⟩ := daa_get d h1
      exact ⟨v, start_get h2, h3⟩
  · have z := mine i u h mu
    subst z
    have e' : some (some (V.ref a)) = some (some (V.ref b)) := e
    cases e'
    exact .inr rfl
  · cases i with
    | zero =>
      have h' : some (some a) = some (some b) := h
      cases h'
      exact ⟨rfl, s, rfl, m⟩
    | succ i => exact nomatch (show (none : Option (Option Addr)) = some (some b) from h)
theorem len_B {m : Nat} {den : List PyData → List PyData → R (PyData × List PyData)} {vs : List V} {Q : VK} {E : XK} (h : spB K m den vs H Q E) : vs.length = m + 1 := by
  obtain ⟨a, us, ws, bs, ds, B, rfl, _, _, _, d, _, e, _⟩ := h
  rw [List.length_cons, daa_len d, e]
theorem run_B {m : Nat} {x : Str} {N : List Str} {f : VS} {t : TS} {vs : List V} {Q : VK} {E : XK} (s : ∀ C : Ct K 1, SSt C t f) (h : spB K m (denB (x :: N).length f) vs H Q E) : t { nx := fun _ H' => Q .non H', rt := Q } (L2.start (x :: N) vs) H := by
  obtain ⟨a, us, ws, bs, ds, B, rfl, hH, hB, dw, d, bh, _, h⟩ := h
  have R := rep_startB (x := x) (N := N) (er := fun _ _ _ => True) (s := .own bs) rfl ⟨a, ws, rfl, hH, hB, dw⟩ d bh
  refine s _ _ H B _ _ R ?_
  unfold denB endB at h
  have h2 := post_okTo (C := ct1 (K := K) H B a fun _ _ _ => True) h
  refine (post_bind.mp h2).mono fun fl q => ?_
  have fin : ∀ {S : SS} {z : PyData} {σ' : L2.St} {H' B' : Hp} {v : V}, Post (ct1 (K := K) H B a fun _ _ _ => True) (ownD S 0) (fun bs => ∀ v H' B' ws', (∀ b o, b ≠ a → H b = some o → H' b = some o) → Same B B' → Same B' H' → Frz H B B' → B' a = none → H' a = some (.lst ws') → DaAll K B' ws' bs → Da K B' v z → Q v H') →
      Rep (ct1 (K := K) H B a fun _ _ _ => True) σ' H' B' S → Same B B' → Da K B' v z → Q v H' := fun {S z σ' H' B' v} q R' e dv => by
    obtain ⟨bs', a', ws', q1, q2, q3, q4, q⟩ := own_of R' q
    obtain ⟨e0, _⟩ := R'.box 0 a rfl
    rw [q2] at e0
    cases e0
    obtain ⟨_, _, w1, w2, w3⟩ := R'.own_at q1 rfl
    rw [q2] at w1
    cases w1
    exact q v H' B' ws' (fun b o nb z => R'.base.keep b o (by simpa [ct1] using nb) z) e R'.base.bh (fun b o z => R'.base.fr b o z) w3 q3 q4 dv
  cases fl with
  | nx S => exact fun σ' H' B' R' e => fin (post_bind.mp q) R' e .non
  | rt d S => exact fun v σ' H' B' R' e dv => fin (post_bind.mp q) R' e dv
  | bk S => exact q.elim
  | ct S => exact q.elim
/-- .. of the script -/
def denS (N : Nat) (f : VS) : List Int → R PyData := fun ns => endP (f (some (.scr ns) :: List.replicate (N - 1) none))
theorem len_S {den : List Int → R PyData} {vs : List V} {Q : VK} {E : XK} (h : spS K den vs H Q E) : vs.length = 1 := by
  obtain ⟨a, ns, B, rfl, _⟩ := h
  rfl
theorem run_S {x : Str} {N : List Str} {f : VS} {t : TS} {vs : List V} {Q : VK} {E : XK} (s : ∀ C : Ct K 0, SSt C t f) (h : spS K (denS (x :: N).length f) vs H Q E) : t { nx := fun _ H' => Q .non H', rt := Q } (L2.start (x :: N) vs) H := by
  obtain ⟨a, ns, B, rfl, sq, bh, h⟩ := h
  have at_ : ∀ (i : Nat) u, (some (SV.scr ns) :: List.replicate ((x :: N).length - 1) none)[i]? = some (some u) → i = 0 ∧ u = .scr ns := fun i u q => by
    cases i with
    | zero => exact ⟨rfl, (Option.some.inj (Option.some.inj (show some (some (SV.scr ns)) = some (some u) from q))).symm⟩
    | succ i =>
      have q' : (List.replicate ((x :: N).length - 1) (none : Option SV))[i]? = some (some u) := q
      rw [List.getElem?_replicate] at q'
      split at q' <;> cases q'
  have R : Rep (ct0 (K := K) H B fun _ _ _ => True) (L2.start (x :: N) [V.ref a]) H B (some (.scr ns) :: List.replicate ((x :: N).length - 1) none) := by
    refine ⟨⟨fun a o _ q => q, Same.refl _, bh, fun a o q => .inl q⟩, ?_, fun i s h => ?_, fun i j s u a h1 h2 m1 m2 e1 e2 => ?_, fun i s a h m e => ?_, fun i a h => nomatch (show (none : Option (Option Addr)) = some (some a) from h)⟩
    · unfold L2.start
      simp
    · obtain ⟨rfl, rfl⟩ := at_ i s h
      exact ⟨_, start_get rfl, a, rfl, sq⟩
    · obtain ⟨rfl, rfl⟩ := at_ i s h1
      cases m1
    · obtain ⟨rfl, rfl⟩ := at_ i s h
      cases m
  refine s _ _ H B _ _ R ?_
  unfold denS endP at h
  have h2 := post_okTo (C := ct0 (K := K) H B fun _ _ _ => True) h
  refine (post_bind.mp h2).mono fun fl q => ?_
  cases fl with
  | nx S => exact fun σ' H' B' R' e => q .non H' B' (fun a o z => R'.base.keep a o (by simp [ct0]) z) e R'.base.bh (fun a o z => R'.base.fr a o z) .non
  | rt d S => exact fun v σ' H' B' R' e dv => q v H' B' (fun a o z => R'.base.keep a o (by simp [ct0]) z) e R'.base.bh (fun a o z => R'.base.fr a o z) dv
  | bk S => exact q.elim
  | ct S => exact q.elim
end
end Bo

namespace Bo
open PySem L2
section
variable {K : PySem.W.Frag} {n : Nat} {C : Ct K n} {σ : L2.St} {H B : Hp} {S : SS}
def cMulS (i j : Int) : Bool := decide ((-(2 ^ 64) < i ∧ i < 2 ^ 64) ∨ (-(2 ^ 64) < j ∧ j < 2 ^ 64))
theorem o_mulS : SR2 C (rI CMul fun i j => .int (i * j)) (gIC cMulS fun i j => i * j) := o_ic fun i j h => by
  unfold cMulS at h
  have h' := of_decide_eq_true h
  exact h'
def cPow (i j : Int) : Bool := decide (0 ≤ j ∧ j ≤ 1000000 ∧ i.natAbs < 2 ^ 64)
theorem o_pow : SR2 C (rI CPow fun i j => .int (i ^ j.toNat)) (gIC cPow fun i j => i ^ j.toNat) := o_ic fun i j h => by
  unfold cPow at h
  have h' := of_decide_eq_true h
  exact h'
/-! new lists by + and * -/
def vRepF (fa fb : VE) : VF := fun S => (fa S).bind fun p => (fb p.2).bind fun q => match p.1, q.1 with
  | .list ds, .int k => R.when (ds.length * k.toNat ≤ 100000 ∧ k ≤ 100000 ∧ -100000 ≤ k) (.ok ((List.replicate k.toNat ds).flatten, q.2))
  | _, _ => .bad
/-! texts -/
def gLenS : List PyData → R PyData
  | [.str x] => R.when (x.length ≤ 100000) (.ok (.int x.length))
  | _ => .bad
theorem c_lenS : SCR C (fun xs H Q => ∃ z, xs = [.str z] ∧ z.length ≤ sizeLine ∧ Q (.int z.length) H) gLenS := by
  intro σ H B S xs ds Q R d h
  cases d with
  | nil => exact h.elim
  | cons h1 t =>
    cases t with
    | cons h2 t => cases h1 <;> exact h.elim
    | nil =>
      cases h1 with
      | str x =>
        obtain ⟨k, h⟩ := post_when.mp h
        exact ⟨_, rfl, line_le k, h _ H B R (Same.refl _) (.int _)⟩
      | _ => exact h.elim
def gStrI : List PyData → R PyData
  | [.int i] => R.when (i.natAbs < 2 ^ 1900) (.ok (.str (toString i)))
  | _ => .bad
theorem c_strI : SCR C (fun xs H Q => ∃ i, xs = [.int i] ∧ i.natAbs.log2 < 1920 ∧ Q (.str (toString i)) H) gStrI := by
  intro σ H B S xs ds Q R d h
  cases d with
  | nil => exact h.elim
  | cons h1 t =>
    cases t with
    | cons h2 t => cases h1 <;> exact h.elim
    | nil =>
      cases h1 with
      | int i =>
        obtain ⟨k, h⟩ := post_when.mp h
        exact ⟨_, rfl, Nat.lt_trans (lg_lt k (by decide)) (by decide), h _ H B R (Same.refl _) (.str _)⟩
      | _ => exact h.elim
/-! equal data -/
open Classical in
noncomputable def denEq (m : Nat) : List PyData → R PyData
  | [a, b] => if a = b ∧ Dn m a then .ok (.bool true) else .bad
  | _ => .bad
theorem denEq_ok {m : Nat} {a b : PyData} (e : a = b) (h : Dn m a) : denEq m [a, b] = .ok (.bool true) := if_pos ⟨e, h⟩
end
end Bo

/-! ### enumerate and zip over lists and tuples in any mix: out of what next tells of any two sources -/
namespace Bo
open PySem L2
/-- a list, or a tuple -/
inductive Kd where
  | L | T
namespace Kd
def Sq (k : Kd) (K : PySem.W.Frag) (H : Hp) (a : Addr) (xs : List V) : Prop := match k with
  | .L => SqL K H a xs
  | .T => SqT K H a xs
def Is (k : Kd) (h : Heap) (a : Addr) (items : Array Value) : Prop := match k with
  | .L => h.IsList a items
  | .T => h.IsTuple a items
def At (k : Kd) (h : Heap) (it a : Addr) (i : Nat) : Prop := match k with
  | .L => h.IsListIter it a i
  | .T => h.IsTupleIter it a i
def ob (k : Kd) (a : Addr) : Obj := match k with
  | .L => { cls := .type "list_iterator", data := .fields #[.ref a, .int 0 0] }
  | .T => { cls := .type "tuple_iterator", data := .fields #[.ref a, .int 0 0] }
variable {k : Kd} {K : PySem.W.Frag} {a it : Addr} {h h' : Heap} {items : Array Value}
theorem begins : Begins (.ref a) (k.ob a) (fun h => k.Is h a items) := match k with
  | .L => begins_list a items
  | .T => begins_tuple a items
theorem start_ (e : h.get? it = some (k.ob a)) : k.At h it a 0 := match k with
  | .L => ⟨_, e, rfl, rfl⟩
  | .T => ⟨_, e, rfl, rfl⟩
theorem live {i : Nat} (st : k.At h it a i) : ∃ o, h.get? it = some o ∧ ∀ v, o.data ≠ .cell v := match k, st with
  | .L, ⟨o, e, _, d⟩ => ⟨o, e, fun v z => nomatch (d.symm.trans z)⟩
  | .T, ⟨o, e, _, d⟩ => ⟨o, e, fun v z => nomatch (d.symm.trans z)⟩
theorem stay {i : Nat} (st : k.At h it a i) (e : ∀ o, h.get? it = some o → h'.get? it = some o) : k.At h' it a i := match k, st with
  | .L, st => Heap.IsListIter.at st e
  | .T, st => Heap.IsTupleIter.at st e
theorem draws {P : Program} {w : World} {A : Around} (hh : A.handled = none) (ne : a ≠ it) : Draws P w A it [it, a] items.size (fun i v => items[i]? = some v) (fun i h => k.At h it a i ∧ k.Is h a items) := match k with
  | .L => Draws.list hh it a ne items
  | .T => Draws.tuple hh it a ne items
theorem told {X : Cx} {pins : List (Addr × Obj)} {σ : L2.St} {H : Hp} {s : Shared} {xs : List V} (I : Inv X pins σ H s) (q : k.Sq X.K H a xs) : ∃ its : List Value, Vals xs its ∧ k.Is s.heap a its.toArray := match k, q with
  | .L, q => let ⟨its, r, p, _⟩ := I.list q; ⟨its, r, p.isList⟩
  | .T, q => let ⟨its, r, p, _⟩ := I.tuple q; ⟨its, r, p⟩
theorem one {X : Cx} {pins : List (Addr × Obj)} {σ : L2.St} {H : Hp} {s : Shared} {xs ys : List V} (I : Inv X pins σ H s) (q : k.Sq X.K H a xs) (q2 : k.Sq X.K H a ys) : xs = ys := match k, q, q2 with
  | .L, q, q2 => I.list_inj q q2
  | .T, q, q2 => I.tuple_inj q q2
theorem below (p : k.Is h a items) : a < h.objs.size := match k, p with
  | .L, ⟨_, e, _⟩ => Heap.lt_size e
  | .T, ⟨_, e, _⟩ => Heap.lt_size e
end Kd
/-- a new pair at each turn: at turn i that of i and the i-th item of a, or of the i-th items of a and b -/
def ItP (go : Nat → Hp → Prop) (pr : Nat → Hp → V → V → Prop) (stop : Nat → Hp → Prop) : It :=
  ⟨go, fun i H v H' => ∃ q x y, v = .ref q ∧ H q = none ∧ H' = upd H q (.tup [x, y]) ∧ pr i H x y, stop⟩
/-- the step of such a walk, by what next tells -/
theorem pair_step {X : Cx} {pins : List (Addr × Obj)} {σ : L2.St} {H : Hp} {s : Shared} {wr : List Addr} {x y : V} {u v : Value} {q : Addr} {h' : Heap} {tk : Nat} (I : Inv X pins σ H s) (hw : ∀ b ∈ wr, FpOk X pins H b)
    (keep : ∀ b o, b ∉ wr → s.heap.get? b = some o → h'.get? b = some o) (hq : s.heap.objs.size ≤ q) (ht : h'.IsTuple q #[u, v]) (rx : RelV x u) (ry : RelV y v) : Inv X pins σ (upd H q (.tup [x, y])) { s with heap := h', toks := tk } :=
  I.turnedNew (ch := wr) keep hw hq ⟨(by show 2 ≤ sizeLine; decide), [u, v], .cons rx (.cons ry .nil), ht⟩
section
variable {P : Program} {w : World} {K : PySem.W.Frag} {elts : List Expr} {kk : Nat} {tpos : Pos}
structure ZFp (z p q i j a b : Addr) : Prop where
  s : ZipSep2 z p q i j [i, a] [j, b]
  na : a ≠ i
  nb : b ≠ j
def ItN (K : PySem.W.Frag) (k : Kd) (a : Addr) : It :=
  ItP (fun i H => ∃ xs x, k.Sq K H a xs ∧ xs[i]? = some x) (fun i H x y => x = .int (i : Nat) ∧ ∀ xs, k.Sq K H a xs → xs[i]? = some y) (fun i H => ∃ xs, k.Sq K H a xs ∧ i = xs.length)
theorem turn_enumK {k : Kd} {e it a : Addr} (ne : e ≠ it) (na : a ≠ it) (nea : a ≠ e) : Turn P w K (.Tuple elts kk tpos) (ItN K k a) [e, it] e (fun i h => (∃ old, IsEnum h e it (0 + (i : Int)) old) ∧ k.At h it a i) where
  mem := List.mem_cons_self
  obj := fun i h st c hc => by
    obtain ⟨⟨_, he⟩, h1⟩ := st
    simp only [List.mem_cons, List.not_mem_nil, or_false] at hc
    rcases hc with rfl | rfl
    · exact ⟨_, he, fun v z => nomatch z⟩
    · exact Kd.live h1
  keep := fun i h h' st k' => by
    obtain ⟨⟨old, he⟩, h1⟩ := st
    exact ⟨⟨old, k' e (by simp) _ he⟩, Kd.stay h1 fun o => k' it (by simp) o⟩
  item := by
    intro X hP hw hK hc i pins s σ H E I hf st hg
    subst hP hw hK
    obtain ⟨he, h1⟩ := st
    obtain ⟨xs, x, sx, ex⟩ := hg
    obtain ⟨us, ru, pu⟩ := Kd.told I sx
    have lu := ru.length
    have l1 := (List.getElem?_eq_some_iff.mp ex).1
    have W := GoesN.enumFrom (prog := X.prog) (w := X.w) (A := X.A) (elts := elts) (x1 := kk) (pos := tpos) 0 (k.draws (items := us.toArray) (show X.A.in1.handled = none from I.ok.hd hc) na) e ne (by simp [ne, Ne.symm nea]) (by simp)
    refine W.goes i s _ E (by rw [List.size_toArray]; omega) ⟨he, h1, pu⟩ fun v h' tk hY st' hk _ => ?_
    obtain ⟨t, tt, u1, rfl, ht, e1, hT⟩ := hY
    obtain ⟨u, hu, r1⟩ := ru.get ex
    have q1 : u1 = u := Option.some.inj (e1.symm.trans (by simpa using hu))
    subst q1
    have z0 : (0 : Int) + (i : Int) = (i : Nat) := Int.zero_add _
    rw [z0] at hT
    refine ⟨.ref t, _, pair_step I (wr := [e, it]) hf hk ht hT (x := .int (i : Nat)) ⟨tt, rfl⟩ r1, rfl, ⟨t, _, x, rfl, I.hok.fresh ht, rfl, rfl, fun xs' s' => by rw [Kd.one I s' sx]; exact ex⟩, ⟨st'.1, st'.2.1⟩, fun c hc' => ?_⟩
    have hlt : c < s.heap.objs.size := by
      obtain ⟨o, e⟩ : ∃ o, s.heap.get? c = some o := by
        simp only [List.mem_cons, List.not_mem_nil, or_false] at hc'
        obtain ⟨_, he'⟩ := he
        rcases hc' with rfl | rfl
        · exact ⟨_, he'⟩
        · exact ⟨_, (Kd.live h1).choose_spec.1⟩
      exact Heap.lt_size e
    rw [upd_ne (Nat.ne_of_lt (Nat.lt_of_lt_of_le hlt ht))]
    exact (hf c hc').1
  done := by
    intro X hP hw hK hc i pins s σ H E I hf st hg
    subst hP hw hK
    obtain ⟨he, h1⟩ := st
    obtain ⟨xs, sx, ei⟩ := hg
    obtain ⟨us, ru, pu⟩ := Kd.told I sx
    have W := GoesN.enumFrom (prog := X.prog) (w := X.w) (A := X.A) (elts := elts) (x1 := kk) (pos := tpos) 0 (k.draws (items := us.toArray) (show X.A.in1.handled = none from I.ok.hd hc) na) e ne (by simp [ne, Ne.symm nea]) (by simp)
    have ei' : us.toArray.size = i := by rw [List.size_toArray, ← ru.length, ei]
    exact W.stops s _ E (by rw [ei']; exact ⟨he, h1, pu⟩) fun h' tk hk _ => I.turnedL (t' := tk) (ch := [e, it]) hk hf
  self := fun A i s Q E st h => by
    obtain ⟨⟨_, he⟩, _⟩ := st
    exact wpAny_pyIter_enum he h
end
/-! the calls -/
section
variable {X : Cx} {e e2 : Expr} {ta : TA} {p pos tpos : Pos} {elts : List Expr} {kk : Nat}
open PySem.Spec PyProof.Rows in
/-- the enumeration is made -/
theorem enum_meets {v : Value} {o : Obj} {Z : Heap → Prop} (B : Begins v o Z) :
    Meets (Builtin.«enumerate.__new__» ⟨[.type "enumerate", v], []⟩) (fun _ R s => Z s.heap ∧ R (.ok (.ret (.ref (s.heap.push o).objs.size))) { s with heap := (s.heap.push o).push { cls := .type "enumerate", data := .fields #[.none, .bool false, .ref s.heap.objs.size, rawInt 0, .none, .none] } }) := by
  refine Meets.of_wp fun P w A R s hs => ?_
  obtain ⟨hz, hR⟩ := hs
  have known := sub_enumerate
  have first_ : ∀ {A' : Around} {E : Value → Shared → Prop} {Q : Value → Shared → Prop}, Q (.ref s.heap.objs.size) { s with heap := s.heap.push o } → wpAny (model P w) A' (pyIter v) Q E s := fun z => B.iter P w _ _ s _ hz z
  cases s with
  | mk hp g d tk os =>
    wp_walk using first_
    refine wpAny_stack_any fun st => wpAny_pure ?_
    split <;> first
      | (rename_i c _ _ _ _ _
         cases hc : (c == Value.type "enumerate") <;> (wp_walk using first_; exact ⟨_, rfl, hR⟩))
      | (wp_walk using first_; exact ⟨_, rfl, hR⟩)
def iEnumK (k : Kd) (K : PySem.W.Frag) (ta : TA) : TI := fun σ H R => ta σ H fun vs H1 => ∃ a xs, vs = [.ref a] ∧ k.Sq K H1 a xs ∧ R (ItN K k a) H1
open PySem.Spec PyProof.Rows in
theorem pi_enumK (k : Kd) (hg : Gl X "enumerate") (hm : X.mg "enumerate" = none) (ha : PA X [e] ta) (hs : starEach [e] X.env = [(false, eval e X.env)] := by rfl) : PI X (.Tuple elts kk tpos) (.Call (.Name "enumerate" p) [e] [] pos) (iEnumK k X.K ta) := by
  constructor
  intro pins s σ H R I h
  refine Call_ (ld_blt I hg hm boot_enumerate (callWith_type1 ?_ hs rfl))
  refine thn (ha.run pos pins s σ H _ I h) ?_
  rintro us s1 ⟨vs, H1, I1, rv, a, xs, rfl, qa, q⟩
  cases rv with
  | cons ra rest =>
    cases rest
    cases ra
    obtain ⟨ua, _, pa⟩ := Kd.told I1 qa
    have B := k.begins (a := a) (items := ua.toArray)
    have la := Kd.below pa
    refine callType_new F.called_enumerate (by decide) (F.typeCall_enumerate_1 _) (F.newCall_enumerate_1 _) (fun obj => F.args_object_init_2 obj _) F.entry_enumerate_new (enum_meets B) ⟨pa, ?_⟩
    have sz : (s1.heap.push (k.ob a)).objs.size = s1.heap.objs.size + 1 := Heap.size_push ..
    have e0 := Heap.get?_push_size (s1.heap.push (k.ob a)) (o := { cls := .type "enumerate", data := .fields #[.none, .bool false, .ref s1.heap.objs.size, rawInt 0, .none, .none] }) rfl
    rw [sz] at e0
    have old : ∀ c o, s1.heap.get? c = some o → ((s1.heap.push (k.ob a)).push { cls := .type "enumerate", data := .fields #[.none, .bool false, .ref s1.heap.objs.size, rawInt 0, .none, .none] }).get? c = some o := fun c o z => Heap.get?_push_of_some _ (Heap.get?_push_of_some _ z)
    have e1 := Heap.get?_push_of_some { cls := .type "enumerate", data := .fields #[.none, .bool false, .ref s1.heap.objs.size, rawInt 0, .none, .none] } (Heap.get?_push_size s1.heap (o := k.ob a) B.free)
    have en : IsEnum ((s1.heap.push (k.ob a)).push { cls := .type "enumerate", data := .fields #[.none, .bool false, .ref s1.heap.objs.size, rawInt 0, .none, .none] }) (s1.heap.objs.size + 1) s1.heap.objs.size (0 + ((0 : Nat) : Int)) .none := e0
    have ge : ∀ c ∈ [s1.heap.objs.size + 1, s1.heap.objs.size], s1.heap.objs.size ≤ c := fun c hc => by
      simp only [List.mem_cons, List.not_mem_nil, or_false] at hc
      omega
    rw [sz]
    exact ⟨⟨_, en, rfl⟩, wpAny_pyIter_enum en ⟨s1.heap.objs.size + 1, _, _, _, H1, rfl, I1.kept (t' := s1.toks) old, turn_enumK (Nat.succ_ne_self _) (Nat.ne_of_lt la) (Nat.ne_of_lt (Nat.lt_succ_of_lt la)), ⟨⟨_, en⟩, Kd.start_ e1⟩,
      fun c hc => I1.fpOk (ge c hc) (I1.hok.fresh (ge c hc)), q⟩⟩
end
end Bo

/-! ### sorted(d.items()): the pairs are made, then the list of them is sorted -/
namespace Bo
open PySem L2 L2.DX
section
variable {X : Cx}
end
section
variable {K : PySem.W.Frag} {n : Nat} {C : Ct K n} {σ : L2.St} {H B : Hp} {S : SS}
/-- all that is new but the list at l stays -/
theorem Rep.fresh {H' : Hp} {l : Addr} {zs : List V} (R : Rep C σ H B S) (sH : Same H H') (hl : H l = none) (hl' : H' l = some (.lst zs)) : ∃ B', Rep C σ H' B' S ∧ Same B B' ∧ Loose C σ S B' l ∧ ∀ a, H a = none → a ≠ l → B' a = H' a := by
  classical
  obtain ⟨h0, hb, _⟩ := R.new hl
  let B' : Hp := fun a => if H a = none ∧ a ≠ l then H' a else B a
  have bB : ∀ a o, H a = some o → B' a = B a := fun a o z => if_neg fun q => by
    rw [q.1] at z
    cases z
  have bN : ∀ a, H a = none → a ≠ l → B' a = H' a := fun a z n => if_pos ⟨z, n⟩
  have bL : B' l = none := (if_neg fun q => q.2 rfl).trans hb
  have sB : Same B B' := fun a o z => (bB a o (R.base.bh a o z)).trans z
  have bh : Same B' H' := fun a o z => by
    cases q : H a with
    | some u =>
      rw [bB a u q] at z
      exact sH a o (R.base.bh a o z)
    | none =>
      by_cases e : a = l
      · subst e
        exact nomatch (z.symm.trans bL)
      · rw [← bN a q e]
        exact z
  refine ⟨B', R.after sH sB bh (fun a o z => ?_), sB, ⟨bL, h0, fun j u q m e => ?_⟩, bN⟩
  · cases q : H a with
    | some u =>
      rw [bB a u q] at z
      exact .inl z
    | none => exact .inr rfl
  · obtain ⟨a, o, e1, e2, _⟩ := R.own_at q m
    rw [e] at e1
    cases e1
    exact nomatch (e2.symm.trans hl)
abbrev prD (e : Int × Int) : PyData := .tuple [.int e.1, .int e.2]
/-! enumerate, zip -/
theorem Kd.up {k : Kd} {p : Addr} {xs : List V} (e : Same B H) (h : k.Sq K B p xs) : k.Sq K H p xs := match k, h with
  | .L, h => sm_l e h
  | .T, h => sm_t e h
def listD : PyData → Option (List PyData)
  | .list ds => some ds
  | _ => none
def tupleD : PyData → Option (List PyData)
  | .tuple ds => some ds
  | _ => none
def kdD (k : Kd) : PyData → Option (List PyData) := match k with
  | .L => listD
  | .T => tupleD
theorem kd_of {k : Kd} {y : V} {e : PyData} {ds : List PyData} (h : Da K B y e) (q : kdD k e = some ds) : ∃ (p : Addr) (xs : List V), y = .ref p ∧ k.Sq K B p xs ∧ DaAll K B xs ds := by
  cases k with
  | L =>
    cases h with
    | lst s a => cases (Option.some.inj q); exact ⟨_, _, rfl, SqL.of s, a⟩
    | _ => exact nomatch q
  | T =>
    cases h with
    | tup s a => cases (Option.some.inj q); exact ⟨_, _, rfl, s, a⟩
    | _ => exact nomatch q
theorem walks_enumK {k : Kd} {a : Addr} {xs : List V} {ds : List PyData} (s : k.Sq K B a xs) (h : DaAll K B xs ds) (uniq : ∀ (C : Ct K n) σ H1 B1 S, Rep C σ H1 B1 S → Same B B1 → ∀ v H' i y, (ItN K k a).yld i H1 v H' → (∀ zs, k.Sq K H1 a zs → zs[i]? = some y) → True := by intros; trivial) : Walks C B (ItN K k a) (enumD ds) where
  go := fun i H hi e => by
    rw [enumD_len, ← daa_len h] at hi
    exact ⟨xs, xs[i], Kd.up e s, List.getElem?_eq_getElem hi⟩
  stop := fun H e => ⟨xs, Kd.up e s, by rw [enumD_len, daa_len h]⟩
  yld := fun i H H' x d hd y C σ B1 S R e => by
    obtain ⟨T, x0, x1, rfl, hT, rfl, rfl, y1⟩ := y
    have hx := y1 xs (Kd.up (e.trans R.base.bh) s)
    obtain ⟨d1, q1, q2⟩ := daa_at h hx
    obtain ⟨B', R1, e1, da⟩ := R.tup (xs := [.int (i : Nat), x1]) (ds := [.int (i : Nat), d1]) hT (.cons (.int _) (.cons (da_mono e q2) .nil))
    rw [enumD_get q1] at hd
    cases hd
    exact ⟨B', R1, e1, da, fun D o z => by rw [upd_ne (ne_of_none z hT)]; exact z⟩
def vEnumK (k : Kd) (fa : VA) : VF := fun S => (fa S).bind fun p => match p.1 with
  | [d] => match kdD k d with
    | some ds => .ok (enumD ds, p.2)
    | none => .bad
  | _ => .bad
theorem i_enumK {k : Kd} {ta : TA} {fa : VA} (ha : SA C ta fa) : SI C (iEnumK k K ta) (vEnumK k fa) := by
  intro σ H B S Rr R h
  replace h := post_bind.mp h
  refine ha σ H B S _ R (h.mono fun p h1 v H1 B1 R1 e1 d1 => ?_)
  obtain ⟨d, S1⟩ := p
  dsimp only at d1 h1 R1
  split at h1
  · cases d1 with
    | cons q1 t =>
      cases t
      split at h1
      · rename_i ds q
        obtain ⟨p, xs, rfl, sq, da⟩ := kd_of q1 q
        exact ⟨p, xs, rfl, Kd.up R1.base.bh sq, h1 _ H1 B1 R1 e1 (walks_enumK sq da)⟩
      · exact h1.elim
  · exact h1.elim
def vZipK (k l : Kd) (fa : VA) : VF := fun S => (fa S).bind fun p => match p.1 with
  | [d, e] => match kdD k d, kdD l e with
    | some ds, some es => .ok (zipD ds es, p.2)
    | _, _ => .bad
  | _ => .bad
/-! list(range(n)), sorted(ints) -/
def vListRg (fa : VE) : VF := fun S => (fa S).bind fun p => (toI p.1).bind fun j => R.when (-1000000 ≤ j ∧ j ≤ 1000000) (.ok (rangeD 0 j.toNat, p.2))
def gSortI : List PyData → R PyData
  | [.list ds] => match intsD ds with
    | some ns => .ok (.list ((ns.mergeSort fun a b => decide (a ≤ b)).map PyData.int))
    | none => .bad
  | _ => .bad
end
end Bo

/-! ### defs that raise: their worth tells the error -/
namespace Bo
open PySem L2
section
variable {X : Cx}
theorem ps_nox {st : Stmt} {t : TS} (h : PS X.nox st t) : PS X st t := ⟨fun pins s σ H D I hw =>
  wpAny_mono (h.run pins s σ H D (I.wish _) hw) (fun _ _ q => q.unwish) fun _ _ z => False.elim z⟩
end
/-- where the classes of errors stand, the name of their field -/
structure Cls where
  at_ : String → Option Addr
  fld : String → Str
/-- the error's own dict -/
def XD (L : Cls) (e : Exc) (v : V) (d : Option Addr) (H : Hp) : Prop := match e.arg with
  | none => d = none
  | some _ => ∃ dd, d = some dd ∧ H dd = some (.xd [(L.fld e.cls, v)])
def R.ends {α : Type} (x : R α) (k : α → Prop) (ke : Exc → Prop) : Prop := match x with
  | .ok a => k a
  | .err e => ke e
  | .bad => False
theorem R.ends.mono {α : Type} {x : R α} {k k' : α → Prop} {ke ke' : Exc → Prop} (h : x.ends k ke) (m : ∀ a, k a → k' a) (me : ∀ e, ke e → ke' e) : x.ends k' ke' := by
  cases x with
  | ok a => exact m a h
  | err e => exact me e h
  | bad => exact h
section
variable {K : PySem.W.Frag} {n : Nat} {C : Ct K n} {σ : L2.St} {H B : Hp} {S : SS}
/-- what is told of an error that leaves -/
def Leaves (K : PySem.W.Frag) (L : Cls) (H B : Hp) (E : XK) (e : Exc) : Prop := ∀ c d v H' B', L.at_ e.cls = some c → Same H H' → Same B B' → Same B' H' → Frz H B B' → (∀ a, e.arg = some a → Da K B' v a) → XD L e v d H' → E (.ref c) d H'
/-- a def that changes nothing, and may raise -/
def spX (K : PySem.W.Frag) (L : Cls) (m : Nat) (den : List PyData → R PyData) : Sp := fun vs H Q E => ∃ (ds : List PyData) (B : Hp), DaAll K B vs ds ∧ Same B H ∧ ds.length = m ∧
  (den ds).ends (fun z => ∀ v H' B', Same H H' → Same B B' → Same B' H' → Frz H B B' → Da K B' v z → Q v H') (Leaves K L H B E)
/-- what leaves meets the wish -/
def Link (C : Ct K n) (L : Cls) (W : WX) : Prop := ∀ e v d σ H, C.er e v H → XD L e v d H → ∀ c, L.at_ e.cls = some c → W (.ref c) d σ H
theorem post_ends {α : Type} {x : R α} {k : α → Prop} {L : Cls} (h : Post C x k) : x.ends k C.Out := by
  cases x with
  | ok a => exact h
  | err e => exact h
  | bad => exact h
def vCallX (m : Nat) (den : List PyData → R PyData) (fa : VA) : VE := fun S => (fa S).bind fun p => R.when (p.1.length = m) ((den p.1).bind fun z => .ok (z, p.2))
/-- behind a call that changed nothing of ours: the base -/
theorem Base.after {H' B' : Hp} (R : Rep C σ H B S) (sH : Same H H') (sB : Same B B') (bh : Same B' H') (fz : Frz H B B') : Base C H' B' := (R.after sH sB bh fz).base
theorem s_callX {m : Nat} {den : List PyData → R PyData} {L : Cls} {W : WX} {ta : TA} {fa : VA} (lk : Link C L W) (ha : SA C ta fa) : SE C (tCallS (spX K L m den) (WE W) ta) (vCallX m den fa) := by
  intro σ H B S Q R h
  replace h := post_bind.mp h
  refine ha σ H B S _ R (h.mono fun p h1 vs H1 B1 R1 e1 d1 => ?_)
  obtain ⟨k, h1⟩ := post_when.mp h1
  replace h1 := post_bind.mp h1
  refine ⟨p.1, B1, d1, R1.base.bh, k, (post_ends (L := L) h1).mono (fun z h2 v H' B' sH sB bh fz dv => h2 v H' B' (R1.after sH sB bh fz) (e1.trans sB) dv) fun e o c d v H' B' hc sH sB bh fz da xd => ?_⟩
  exact lk e v d σ H' (o H' B' v (Base.after R1 sH sB bh fz) da) xd c hc
/-! raise X(..) -/
/-- an error's own maker: self.f = v -/
def spIni (K : PySem.W.Frag) (f : Str) : Sp := fun vs H Q _ => ∃ (a C : Addr) (v : V), vs = [.ref a, v] ∧ H a = some (exo a C none) ∧ OexC K C ∧ PySem.W.findIn K (.ref C) f = some none ∧
  ∀ dx, H dx = none → dx ≠ a → Q .non (upd (upd H dx (exd dx [(f, v)])) a (exo a C (some dx)))
def vRaise (cls : String) (fa : VA) : VS := fun S => (fa S).bind fun p => match p.1 with
  | [d] => .err ⟨cls, some d⟩
  | _ => .bad
theorem upd_del {H : Hp} {a dx : Addr} {o1 o2 o3 o4 : HO} (ha : H a = none) (ne : dx ≠ a) : upd (del (upd (upd (upd H a o1) dx o2) a o3) a) dx o4 = upd H dx o4 := by
  funext b
  by_cases e : b = dx
  · subst e
    rw [upd_same, upd_same]
  · rw [upd_ne e, upd_ne e]
    by_cases e2 : b = a
    · subst e2
      rw [del_same, ha]
    · rw [del_ne e2, upd_ne e2, upd_ne e, upd_ne e2]
theorem st_raise {cls : String} {L : Cls} {W : WX} {c : Addr} {f : Str} {ta : TA} {fa : VA} (lk : Link C L W) (hc : L.at_ cls = some c) (hf : L.fld cls = f) (T : OexC K c) (nf : PySem.W.findIn K (.ref c) f = some none) (ha : SA C ta fa) :
    SSt C (fun _ σ H => tMkO c (spIni K f) [] ta σ H fun cl d H' => W cl d σ H') (vRaise cls fa) := by
  intro σ H B S D R h
  replace h := post_bind.mp h
  refine ha σ H B S _ R (h.mono fun p h1 vs H1 B1 R1 e1 d1 => ?_)
  obtain ⟨ds, S1⟩ := p
  dsimp only at h1 d1 R1
  split at h1
  · rename_i d
    cases d1 with
    | cons dv t =>
      rename_i v vs'
      cases t
      refine ⟨(by show 1 ≤ 1000; decide), fun a ha => ?_⟩
      refine ⟨a, c, v, by simp, upd_same, T, nf, fun dx hd ne => ?_⟩
      have hd1 : H1 dx = none := by
        rw [upd_ne ne] at hd
        exact hd
      refine ⟨rfl, dx, [(f, v)], upd_same, ?_, hd1, ?_⟩
      · rw [upd_ne ne, upd_same]
      · rw [upd_del ha ne]
        have R2 := R1.loose (o := .xd [(f, v)]) hd1
        refine lk ⟨cls, some d⟩ v (some dx) σ _ (h1 _ B1 v R2.base fun a e => ?_) ⟨dx, rfl, ?_⟩ c hc
        · cases e
          exact dv
        · rw [upd_same, hf]
  · exact h1.elim
/-! a def by its body -/
def erX (L : Cls) (E : XK) : Exc → V → Hp → Prop := fun e v H => ∀ d, XD L e v d H → ∀ c, L.at_ e.cls = some c → E (.ref c) d H
theorem link_erX {H B : Hp} {L : Cls} {E : XK} : Link (ct0 (K := K) H B (erX L E)) L (fun cls d _ H => E cls d H) := fun e v d σ H' h xd c hc => h d xd c hc
theorem len_X {L : Cls} {m : Nat} {den : List PyData → R PyData} {vs : List V} {Q : VK} {E : XK} (h : spX K L m den vs H Q E) : vs.length = m := by
  obtain ⟨ds, B, d, _, e, _⟩ := h
  rw [daa_len d, e]
theorem out_X {L : Cls} {E : XK} {e : Exc} (h : Leaves K L H B E e) : (ct0 (K := K) H B (erX L E)).Out e := fun H' B' v b da d xd c hc =>
  h c d v H' B' hc (fun a o z => b.keep a o (by simp [ct0]) z) b.b0 b.bh (fun a o z => b.fr a o z) da xd
theorem run_X {m : Nat} {N : List Str} {f : VS} {t : TS} {vs : List V} {Q : VK} {E : XK} {L : Cls} (s : ∀ C : Ct K 0, Link C L (fun cls d _ H => E cls d H) → SSt C t f) (h : spX K L m (denP N.length f) vs H Q E) : t { nx := fun _ H' => Q .non H', rt := Q } (L2.start N vs) H := by
  obtain ⟨ds, B, d, bh, _, h⟩ := h
  have R := rep_start (N := N) (er := erX L E) d bh
  refine s _ link_erX _ H B _ _ R ?_
  unfold denP endP at h
  cases q : f (startS N.length ds) with
  | bad =>
    rw [q] at h
    exact h.elim
  | err e =>
    rw [q] at h
    exact out_X h
  | ok fl =>
    rw [q] at h
    show FlPost _ _ _ fl
    cases fl with
    | nx S => exact fun σ' H' B' R' e => h .non H' B' (fun a o z => R'.base.keep a o (by simp [ct0]) z) e R'.base.bh (fun a o z => R'.base.fr a o z) .non
    | rt d S => exact fun v σ' H' B' R' e dv => h v H' B' (fun a o z => R'.base.keep a o (by simp [ct0]) z) e R'.base.bh (fun a o z => R'.base.fr a o z) dv
    | bk S => exact h.elim
    | ct S => exact h.elim
end
end Bo

/-! ### texts: what their operations are worth -/
namespace Bo
open PySem L2
section
variable {K : PySem.W.Frag} {n : Nat} {C : Ct K n} {σ : L2.St} {H B : Hp} {S : SS}
/-! s.m() and s.m(e) -/
def SM0 (C : Ct K n) (r : V → List V → Hp → VK → Prop) (g : Str → R PyData) : Prop := ∀ (σ : L2.St) (H B : Hp) (S : SS) (a : Str) (Q : VK), Rep C σ H B S →
  Post C (g a) (fun z => ∀ v H' B', Rep C σ H' B' S → Same B B' → Da K B' v z → Q v H') → r (.str a) [] H Q
def SM1 (C : Ct K n) (r : V → List V → Hp → VK → Prop) (g : Str → Str → R PyData) : Prop := ∀ (σ : L2.St) (H B : Hp) (S : SS) (a b : Str) (Q : VK), Rep C σ H B S →
  Post C (g a b) (fun z => ∀ v H' B', Rep C σ H' B' S → Same B B' → Da K B' v z → Q v H') → r (.str a) [.str b] H Q
def toS : PyData → R Str
  | .str x => .ok x
  | _ => .bad
theorem str_of {v : V} {d : PyData} {k : Str → Prop} (h : Da K B v d) (q : Post C (toS d) k) : ∃ b, v = .str b ∧ d = .str b ∧ k b := by
  cases h <;> first | exact q.elim | exact ⟨_, rfl, rfl, q⟩
def vM0 (g : Str → R PyData) (fa : VE) : VE := fun S => (fa S).bind fun p => (toS p.1).bind fun a => (g a).bind fun z => .ok (z, p.2)
def vM1 (g : Str → Str → R PyData) (fa fb : VE) : VE := fun S => (fa S).bind fun p => (toS p.1).bind fun a => (fb p.2).bind fun q => (toS q.1).bind fun b => (g a b).bind fun z => .ok (z, q.2)
theorem s_m0 {r : V → List V → Hp → VK → Prop} {g : Str → R PyData} {ta : TE} {fa : VE} (hr : SM0 C r g) (ha : SE C ta fa) : SE C (tM0 r ta) (vM0 g fa) := by
  intro σ H B S Q R h
  replace h := post_bind.mp h
  refine ha σ H B S _ R (h.mono fun p h1 v H1 B1 R1 e1 d1 => ?_)
  obtain ⟨a, rfl, _, h1⟩ := str_of d1 (post_bind.mp h1)
  refine ⟨⟨a, rfl⟩, ?_⟩
  exact hr σ H1 B1 p.2 a Q R1 ((post_bind.mp h1).mono fun z h2 u H2 B2 R2 e2 d2 => h2 u H2 B2 R2 (e1.trans e2) d2)
theorem s_m1 {r : V → List V → Hp → VK → Prop} {g : Str → Str → R PyData} {ta tb : TE} {fa fb : VE} (hr : SM1 C r g) (ha : SE C ta fa) (hb : SE C tb fb) : SE C (tM1 r ta tb) (vM1 g fa fb) := by
  intro σ H B S Q R h
  replace h := post_bind.mp h
  refine ha σ H B S _ R (h.mono fun p h1 v H1 B1 R1 e1 d1 => ?_)
  obtain ⟨a, rfl, _, h1⟩ := str_of d1 (post_bind.mp h1)
  refine ⟨⟨a, rfl⟩, ?_⟩
  replace h1 := post_bind.mp h1
  refine hb σ H1 B1 p.2 _ R1 (h1.mono fun q h2 w H2 B2 R2 e2 d2 => ?_)
  obtain ⟨b, rfl, _, h2⟩ := str_of d2 (post_bind.mp h2)
  exact hr σ H2 B2 q.2 a b Q R2 ((post_bind.mp h2).mono fun z h3 u H3 B3 R3 e3 d3 => h3 u H3 B3 R3 (e1.trans (e2.trans e3)) d3)
def gIsdigit (a : Str) : R PyData := .ok (.bool (Txt.isdigit a))
def gIsascii (a : Str) : R PyData := .ok (.bool (Txt.isascii a))
theorem m_isdigit : SM0 C (fun x xs H Q => ∃ a, x = .str a ∧ xs = [] ∧ True ∧ Q (.bl (Txt.isdigit a)) H) gIsdigit := fun σ H B S a Q R h => ⟨a, rfl, rfl, trivial, h _ H B R (Same.refl _) (.bl _)⟩
theorem m_isascii : SM0 C (fun x xs H Q => ∃ a, x = .str a ∧ xs = [] ∧ True ∧ Q (.bl (Txt.isascii a)) H) gIsascii := fun σ H B S a Q R h => ⟨a, rfl, rfl, trivial, h _ H B R (Same.refl _) (.bl _)⟩
def gRemoveprefix (a b : Str) : R PyData := R.when (a.length ≤ 100000) (.ok (.str (Txt.removeprefix a b)))
def gPartition (a b : Str) : R PyData := R.when ((b.length == 0) = false ∧ a.length ≤ 100000) (.ok (.tuple [.str (Txt.partition a b).1, .str (Txt.partition a b).2.1, .str (Txt.partition a b).2.2]))
theorem m_partition : SM1 C (fun x xs H Q => ∃ a b, x = .str a ∧ xs = [.str b] ∧ (b.length == 0) = false ∧ a.length ≤ sizeLine ∧ ∀ p, H p = none → Q (.ref p) (upd H p (.tup [.str (Txt.partition a b).1, .str (Txt.partition a b).2.1, .str (Txt.partition a b).2.2]))) gPartition := fun σ H B S a b Q R h => by
  obtain ⟨⟨k1, k2⟩, h⟩ := post_when.mp h
  refine ⟨a, b, rfl, rfl, k1, line_le k2, fun p hp => ?_⟩
  obtain ⟨B', R1, e1, d1⟩ := R.tup hp (.cons (.str _) (.cons (.str _) (.cons (.str _) .nil)))
  exact h _ _ B' R1 e1 d1
theorem daa_strs : ∀ ys : List Str, DaAll K B (ys.map V.str) (ys.map PyData.str)
  | [] => .nil
  | y :: ys => .cons (.str y) (daa_strs ys)
theorem line_le2 {m : Nat} (h : m ≤ 100000) : m + 2 ≤ sizeLine := Nat.le_trans (Nat.add_le_add_right h 2) (by decide)
def gSplit (a b : Str) : R PyData := R.when ((b.length == 0) = false ∧ a.length ≤ 100000) (.ok (.list ((Txt.split a b).map PyData.str)))
theorem m_split : SM1 C (fun x xs H Q => ∃ a b, x = .str a ∧ xs = [.str b] ∧ (b.length == 0) = false ∧ a.length + 2 ≤ sizeLine ∧ rNewStrs (Txt.split a b) H Q) gSplit := fun σ H B S a b Q R h => by
  obtain ⟨⟨k1, k2⟩, h⟩ := post_when.mp h
  refine ⟨a, b, rfl, rfl, k1, line_le2 k2, fun p hp => ?_⟩
  obtain ⟨B', R1, e1, d1⟩ := R.lst hp (daa_strs _)
  exact h _ _ B' R1 e1 d1
/-! sep.join(xs) -/
def strsD : List PyData → Option (List Str)
  | [] => some []
  | .str i :: ds => (strsD ds).map (i :: ·)
  | _ :: _ => none
theorem strs_v : ∀ {xs : List V} {ds : List PyData} {ns : List Str}, DaAll K B xs ds → strsD ds = some ns → xs = ns.map V.str ∧ ds = ns.map PyData.str
  | _, _, _, .nil, h => by cases h; exact ⟨rfl, rfl⟩
  | _, _, _, .cons h1 t, h => by
    cases h1 with
    | str i =>
      unfold strsD at h
      obtain ⟨ms, h2, rfl⟩ := Option.map_eq_some_iff.mp h
      obtain ⟨e1, e2⟩ := strs_v t h2
      exact ⟨by rw [e1]; rfl, by rw [e2]; rfl⟩
    | _ => exact nomatch h
theorem strs_map : ∀ ns : List Str, strsD (ns.map PyData.str) = some ns
  | [] => rfl
  | n :: ns => by
    show (strsD (ns.map PyData.str)).map (n :: ·) = _
    rw [strs_map ns]
    rfl
def joinD (a : Str) (ds : List PyData) : R PyData := match strsD ds with
  | some ys => R.when ((ys.map (·.length)).sum + ys.length * a.length ≤ 100000) (.ok (.str (Txt.join a ys)))
  | none => .bad
abbrev rJoin (K : PySem.W.Frag) : V → List V → Hp → VK → Prop := fun x xs H Q => ∃ a p, ∃ ys : List Str, x = .str a ∧ xs = [.ref p] ∧ (SqL K H p (ys.map V.str) ∨ SqT K H p (ys.map V.str)) ∧ (ys.map (·.length)).sum + ys.length * a.length ≤ 16777216 ∧ Q (.str (Txt.join a ys)) H
def vJoin (fa fb : VE) : VE := fun S => (fa S).bind fun p => (toS p.1).bind fun a => (fb p.2).bind fun q => match itemsD q.1 with
  | some ds => (joinD a ds).bind fun z => .ok (z, q.2)
  | none => .bad
theorem s_join {ta tb : TE} {fa fb : VE} (ha : SE C ta fa) (hb : SE C tb fb) : SE C (tM1 (rJoin K) ta tb) (vJoin fa fb) := by
  intro σ H B S Q R h
  replace h := post_bind.mp h
  refine ha σ H B S _ R (h.mono fun p h1 v H1 B1 R1 e1 d1 => ?_)
  obtain ⟨a, rfl, _, h1⟩ := str_of d1 (post_bind.mp h1)
  refine ⟨⟨a, rfl⟩, ?_⟩
  replace h1 := post_bind.mp h1
  refine hb σ H1 B1 p.2 _ R1 (h1.mono fun q h2 w H2 B2 R2 e2 d2 => ?_)
  obtain ⟨d, S2⟩ := q
  dsimp only at h2 d2
  split at h2
  · rename_i ds qd
    unfold joinD at h2
    split at h2
    · rename_i ys qs
      obtain ⟨k, h2⟩ := post_when.mp (post_bind.mp h2)
      obtain ⟨pa, xs, rfl, sq, da⟩ := seq_of d2 qd
      obtain ⟨rfl, _⟩ := strs_v da qs
      exact ⟨a, pa, ys, rfl, rfl, seq_up R2.base.bh sq, Nat.le_trans k (by decide), h2 _ H2 B2 R2 (e1.trans e2) (.str _)⟩
    · exact (post_bind.mp h2).elim
  · exact h2.elim
def vJoinO (fa : VE) (i : Nat) : VE := fun S => (fa S).bind fun p => (toS p.1).bind fun a => (ownD p.2 i).bind fun ds => (joinD a ds).bind fun z => .ok (z, p.2)
theorem s_joinO {ta : TE} {fa : VE} {i : Nat} (ha : SE C ta fa) : SE C (tM1 (rJoin K) ta (tVar i)) (vJoinO fa i) := by
  intro σ H B S Q R h
  replace h := post_bind.mp h
  refine ha σ H B S _ R (h.mono fun p h1 v H1 B1 R1 e1 d1 => ?_)
  obtain ⟨a, rfl, _, h1⟩ := str_of d1 (post_bind.mp h1)
  refine ⟨⟨a, rfl⟩, ?_⟩
  obtain ⟨ds, pa, vs, q1, q2, q3, q4, h1⟩ := own_of R1 (post_bind.mp h1)
  refine ⟨_, q2, ?_⟩
  unfold joinD at h1
  split at h1
  · rename_i ys qs
    obtain ⟨k, h1⟩ := post_when.mp (post_bind.mp h1)
    obtain ⟨rfl, _⟩ := strs_v q4 qs
    exact ⟨a, pa, ys, rfl, rfl, .inl (SqL.of q3), Nat.le_trans k (by decide), h1 _ H1 B1 R1 e1 (.str _)⟩
  · exact (post_bind.mp h1).elim
/-! c in s: one sign -/
def signD (x : Str) : Option Nat := match x.cps.toList with
  | [c] => some c
  | _ => none
theorem sign_of {x : Str} {c : Nat} (h : signD x = some c) : x = ⟨#[c]⟩ := by
  unfold signD at h
  split at h
  · rename_i c' e
    have ec : c' = c := Option.some.inj h
    obtain ⟨a⟩ := x
    have : a = #[c] := by
      rw [← Array.toList_inj, ← ec]
      exact e
    rw [this]
  · exact nomatch h
def gInS (neg : Bool) : PyData → PyData → R PyData
  | .str x, .str z => match signD x with
    | some c => .ok (.bool (if neg then !decide (c ∈ z.cps.toList) else decide (c ∈ z.cps.toList)))
    | none => .bad
  | _, _ => .bad
theorem o_notInS : SR2 C (fun x y H Q => ∃ (c : Nat) (z : Str), x = .str ⟨#[c]⟩ ∧ y = .str z ∧ Q (.bl (!decide (c ∈ z.cps.toList))) H) (gInS true) := by
  intro σ H B S x y d e Q R h1 h2 h
  cases h1 <;> cases h2 <;> first
    | exact h.elim
    | (unfold gInS at h
       simp only at h
       split at h
       · rename_i c qc
         rw [sign_of qc]
         exact ⟨c, _, rfl, rfl, h _ H B R (Same.refl _) (.bl _)⟩
       · exact h.elim)
/-! s[i], s[lo:hi] -/
def gIxS : PyData → PyData → R PyData
  | .str z, .int i => R.when (z.length ≤ 100000) (match atI z.cps.toList i with
    | some c => .ok (.str ⟨#[c]⟩)
    | none => .bad)
  | _, _ => .bad
theorem o_ixS : SR2 C rIxS gIxS := by
  intro σ H B S x y d e Q R h1 h2 h
  cases h1 <;> cases h2 <;> first
    | exact h.elim
    | (obtain ⟨k, h⟩ := post_when.mp h
       split at h
       · rename_i c qc
         exact ⟨_, _, c, rfl, rfl, line_le k, qc, h _ H B R (Same.refl _) (.str _)⟩
       · exact h.elim)
def gSlS (d : PyData) (lo hi : Option Int) : R PyData := match d with
  | .str z => R.when (z.length ≤ 100000) (.ok (.str (cutS z lo hi)))
  | _ => .bad
theorem l_slS : SSl C rSlS gSlS := by
  intro σ H B S x d lo hi Q R h1 h
  cases h1 with
  | str z =>
    obtain ⟨k, h⟩ := post_when.mp h
    exact ⟨z, rfl, line_le k, h _ H B R (Same.refl _) (.str _)⟩
  | _ => exact h.elim
/-! int(s) -/
def gIntS : List PyData → R PyData
  | [.str a] => match PySem.intText? a with
    | some n => R.when (a.length ≤ 640) (.ok (.int n))
    | none => .bad
  | _ => .bad
theorem c_intS : SCR C (fun xs H Q => ∃ a n, xs = [.str a] ∧ PySem.intText? a = some n ∧ a.length ≤ 640 ∧ Q (.int n) H) gIntS := by
  intro σ H B S xs ds Q R d h
  cases d with
  | nil => exact h.elim
  | cons h1 t =>
    cases t with
    | cons h2 t => cases h1 <;> exact h.elim
    | nil =>
      cases h1 with
      | str x =>
        unfold gIntS at h
        simp only at h
        split at h
        · rename_i n qn
          obtain ⟨k, h⟩ := post_when.mp h
          exact ⟨_, n, rfl, qn, k, h _ H B R (Same.refl _) (.int _)⟩
        · exact h.elim
      | _ => exact h.elim
/-! for c in s -/
def signsD (x : Str) : List PyData := x.cps.toList.map fun c => .str ⟨#[c]⟩
theorem walks_str {x : Str} : Walks C B (Its x) (signsD x) where
  go := fun i H hi e => by
    unfold signsD at hi
    rw [List.length_map, Array.length_toList] at hi
    exact hi
  stop := fun H e => by
    show x.cps.size ≤ _
    unfold signsD
    rw [List.length_map, Array.length_toList]
    exact Nat.le_refl _
  yld := fun i H H' w d hd y C σ B1 S R e => by
    obtain ⟨rfl, c, hc, rfl⟩ := y
    unfold signsD at hd
    rw [List.getElem?_map, Array.getElem?_toList, hc] at hd
    cases hd
    exact ⟨B1, R, Same.refl _, .str _, fun _ _ z => z⟩
def vIterS (fa : VE) : VF := fun S => (fa S).bind fun p => (toS p.1).bind fun x => .ok (signsD x, p.2)
theorem i_str {ta : TE} {fa : VE} (ha : SE C ta fa) : SI C (iStr ta) (vIterS fa) := by
  intro σ H B S Rr R h
  replace h := post_bind.mp h
  refine ha σ H B S _ R (h.mono fun p h1 v H1 B1 R1 e1 d1 => ?_)
  obtain ⟨x, rfl, _, h1⟩ := str_of d1 (post_bind.mp h1)
  exact ⟨x, rfl, h1 _ H1 B1 R1 e1 walks_str⟩
/-! s * n -/
def repS (x : Str) (n : Nat) : Str := ⟨(List.replicate n x.cps).foldl (· ++ ·) #[]⟩
def gRepS : PyData → PyData → R PyData
  | .str x, .int m => R.when (2 ≤ m ∧ m ≤ 1000 ∧ x.length = 1) (.ok (.str (repS x m.toNat)))
  | _, _ => .bad
/-! f'..' -/
def toFmt : PyData → R Str
  | .str y => R.when (y.length ≤ 100000) (.ok y)
  | .int i => R.when (i.natAbs < 2 ^ 1900) (.ok (toString i))
  | _ => .bad
def vFmt (fa : VE) : VE := fun S => (fa S).bind fun p => (toFmt p.1).bind fun y => .ok (.str y, p.2)
/-- the texts one behind the other -/
def vJs : List VE → Str → SS → R (Str × SS)
  | [], acc, S => .ok (acc, S)
  | f :: fs, acc, S => (f S).bind fun p => (toS p.1).bind fun y => R.when ((acc ++ y).length ≤ 100000) (vJs fs (acc ++ y) p.2)
inductive SJ (C : Ct K n) : List TE → List VE → Prop
  | nil : SJ C [] []
  | cons {t : TE} {f : VE} {ts : List TE} {fs : List VE} (h : SE C t f) (r : SJ C ts fs) : SJ C (t :: ts) (f :: fs)
def vJoined (fs : List VE) : VE := fun S => (vJs fs Str.empty S).bind fun p => .ok (.str p.1, p.2)
/-! min, max of two -/
def gMin2 : List PyData → R PyData
  | [.int i, .int j] => .ok (.int (if j < i then j else i))
  | _ => .bad
end
end Bo

/-! ### "".join(reversed(xs)); code that is never reached; calls of defs that may raise, and do not -/
namespace Bo
open PySem PySem.Spec PyProof.Rows L2
section
variable {prog : Program} {w : World} {A : Around} {E : Value → Shared → Prop} {s : Shared}
end
section
variable {X : Cx}
end
section
variable {K : PySem.W.Frag} {n : Nat} {C : Ct K n} {σ : L2.St} {H B : Hp} {S : SS}
def vJoinR (fa : VE) (i : Nat) : VE := fun S => (fa S).bind fun p => (toS p.1).bind fun a => (ownD p.2 i).bind fun ds => match strsD ds with
  | some ys => R.when ((ys.map (·.length)).sum + ys.length * a.length ≤ 100000) (.ok (.str (Txt.join a ys.reverse), p.2))
  | none => .bad
end
end Bo

/-! ### errors as values: made, asked for their class, read -/
namespace Bo
open PySem PySem.Spec PyProof.Rows L2
/-- at a: an error of the class at C -/
def HasE (H : Hp) (a C : Addr) : Prop := (∃ d fs, H a = some (exo a C (some d)) ∧ H d = some (exd d fs)) ∨ H a = some (ExO (.ref C) a)
section
variable {X : Cx} {pins : List (Addr × Obj)} {σ : L2.St} {H H' : Hp} {s : Shared} {a D C : Addr} {e o : Expr} {es : List Expr} {te : TE} {ta : TA} {p pos : Pos} {n x : Str}
theorem HasE.same (k : Same H H') (h : HasE H a C) : HasE H' a C := by
  rcases h with ⟨d, fs, h1, h2⟩ | h
  · exact .inl ⟨d, fs, k _ _ h1, k _ _ h2⟩
  · exact .inr (k _ _ h)
end
end Bo

/-! ### in an except suite: isinstance(e, X), with or without fields -/
namespace Bo
open PySem PySem.Spec PyProof.Rows L2
def rIsEd (K : PySem.W.Frag) (a : Addr) (cls : Value) (d : Option Addr) : List V → Hp → VK → Prop := fun xs H Q => ∃ (D : Addr) (c : V) (cv : Value) (b : Bool), cls = .ref D ∧ ExcC K D ∧ xs = [.ref a, c] ∧ (∀ u, RelV c u → u = cv) ∧
  PySem.W.kitOne K (.ref D) cv = some b ∧ (∀ dd, d = some dd → ∃ fs, H dd = some (.xd fs)) ∧ Q (.bl b) H
theorem call_isEd {X : Cx} {a : Addr} {oe : Obj} {cls : Value} {d : Option Addr} {pn : List (Addr × Obj)} (hz : Zc cls d oe) (hf : ∃ vs, oe.data = .fields vs) : CallR (X.suite a ((a, oe) :: pn)) (.builtin "isinstance") (rIsEd X.K a cls d) := by
  intro pins s σ H xs us Q I r h
  obtain ⟨D, c, cv, b, rfl, C, rfl, hcv, e, hd, q⟩ := h
  cases r with
  | cons rx rr =>
    cases rr with
    | cons rt rr =>
      cases rr
      cases rx
      have ec := hcv _ rt
      subst ec
      obtain ⟨hget, _⟩ := I.pin (a, oe) (List.mem_append.mpr (.inl List.mem_cons_self))
      obtain ⟨vs, hv⟩ := hf
      obtain ⟨cdD, hcD, _⟩ := PySem.W.any_some C.hd
      have J : ∃ od, PySem.W.InstAt s.heap a oe D od := by
        cases d with
        | none =>
          obtain ⟨oc, od, oda, osl⟩ := oe
          obtain ⟨h1, h2⟩ := hz
          dsimp only at h1 h2 hv
          subst h1 h2 hv
          exact ⟨none, hget, rfl, rfl, trivial⟩
        | some dd =>
          obtain ⟨fs, ea⟩ := hd dd rfl
          have hx : ObjOk X.prog X.w H s.heap dd (.xd fs) := I.hok dd _ ea
          obtain ⟨mA, hns, _⟩ := hx
          obtain ⟨od, ho, _⟩ := lookIn_ns hns
          exact ⟨some od, hget, hz.1, by unfold PySem.W.notCls; rw [hv] <;> rfl, by rw [hz.2]; exact ho⟩
      obtain ⟨od, J⟩ := J
      exact PySem.W.kia_one (PySem.W.kitx_exc (by rw [hcD]; rfl) C.hg C.hk C.hs C.ha C.hn C.ht C.hm) I.kIn J e (fun z => nomatch z) fun tk => ⟨.bl b, H, I.kept (t' := tk) fun _ _ z => z, rfl, q⟩
/-- the facts that isinstance asks, as one Bool -/
def xcB (K : PySem.W.Frag) (D : Addr) : Bool := xfB K D && (decide (PySem.W.findIn K (.ref D) "__class__" = some (some (.builtin "object.__class__"))) && (decide (PySem.W.specialIn K (.builtin "object.__class__") "__get__" = some (some (.builtin "getset_descriptor.__get__"))) &&
  (decide (PySem.W.takesIn K (.builtin "object.__class__") = some true) && decide (PySem.W.mroIn K D (.type "object") = some true))))
theorem xcB_ok {K : PySem.W.Frag} {D : Addr} (h : xcB K D = true) : ExcC K D := by
  obtain ⟨h1, h⟩ := Bool.and_eq_true_iff.mp h
  obtain ⟨h2, h⟩ := Bool.and_eq_true_iff.mp h
  obtain ⟨h3, h⟩ := Bool.and_eq_true_iff.mp h
  obtain ⟨h4, h5⟩ := Bool.and_eq_true_iff.mp h
  have X := xfB_ok h1
  exact ⟨X.ga, X.gg, X.exC, X.hdC, of_decide_eq_true h2, of_decide_eq_true h3, of_decide_eq_true h4, of_decide_eq_true h5⟩
theorem xcB_xf {K : PySem.W.Frag} {D : Addr} (h : xcB K D = true) : XfC K D := xfB_ok (Bool.and_eq_true_iff.mp h).1
end Bo

/-! ### lists within a list that are changed in place: by hand, between pieces that are read as functions -/
namespace Bo
open PySem L2
section
variable {K : PySem.W.Frag} {H B H1 B1 H2 B2 : Hp} {er : Exc → V → Hp → Prop}
/-- what a piece of code did: what stood stands, and what is told of as staying is new or was so -/
structure Stp (H B H1 B1 : Hp) : Prop where
  sH : Same H H1
  sB : Same B B1
  bh : Same B1 H1
  fz : Frz H B B1
theorem Stp.refl (bh : Same B H) : Stp H B H B := ⟨Same.refl _, Same.refl _, bh, fun _ _ z => .inl z⟩
theorem Stp.trans (a : Stp H B H1 B1) (b : Stp H1 B1 H2 B2) : Stp H B H2 B2 := ⟨a.sH.trans b.sH, a.sB.trans b.sB, b.bh, fun x o z => by
  rcases b.fz x o z with q | q
  · exact a.fz x o q
  · refine .inr ?_
    cases e : H x with
    | none => rfl
    | some u =>
      rw [a.sH x u e] at q
      cases q⟩
/-- what is changed stays changed: not told of as staying -/
theorem Stp.gone (s : Stp H B H1 B1) {a : Addr} {o : HO} (h : H a = some o) (b : B a = none) : B1 a = none := by
  cases e : B1 a with
  | none => rfl
  | some u =>
    rcases s.fz a u e with q | q
    · rw [b] at q
      cases q
    · rw [h] at q
      cases q
/-- slots that hold data alone -/
def Flats (K : PySem.W.Frag) (B : Hp) (σ : L2.St) (S : SS) : Prop := S.length = σ.length ∧ ∀ (i : Nat) s, S[i]? = some (some s) → ∃ d v, s = .dat d ∧ σ[i]? = some (some v) ∧ Da K B v d
theorem Flats.rep {σ : L2.St} {S : SS} (f : Flats K B σ S) (bh : Same B H) : Rep (ct0 (K := K) H B er) σ H B S := by
  have no : ∀ (i : Nat) s, S[i]? = some (some s) → s.mine = true → False := fun i s h m => by
    obtain ⟨d, _, rfl, _⟩ := f.2 i s h
    cases m
  refine ⟨⟨fun a o _ q => q, Same.refl _, bh, fun a o q => .inl q⟩, f.1, fun i s h => ?_, fun i j s u a h1 h2 m1 m2 e1 e2 => (no i s h1 m1).elim, fun i s a h m e => (no i s h m).elim, fun i a h => nomatch (show (none : Option (Option Addr)) = some (some a) from h)⟩
  obtain ⟨d, v, rfl, h1, h2⟩ := f.2 i s h
  exact ⟨v, h1, h2⟩
theorem Flats.mono {σ : L2.St} {S : SS} (f : Flats K B σ S) (e : Same B B1) : Flats K B1 σ S := ⟨f.1, fun i s h => by
  obtain ⟨d, v, rfl, h1, h2⟩ := f.2 i s h
  exact ⟨d, v, rfl, h1, da_mono e h2⟩⟩
theorem Flats.none_ {σ : L2.St} {S : SS} {i : Nat} (f : Flats K B σ S) {v : Option V} : Flats K B (σ.set i v) (S.set i none) := ⟨by simp [f.1], fun j s h => by
  by_cases e : j = i
  · subst e
    have hl : j < S.length := by
      have := (List.getElem?_eq_some_iff.mp h).1
      simpa using this
    rw [List.getElem?_set_self hl] at h
    cases h
  · rw [List.getElem?_set_ne (Ne.symm e)] at h
    obtain ⟨d, v, rfl, h1, h2⟩ := f.2 j s h
    exact ⟨d, v, rfl, by rw [List.getElem?_set_ne (Ne.symm e)]; exact h1, h2⟩⟩
theorem Flats.put {σ : L2.St} {S : SS} {i : Nat} {v : V} {d : PyData} (f : Flats K B σ S) (h : Da K B v d) : Flats K B (σ.set i (some v)) (S.set i (some (.dat d))) := ⟨by simp [f.1], fun j s q => by
  by_cases e : j = i
  · subst e
    have hl : j < S.length := by
      have := (List.getElem?_eq_some_iff.mp q).1
      simpa using this
    rw [List.getElem?_set_self hl] at q
    cases q
    exact ⟨d, v, rfl, List.getElem?_set_self (by rw [← f.1]; exact hl), h⟩
  · rw [List.getElem?_set_ne (Ne.symm e)] at q
    obtain ⟨d, v, rfl, h1, h2⟩ := f.2 j s q
    exact ⟨d, v, rfl, by rw [List.getElem?_set_ne (Ne.symm e)]; exact h1, h2⟩⟩
/-- slots that are the same as far as they are told of -/
theorem Flats.weak {σ : L2.St} {S T : SS} (f : Flats K B σ S) (l : T.length = S.length) (h : ∀ (i : Nat) s, T[i]? = some (some s) → S[i]? = some (some s)) : Flats K B σ T := ⟨by rw [l, f.1], fun i s q => f.2 i s (h i s q)⟩
theorem Rep.stp {σ : L2.St} {S : SS} (R : Rep (ct0 (K := K) H B er) σ H1 B1 S) : Stp H B H1 B1 := ⟨fun a o z => R.base.keep a o (by simp [ct0]) z, R.base.b0, R.base.bh, R.base.fr⟩
theorem Rep.flats {σ : L2.St} {S : SS} (R : Rep (ct0 (K := K) H B er) σ H1 B1 S) (h : ∀ (i : Nat) s, S[i]? = some (some s) → ∃ d, s = .dat d) : Flats K B1 σ S := ⟨R.len, fun i s q => by
  obtain ⟨d, rfl⟩ := h i s q
  obtain ⟨v, h1, h2⟩ := R.slot i _ q
  exact ⟨d, v, rfl, h1, h2⟩⟩
/-! ### a list of lists -/
/-- at a a list of lists, each one's own -/
structure NL (K : PySem.W.Frag) (H B : Hp) (a : Addr) (bs : List Addr) (css : List (List PyData)) : Prop where
  top : H a = some (.lst (bs.map V.ref))
  nb : B a = none
  nd : (a :: bs).Nodup
  len : bs.length = css.length
  each : ∀ (i : Nat) b cs, bs[i]? = some b → css[i]? = some cs → ∃ vs, H b = some (.lst vs) ∧ B b = none ∧ DaAll K B vs cs
variable {a : Addr} {bs : List Addr} {css : List (List PyData)}
theorem NL.step (h : NL K H B a bs css) (s : Stp H B H1 B1) : NL K H1 B1 a bs css := ⟨s.sH _ _ h.top, s.gone h.top h.nb, h.nd, h.len, fun i b cs h1 h2 => by
  obtain ⟨vs, q1, q2, q3⟩ := h.each i b cs h1 h2
  exact ⟨vs, s.sH _ _ q1, s.gone q1 q2, daa_mono s.sB q3⟩⟩
/-- everything of the list of lists -/
theorem NL.mem (h : NL K H B a bs css) {x : Addr} (hx : x ∈ a :: bs) : (∃ o, H x = some o) ∧ B x = none := by
  rcases List.mem_cons.mp hx with rfl | hx
  · exact ⟨⟨_, h.top⟩, h.nb⟩
  · obtain ⟨i, hi⟩ := List.getElem?_of_mem hx
    have hl : i < css.length := by
      have := (List.getElem?_eq_some_iff.mp hi).1
      rw [← h.len]
      exact this
    obtain ⟨vs, q1, q2, _⟩ := h.each i x css[i] hi (List.getElem?_eq_getElem hl)
    exact ⟨⟨_, q1⟩, q2⟩
/-- one list more, empty -/
theorem NL.push (h : NL K H B a bs css) {b : Addr} (hb : H b = none) (bh : Same B H) : NL K (upd (upd H b (.lst [])) a (.lst (bs.map V.ref ++ [V.ref b]))) B a (bs ++ [b]) (css ++ [[]]) := by
  have nbm : b ∉ a :: bs := fun hm => by
    obtain ⟨⟨o, ho⟩, _⟩ := h.mem hm
    rw [hb] at ho
    cases ho
  have nba : b ≠ a := fun e => nbm (by rw [e]; exact List.mem_cons_self)
  have nb2 : b ∉ bs := fun e => nbm (List.mem_cons_of_mem _ e)
  have nd := h.nd
  rw [List.nodup_cons] at nd
  refine ⟨by rw [upd_same, List.map_append]; rfl, h.nb, ?_, by rw [List.length_append, List.length_append, h.len]; rfl, fun i c cs h1 h2 => ?_⟩
  · rw [List.nodup_cons]
    refine ⟨fun hm => ?_, ?_⟩
    · rcases List.mem_append.mp hm with q | q
      · exact nd.1 q
      · exact nba (List.mem_singleton.mp q).symm
    · refine List.nodup_append.mpr ⟨nd.2, by simp, fun x hx y hy => ?_⟩
      rw [List.mem_singleton.mp hy]
      rintro rfl
      exact nb2 hx
  · by_cases hi : i < bs.length
    · rw [List.getElem?_append_left hi] at h1
      rw [List.getElem?_append_left (by rw [← h.len]; exact hi)] at h2
      obtain ⟨vs, q1, q2, q3⟩ := h.each i c cs h1 h2
      have n1 : c ≠ a := fun e => nd.1 (by rw [← e]; exact List.mem_of_getElem? h1)
      have n2 : c ≠ b := fun e => nb2 (by rw [← e]; exact List.mem_of_getElem? h1)
      exact ⟨vs, by rw [upd_ne n1, upd_ne n2]; exact q1, q2, q3⟩
    · have e : i = bs.length := by
        have := (List.getElem?_eq_some_iff.mp h1).1
        rw [List.length_append, List.length_singleton] at this
        omega
      subst e
      rw [List.getElem?_append_right (Nat.le_refl _), Nat.sub_self] at h1
      rw [List.getElem?_append_right (by rw [h.len]; exact Nat.le_refl _), h.len, Nat.sub_self] at h2
      cases h1
      cases h2
      refine ⟨[], by rw [upd_ne nba, upd_same], ?_, .nil⟩
      cases q : B b with
      | none => rfl
      | some o =>
        rw [bh b o q] at hb
        cases hb
/-- one of the lists is changed -/
theorem NL.write (h : NL K H B a bs css) {i : Nat} {b : Addr} {vs : List V} {cs : List PyData} (hb : bs[i]? = some b) (d : DaAll K B vs cs) : NL K (upd H b (.lst vs)) B a bs (css.set i cs) := by
  have nd := h.nd
  rw [List.nodup_cons] at nd
  have nba : a ≠ b := fun e => nd.1 (by rw [e]; exact List.mem_of_getElem? hb)
  refine ⟨by rw [upd_ne nba]; exact h.top, h.nb, h.nd, by rw [List.length_set]; exact h.len, fun j c ds h1 h2 => ?_⟩
  by_cases e : j = i
  · subst e
    rw [hb] at h1
    cases h1
    have hl : j < css.length := by
      have := (List.getElem?_eq_some_iff.mp h2).1
      simpa using this
    rw [List.getElem?_set_self hl] at h2
    cases h2
    exact ⟨vs, upd_same, (h.mem (List.mem_cons_of_mem _ (List.mem_of_getElem? hb))).2, d⟩
  · rw [List.getElem?_set_ne (Ne.symm e)] at h2
    obtain ⟨ws, q1, q2, q3⟩ := h.each j c ds h1 h2
    have n : c ≠ b := fun z => by
      subst z
      have l1 := (List.getElem?_eq_some_iff.mp h1)
      have l2 := (List.getElem?_eq_some_iff.mp hb)
      exact e ((List.getElem_inj nd.2).mp (l1.2.trans l2.2.symm))
    exact ⟨ws, by rw [upd_ne n]; exact q1, q2, q3⟩
/-- from here on it stays -/
def frzAll (H B : Hp) (xs : List Addr) : Hp := fun x => if x ∈ xs then H x else B x
theorem NL.rest (h : NL K H B a bs css) (bh : Same B H) : Same B (frzAll H B (a :: bs)) ∧ Same (frzAll H B (a :: bs)) H ∧ Da K (frzAll H B (a :: bs)) (.ref a) (.list (css.map PyData.list)) := by
  have sB : Same B (frzAll H B (a :: bs)) := fun x o q => by
    unfold frzAll
    by_cases e : x ∈ a :: bs
    · have := (h.mem e).2
      rw [this] at q
      cases q
    · rw [if_neg e]
      exact q
  refine ⟨sB, fun x o q => ?_, .lst (xs := bs.map V.ref) ?_ ?_⟩
  · unfold frzAll at q
    by_cases e : x ∈ a :: bs
    · rw [if_pos e] at q
      exact q
    · rw [if_neg e] at q
      exact bh x o q
  · unfold frzAll
    rw [if_pos List.mem_cons_self]
    exact h.top
  · have go : ∀ (m : Nat) (bs' : List Addr) (css' : List (List PyData)), bs'.length = css'.length → (∀ (i : Nat) b cs, bs'[i]? = some b → css'[i]? = some cs → b ∈ a :: bs ∧ ∃ vs, H b = some (.lst vs) ∧ DaAll K (frzAll H B (a :: bs)) vs cs) → DaAll K (frzAll H B (a :: bs)) (bs'.map V.ref) (css'.map PyData.list) := by
      intro m bs'
      induction bs' with
      | nil =>
        intro css' l _
        cases css' with
        | nil => exact .nil
        | cons c r => simp at l
      | cons b r ih =>
        intro css' l hh
        cases css' with
        | nil => simp at l
        | cons c s =>
          obtain ⟨m1, vs, q1, q2⟩ := hh 0 b c rfl rfl
          refine .cons (.lst (xs := vs) ?_ q2) (ih s (by simpa using l) fun i b' cs h1 h2 => hh (i + 1) b' cs h1 h2)
          unfold frzAll
          rw [if_pos m1]
          exact q1
    refine go 0 bs css h.len fun i b cs h1 h2 => ?_
    obtain ⟨vs, q1, q2, q3⟩ := h.each i b cs h1 h2
    exact ⟨List.mem_cons_of_mem _ (List.mem_of_getElem? h1), vs, q1, daa_mono sB q3⟩
/-! ### a loop by hand -/
theorem for_hand {C : Ct K 0} {J : It} {ds : List PyData} (W : Walks C B J ds) {g : TG} {tb : TS} {D : Ends} (Pv : Nat → L2.St → Hp → Hp → Prop)
    (hB : ∀ i σ H1 B1, Pv i σ H1 B1 → Same B B1 ∧ Same B1 H1)
    (step : ∀ (i : Nat) d σ H1 B1 v H2 B2, ds[i]? = some d → Pv i σ H1 B1 → Stp H1 B1 H2 B2 → Da K B2 v d →
      g v σ H2 fun σ2 H3 => tb { D with nx := fun σ3 H4 => ∃ B4, Pv (i + 1) σ3 H4 B4, ct := fun σ3 H4 => ∃ B4, Pv (i + 1) σ3 H4 B4, bk := D.nx } σ2 H3)
    (done : ∀ σ H1 B1, Pv ds.length σ H1 B1 → D.nx σ H1) {σ : L2.St} {H1 B1 : Hp} (h0 : Pv 0 σ H1 B1) :
    ∃ W' : Nat → Nat → L2.St → Hp → Prop, (∃ m, W' 0 m σ H1) ∧ ∀ i m σ H, W' i m σ H → (J.stop i H ∧ D.nx σ H) ∨ (J.go i H ∧ ∃ N : L2.St → Hp → Prop, (∀ σ' H', N σ' H' → ∃ m', m' < m ∧ W' (i + 1) m' σ' H') ∧
      ∀ v H', J.yld i H v H' → g v σ H' fun σ2 H2 => tb { D with nx := N, ct := N, bk := D.nx } σ2 H2) := by
  refine ⟨fun i m σ H => m = ds.length - i ∧ i ≤ ds.length ∧ ∃ B1, Pv i σ H B1, ⟨ds.length, by simp, Nat.zero_le _, B1, h0⟩, ?_⟩
  rintro i m σ H2 ⟨rfl, hi, B2, p⟩
  obtain ⟨e1, e2⟩ := hB i σ H2 B2 p
  rcases Nat.lt_or_ge i ds.length with hlt | hge
  · refine .inr ⟨W.go i H2 hlt (e1.trans e2), fun σ3 H4 => ∃ B4, Pv (i + 1) σ3 H4 B4, ?_, ?_⟩
    · rintro σ3 H4 ⟨B4, p4⟩
      exact ⟨ds.length - (i + 1), by omega, rfl, hlt, B4, p4⟩
    · intro v H3 y
      have R : Rep (ct0 (K := K) H2 B2 fun _ _ _ => True) ([] : L2.St) H2 B2 [] := (Flats.rep ⟨rfl, fun i s h => nomatch h⟩ e2)
      obtain ⟨B3, R3, e3, dv, k⟩ := W.yld i H2 H3 v ds[i] (List.getElem?_eq_getElem hlt) y (ct0 H2 B2 fun _ _ _ => True) [] B2 [] R e1
      exact step i ds[i] σ H2 B2 v H3 B3 (List.getElem?_eq_getElem hlt) p R3.stp dv
  · have ei : i = ds.length := by omega
    subst ei
    exact .inl ⟨W.stop H2 (e1.trans e2), done σ H2 B2 p⟩
end
end Bo

/-! ### parse_system's walk over its lines -/
namespace Bo
open PySem L2
section
variable {K : PySem.W.Frag} {C : Ct K 0} {H B H1 B1 : Hp}
theorem bx0 (C : Ct K 0) : C.bx = [] := List.length_eq_zero_iff.mp C.hbx
theorem base_up (b : Base C H B) {er : Exc → V → Hp → Prop} (s : Base (ct0 (K := K) H B er) H1 B1) : Base C H1 B1 := ⟨fun a o n q => s.keep a o (by simp [ct0]) (b.keep a o n q), b.b0.trans s.b0, s.bh, fun a o q => by
  rcases s.fr a o q with z | z
  · exact b.fr a o z
  · refine .inr ?_
    cases e : C.H0 a with
    | none => rfl
    | some u =>
      have := b.keep a u (by rw [bx0 C]; simp) e
      have z' : H a = none := z
      rw [this] at z'
      cases z'⟩
theorem out_up (b : Base C H B) {e : Exc} (h : C.Out e) : (ct0 (K := K) H B C.er).Out e := fun H' B' v s da => h H' B' v (base_up b s) da
theorem post_up {α : Type} {x : R α} {k : α → Prop} (b : Base C H B) (h : Post C x k) : Post (ct0 (K := K) H B C.er) x k := by
  cases x with
  | ok a => exact h
  | err e => exact out_up b h
  | bad => exact h
theorem base_stp (b : Base C H B) (s : Stp H B H1 B1) : Base C H1 B1 := base_up b (er := C.er) ⟨fun a o _ q => s.sH a o q, s.sB, s.bh, s.fz⟩
theorem Flats.repC {σ : L2.St} {S : SS} (f : Flats K B σ S) (b : Base C H B) : Rep C σ H B S := by
  have no : ∀ (i : Nat) s, S[i]? = some (some s) → s.mine = true → False := fun i s h m => by
    obtain ⟨d, _, rfl, _⟩ := f.2 i s h
    cases m
  refine ⟨b, f.1, fun i s h => ?_, fun i j s u a h1 h2 m1 m2 e1 e2 => (no i s h1 m1).elim, fun i s a h m e => (no i s h m).elim, fun i a h => ?_⟩
  · obtain ⟨d, v, rfl, h1, h2⟩ := f.2 i s h
    exact ⟨v, h1, h2⟩
  · rw [bx0 C] at h
    cases h
def flatS (S : SS) : Bool := S.all fun s => match s with
  | some (.dat _) => true
  | none => true
  | _ => false
theorem flatS_at {S : SS} (h : flatS S = true) {i : Nat} {s : SV} (e : S[i]? = some (some s)) : ∃ d, s = .dat d := by
  have := List.all_eq_true.mp h _ (List.mem_of_getElem? e)
  cases s with
  | dat d => exact ⟨d, rfl⟩
  | own ds => cases this
  | dic ds => cases this
  | scr ns => cases this
theorem Rep.flatsC {σ : L2.St} {S : SS} (R : Rep C σ H B S) (h : flatS S = true) : Flats K B σ S := ⟨R.len, fun i s q => by
  obtain ⟨d, rfl⟩ := flatS_at h q
  obtain ⟨v, h1, h2⟩ := R.slot i _ q
  exact ⟨d, v, rfl, h1, h2⟩⟩
/-- stores at places that are new since -/
theorem Stp.new {H2 : Hp} (s : Stp H B H1 B1) (h : ∀ x, H2 x ≠ H1 x → H x = none ∧ B1 x = none) : Stp H B H2 B1 := by
  refine ⟨fun x o q => ?_, s.sB, fun x o q => ?_, s.fz⟩
  · by_cases e : H2 x = H1 x
    · rw [e]
      exact s.sH x o q
    · rw [(h x e).1] at q
      cases q
  · by_cases e : H2 x = H1 x
    · rw [e]
      exact s.bh x o q
    · rw [(h x e).2] at q
      cases q
theorem Stp.back (s : Stp H B H1 B1) {x : Addr} (h : H1 x = none) : H x = none := by
  cases e : H x with
  | none => rfl
  | some o =>
    rw [s.sH x o e] at h
    cases h
def lastAdd (css : List (List PyData)) (c : PyData) : List (List PyData) := css.set (css.length - 1) (css.getD (css.length - 1) [] ++ [c])
def parsD (den : List PyData → R PyData) : List PyData → List (List PyData) → R (List (List PyData))
  | [], css => .ok css
  | .tuple [.int k, .str x] :: ds, css => if x = Str.ofString "state" then R.when (css.length < 100000) (parsD den ds (css ++ [[]])) else
      if css = [] then .err ⟨"InvalidLine", some (.int k)⟩ else (den [.int k, .str x]).bind fun c => R.when ((css.getD (css.length - 1) []).length < 100000) (parsD den ds (lastAdd css c))
  | _ :: _, _ => .bad
def vPars (iS iN iL : Nat) (fi : VF) (den : List PyData → R PyData) : VS := fun S => R.when (flatS S = true ∧ iS < S.length ∧ iN < S.length ∧ iL < S.length) ((fi (S.set iS none)).bind fun p => R.when (flatS p.2 = true) ((parsD den p.1 []).bind fun css =>
  .ok (.nx ((((p.2.set iN none).set iL none).set iS none).set iS (some (.dat (.list (css.map PyData.list))))))))
theorem pars_cons {den : List PyData → R PyData} {d : PyData} {ds : List PyData} {css : List (List PyData)} {k : R (List (List PyData)) → Prop} (h : k (parsD den (d :: ds) css)) (hb : ¬ k .bad) : ∃ (n : Int) (x : Str), d = .tuple [.int n, .str x] := by
  unfold parsD at h
  split at h
  · rename_i e
    cases e
  · rename_i n x ds' e
    cases e
    exact ⟨n, x, rfl⟩
  · exact (hb h).elim
theorem st_pars {L : Cls} {W : WX} {iS iN iL : Nat} {wi : TI} {fi : VF} {den : List PyData → R PyData} {c : Addr} {f : Str} (lk : Link C L W) (hc : L.at_ "InvalidLine" = some c) (hf : L.fld "InvalidLine" = f) (T : OexC K c) (nf : PySem.W.findIn K (.ref c) f = some none)
    (hi : ∀ C : Ct K 0, SI C wi fi) (d1 : iS ≠ iN) (d2 : iS ≠ iL) (d3 : iN ≠ iL) :
    SSt C (tSeq (tAsg (tLst tNil) (gName iS)) (tFor wi (gTup K 2 (gCons (gName iN) (gCons (gName iL) gNil))) (tIfS (tTest (tOp rEq (tVar iL) (tC (.str (Str.ofString "state")))))
      (tDrop (tBM K "list" rAppend (tVar iS) (tCons (tLst tNil) tNil)))
      (tIfS (tNot (fun σ H Q => tVar iS σ H fun x H' => ∃ k, TruV K x H' k ∧ Q k H'))
        (fun _ σ H => tMkO c (spIni K f) [] (tCons (tVar iN) tNil) σ H fun cl d H' => W cl d σ H')
        (tDrop (tBM K "list" rAppend (tOp (rIxL K) (tVar iS) (tUn (rU fun i => .int (-i)) (tC (.int 1)))) (tCons (tCallS (spX K L 2 den) (WE W) (tCons (tVar iN) (tCons (tVar iL) tNil))) tNil))))))) (vPars iS iN iL fi den) := by
  intro σ H B S D R h
  unfold vPars at h
  obtain ⟨⟨fS, lS, lN, lL⟩, h⟩ := post_when.mp h
  replace h := post_bind.mp h
  refine ⟨(by show 0 ≤ sizeLine; exact Nat.zero_le _), fun a ha => ?_⟩
  have f0 := R.flatsC fS
  -- the new list
  have s1 : Stp H B (upd H a (.lst [])) B := (Stp.refl R.base.bh).new fun x hx => by
    have e : x = a := Classical.byContradiction fun n => hx (upd_ne n)
    rw [e]
    exact ⟨ha, (R.new ha).2.1⟩
  have b1 := base_stp R.base s1
  have f1 : Flats K B (σ.set iS (some (.ref a))) (S.set iS none) := f0.none_
  refine hi (ct0 (upd H a (.lst [])) B C.er) (σ.set iS (some (.ref a))) (upd H a (.lst [])) B (S.set iS none) _ (f1.rep b1.bh) ((post_up b1 h).mono fun p h2 J H2 B2 R2 e2 Wk => ?_)
  obtain ⟨fp, h2⟩ := post_when.mp h2
  -- the walk
  have sl : σ.length = S.length := R.len.symm
  have rl := R2.len
  rw [List.length_set] at rl
  have s2 : Stp H B H2 B2 := s1.trans R2.stp
  have top2 : H2 a = some (.lst []) := R2.stp.sH _ _ upd_same
  have f2 := Rep.flats R2 fun i s e => flatS_at fp e
  have ha2 : B2 a = none := R2.stp.gone upd_same (R.new ha).2.1
  refine for_hand (B1 := B2) Wk (fun i σ' H' B' => ∃ bs css, NL K H' B' a bs css ∧ Stp H B H' B' ∧ Same B2 B' ∧ (∀ x ∈ a :: bs, H x = none) ∧ Flats K B' σ' (((p.2.set iN none).set iL none).set iS none) ∧ σ'[iS]? = some (some (.ref a)) ∧
      Post C ((parsD den (p.1.drop i) css).bind fun css => .ok (.nx ((((p.2.set iN none).set iL none).set iS none).set iS (some (.dat (.list (css.map PyData.list))))))) (FlPost C B D)) ?_ ?_ ?_ ?_
  · rintro i σ' H' B' ⟨bs, css, _, s', e', _⟩
    exact ⟨e', s'.bh⟩
  · rintro i d σ' H' B' v H3 B3 hd ⟨bs, css, nl, s', e', fr, fl, hσ, q⟩ s3 dv
    have hdrop : p.1.drop i = d :: p.1.drop (i + 1) := by
      obtain ⟨hlt, e⟩ := List.getElem?_eq_some_iff.mp hd
      rw [List.drop_eq_getElem_cons hlt, e]
    rw [hdrop] at q
    obtain ⟨n, x, rfl⟩ := pars_cons (k := fun r => Post C (r.bind fun css => .ok (.nx ((((p.2.set iN none).set iL none).set iS none).set iS (some (.dat (.list (css.map PyData.list))))))) (FlPost C B D)) q fun z => z
    cases dv with
    | tup sq da =>
      rename_i t vs
      cases da with
      | cons h1 da =>
        cases da with
        | cons h2 da =>
          cases da
          cases h1
          cases h2
          refine ⟨_, _, rfl, sm_t s3.bh sq, rfl, ?_⟩
          -- behind the targets
          have s4 := s'.trans s3
          have nl3 := nl.step s3
          have e3 : Same B2 B3 := e'.trans s3.sB
          have ln : σ'.length = σ.length := by
            have := fl.1
            simp only [List.length_set] at this
            omega
          have fl3 : Flats K B3 ((σ'.set iN (some (.int n))).set iL (some (.str x))) (((p.2.set iN none).set iL none).set iS none) := by
            refine (((fl.mono s3.sB).none_ (i := iN) (v := some (V.int n))).none_ (i := iL) (v := some (V.str x))).weak (by simp) fun j t ht => ?_
            by_cases e1 : j = iL
            · subst e1
              rw [List.getElem?_set_ne d2] at ht
              rw [List.getElem?_set_self (by simp; omega)] at ht
              cases ht
            · rw [List.getElem?_set_ne (Ne.symm e1)]
              by_cases e2 : j = iN
              · subst e2
                rw [List.getElem?_set_ne d1, List.getElem?_set_ne (Ne.symm e1), List.getElem?_set_self (by omega)] at ht
                cases ht
              · rw [List.getElem?_set_ne (Ne.symm e2)]
                exact ht
          have hσ3 : ((σ'.set iN (some (V.int n))).set iL (some (V.str x)))[iS]? = some (some (.ref a)) := by
            rw [List.getElem?_set_ne (Ne.symm d2), List.getElem?_set_ne (Ne.symm d1)]
            exact hσ
          have hN3 : ((σ'.set iN (some (V.int n))).set iL (some (V.str x)))[iN]? = some (some (.int n)) := by
            rw [List.getElem?_set_ne (Ne.symm d3), List.getElem?_set_self (by omega)]
          have hL3 : ((σ'.set iN (some (V.int n))).set iL (some (V.str x)))[iL]? = some (some (.str x)) := by
            rw [List.getElem?_set_self (by simp; omega)]
          generalize hσ4 : (σ'.set iN (some (V.int n))).set iL (some (V.str x)) = σ4 at fl3 hσ3 hN3 hL3
          refine ⟨_, _, rfl, _, _, rfl, rfl, ?_⟩
          rw [hσ4]
          refine ⟨_, hL3, rfl, _, rfl, ?_⟩
          unfold parsD at q
          by_cases cx : x = Str.ofString "state"
          · rw [if_pos cx] at q
            obtain ⟨kl, q⟩ := post_when.mp (post_bind.mp q)
            rw [if_pos (by rw [cx]; simp)]
            refine ⟨_, hσ3, .inl ⟨rfl, _, SqL.of nl3.top⟩, (by show 0 ≤ sizeLine; exact Nat.zero_le _), fun b hb => ?_⟩
            have nba : a ≠ b := fun e => by
              rw [← e, nl3.top] at hb
              cases hb
            refine ⟨a, bs.map V.ref, .ref b, rfl, rfl, by rw [upd_ne nba]; exact nl3.top, ?_, ?_⟩
            · rw [List.length_map, nl3.len]
              exact Nat.lt_of_lt_of_le kl (by decide)
            · refine ⟨B3, bs ++ [b], css ++ [[]], nl3.push hb s4.bh, s4.new fun y hy => ?_, e3, fun y hy => ?_, fl3, hσ3, post_bind.mpr q⟩
              · have : y = a ∨ y = b := Classical.byContradiction fun z => hy (by
                  rw [upd_ne (fun e => z (.inl e)), upd_ne (fun e => z (.inr e))])
                rcases this with rfl | rfl
                · exact ⟨ha, nl3.nb⟩
                · refine ⟨s4.back hb, ?_⟩
                  cases e : B3 y with
                  | none => rfl
                  | some o =>
                    rw [s4.bh y o e] at hb
                    cases hb
              · rcases List.mem_cons.mp hy with rfl | hy
                · exact ha
                · rcases List.mem_append.mp hy with hy | hy
                  · exact fr y (List.mem_cons_of_mem _ hy)
                  · rw [List.mem_singleton.mp hy]
                    exact s4.back hb
          · rw [if_neg cx] at q
            rw [if_neg (by simpa using cx)]
            -- no state yet?
            refine ⟨_, hσ3, _, .inl ⟨_, SqL.of nl3.top, rfl⟩, ?_⟩
            have flN : Flats K B3 σ4 (((((p.2.set iN none).set iL none).set iS none).set iN (some (.dat (.int n)))).set iL (some (.dat (.str x)))) := by
              refine ⟨by have := fl3.1; simp only [List.length_set] at this ⊢; exact this, fun j t ht => ?_⟩
              by_cases e1 : j = iL
              · subst e1
                rw [List.getElem?_set_self (by simp; omega)] at ht
                cases ht
                exact ⟨_, _, rfl, hL3, .str _⟩
              · rw [List.getElem?_set_ne (Ne.symm e1)] at ht
                by_cases e2 : j = iN
                · subst e2
                  rw [List.getElem?_set_self (by simp; omega)] at ht
                  cases ht
                  exact ⟨_, _, rfl, hN3, .int _⟩
                · rw [List.getElem?_set_ne (Ne.symm e2)] at ht
                  exact fl3.2 j t ht
            have b3 := base_stp R.base s4
            have gN : (((((p.2.set iN none).set iL none).set iS none).set iN (some (SV.dat (.int n)))).set iL (some (.dat (.str x))))[iN]? = some (some (.dat (.int n))) := by
              rw [List.getElem?_set_ne (Ne.symm d3), List.getElem?_set_self (by simp; omega)]
            have gL : (((((p.2.set iN none).set iL none).set iS none).set iN (some (SV.dat (.int n)))).set iL (some (.dat (.str x))))[iL]? = some (some (.dat (.str x))) := by
              rw [List.getElem?_set_self (by simp; omega)]
            generalize hSN : ((((p.2.set iN none).set iL none).set iS none).set iN (some (SV.dat (.int n)))).set iL (some (.dat (.str x))) = SN at flN gN gL
            by_cases ce : css = []
            · rw [if_pos ce] at q
              have be : bs = [] := by
                have := nl3.len
                rw [ce] at this
                exact List.length_eq_zero_iff.mp this
              rw [be]
              dsimp only
              rw [if_pos (by rfl)]
              refine st_raise (C := ct0 (K := K) H3 B3 C.er) (fa := vCons (vVar iN) vNil) (fun e v d σ H => lk e v d σ H) hc hf T nf (s_cons s_var s_nil) σ4 H3 B3 SN D (flN.rep s4.bh) ?_
              unfold vRaise vCons vVar vNil
              rw [gN]
              exact out_up b3 q
            · rw [if_neg ce] at q
              have bne : bs ≠ [] := fun e => ce (List.length_eq_zero_iff.mp (by rw [← nl3.len, e]; rfl))
              dsimp only
              rw [if_neg (by cases bs with | nil => exact absurd rfl bne | cons b r => simp)]
              replace q := post_bind.mp (post_bind.mp q)
              -- the last list
              have l1 : css.length - 1 < css.length := by
                have : css.length ≠ 0 := fun e => ce (List.length_eq_zero_iff.mp e)
                omega
              have l2 : css.length - 1 < bs.length := by rw [nl3.len]; exact l1
              have hb : bs[css.length - 1]? = some bs[css.length - 1] := List.getElem?_eq_getElem l2
              generalize bs[css.length - 1] = b at hb
              have gl : css[css.length - 1]? = some (css.getD (css.length - 1) []) := by
                rw [List.getD_eq_getElem?_getD, List.getElem?_eq_getElem l1]
                rfl
              obtain ⟨vs, q1, q2, q3⟩ := nl3.each _ b _ hb gl
              have at1 : atI (bs.map V.ref) (-1) = some (.ref b) := by
                unfold atI ixN
                rw [if_neg (by decide), if_pos (by rw [List.length_map]; omega)]
                show (bs.map V.ref)[_]? = _
                have e : (-1 + (((bs.map V.ref).length : Nat) : Int)).toNat = css.length - 1 := by
                  rw [List.length_map, nl3.len]
                  omega
                rw [e, List.getElem?_map, hb]
                rfl
              refine ⟨_, hσ3, _, rfl, a, bs.map V.ref, _, .ref b, rfl, rfl, SqL.of nl3.top, at1, .inl ⟨rfl, _, SqL.of q1⟩, ?_⟩
              refine s_cons (s_callX (L := L) (fun e v d σ H => lk e v d σ H) (s_cons s_var (s_cons s_var s_nil))) s_nil (C := ct0 (K := K) H3 B3 C.er) (fr := vNil) (fa := vCallX 2 den (vCons (vVar iN) (vCons (vVar iL) vNil))) σ4 H3 B3 SN _ (flN.rep s4.bh) ?_
              have e1 : (vCons (vVar iN) (vCons (vVar iL) vNil)) SN = .ok ([.int n, .str x], SN) := by
                simp only [vCons, vVar, vNil, gN, gL, Bo.R.bind_ok]
              refine post_bind.mpr ?_
              unfold vCallX
              rw [e1]
              refine post_when.mpr ⟨rfl, post_bind.mpr ((post_up b3 q).mono fun cd q => ?_)⟩
              intro ws H5 B5 R5 e5 dw
              dsimp only at dw R5
              cases dw with
              | cons dv t =>
                rename_i w ws
                cases t
                obtain ⟨kz, q⟩ := post_when.mp q
                have s5 := R5.stp
                have nl5 := nl3.step s5
                have q5 := s5.sH _ _ q1
                refine ⟨b, vs, w, rfl, rfl, q5, Nat.lt_of_lt_of_le (by rw [daa_len q3]; exact kz) (by decide), ?_⟩
                have hbm : b ∈ a :: bs := List.mem_cons_of_mem _ (List.mem_of_getElem? hb)
                refine ⟨B5, bs, lastAdd css cd, nl5.write hb (daa_app (daa_mono s5.sB q3) (.cons dv .nil)), (s4.trans s5).new fun y hy => ?_, e3.trans s5.sB, fr, fl3.mono s5.sB, hσ3, post_bind.mpr q⟩
                have e : y = b := Classical.byContradiction fun z => hy (upd_ne z)
                rw [e]
                exact ⟨fr b hbm, (nl5.mem hbm).2⟩
  · rintro σ' H' B' ⟨bs, css, nl, s', e', fr, fl, hσ, q⟩
    rw [List.drop_length] at q
    obtain ⟨sB, sH, dv⟩ := nl.rest s'.bh
    have s5 : Stp H B H' (frzAll H' B' (a :: bs)) := ⟨s'.sH, s'.sB.trans sB, sH, fun y o z => by
      unfold frzAll at z
      by_cases e : y ∈ a :: bs
      · exact .inr (fr y e)
      · rw [if_neg e] at z
        exact s'.fz y o z⟩
    have fin := (fl.mono sB).put (i := iS) dv
    have eσ : σ'.set iS (some (V.ref a)) = σ' := by
      obtain ⟨hlt, e⟩ := List.getElem?_eq_some_iff.mp hσ
      rw [← e]
      exact List.set_getElem_self hlt
    rw [eσ] at fin
    exact q σ' H' _ (fin.repC (base_stp R.base s5)) s5.sB
  · refine ⟨[], [], ⟨top2, ha2, by simp, rfl, fun i b cs h => nomatch h⟩, s2, Same.refl _, fun x hx => ?_, ?_, ?_, ?_⟩
    · rw [List.mem_singleton.mp hx]
      exact ha
    · refine f2.weak (by simp) fun j t ht => ?_
      by_cases e1 : j = iS
      · subst e1
        rw [List.getElem?_set_self (by simp; omega)] at ht
        cases ht
      · rw [List.getElem?_set_ne (Ne.symm e1)] at ht
        by_cases e2 : j = iL
        · subst e2
          rw [List.getElem?_set_self (by simp; omega)] at ht
          cases ht
        · rw [List.getElem?_set_ne (Ne.symm e2)] at ht
          by_cases e3 : j = iN
          · subst e3
            rw [List.getElem?_set_self (by omega)] at ht
            cases ht
          · rw [List.getElem?_set_ne (Ne.symm e3)] at ht
            exact ht
    · rw [List.getElem?_set_self (by omega)]
    · rw [List.drop_zero]
      exact h2
theorem st_seq2 {ta tb tc : TS} {fa fc : VS} (ha : SSt C (tSeq ta tb) fa) (hc : SSt C tc fc) : SSt C (tSeq ta (tSeq tb tc)) (vSeq fa fc) := fun σ H B S D R h => st_seq ha hc σ H B S D R h
end
end Bo

/-! ### the rules with K named, and some more statements -/
namespace Bo
open PySem L2
section
variable {X : Cx} (K : PySem.W.Frag) (h : X.K = K := by rfl)
include h
theorem k_len : CallR X (.builtin "len") (fun xs H Q => ∃ p ys, xs = [.ref p] ∧ (SqL K H p ys ∨ SqT K H p ys) ∧ Q (.int ys.length) H) := h ▸ call_len_seq
theorem k_tuple : CallR X (.type "tuple") (fun xs H Q => ∃ p ys, xs = [.ref p] ∧ ((SqL K H p ys ∧ ∀ l, H l = none → Q (.ref l) (upd H l (.tup ys))) ∨ (SqT K H p ys ∧ Q (.ref p) H))) := h ▸ call_tuple_of
theorem k_catA : OpR X (binaryOp .Add) (rCatA K) := h ▸ op_catA
theorem k_slL : SlR X (rSlL K) := h ▸ sl_list
theorem k_iList {tg l : Expr} {tl : TE} (hl : PE X l tl) : PI X tg l (iList K tl) := h ▸ pi_list hl
theorem k_iTup {tg l : Expr} {tl : TE} (hl : PE X l tl) : PI X tg l (iTup K tl) := h ▸ pi_tup hl
theorem k_gTup {es : List Expr} {k : Nat} {t : TGs} {n : Nat} {pos : Pos} (hc : X.calm = true) (hh : PGs X es t) (hn : (assignEach es X.env).length = n := by rfl) (hst : (assignEach es X.env).findIdx? (·.1) = none := by rfl) : PG X (.Tuple es k pos) (gTup K n t) := h ▸ pg_tup hc hh hn hst
theorem k_truth {a : Expr} {ta : TE} (ha : PE X a ta) (he : ∀ whole, isTrue a X.env whole = (do let v ← whole; standAt a.pos; holding [v] (truthy v))) : PT X a (fun σ H Q => ta σ H fun x H' => ∃ k, TruV K x H' k ∧ Q k H') := h ▸ pt_truth ha he
end
section
variable {K : PySem.W.Frag} {n : Nat} {C : Ct K n} {σ : L2.St} {H B : Hp} {S : SS}
/-- x += e, ints -/
def vAug (i : Nat) (f : Int → Int → Int) (fe : VE) : VS := fun S => match S[i]? with
  | some (some (.dat (.int a))) => (fe S).bind fun p => (toI p.1).bind fun b => .ok (.nx (p.2.set i (some (.dat (.int (f a b))))))
  | _ => .bad
end
end Bo

/-! ### lists of a slot, lent to a call that tells a plain value, and walked -/
namespace Bo
open PySem L2
section
variable {K : PySem.W.Frag} {n : Nat} {C : Ct K n} {σ : L2.St} {H B : Hp} {S : SS}
def vConsO (i : Nat) (fr : VA) : VA := fun S => (ownD S i).bind fun _ => (fr S).bind fun q => (ownD q.2 i).bind fun ds => .ok (.list ds :: q.1, q.2)
def vCallL (m : Nat) (den : List PyData → R PyData) (fa : VA) : VE := fun S => (fa S).bind fun p => R.when (p.1.length = m) (((den p.1).noErr).bind fun z => R.when (flatD z = true) (.ok (z, p.2)))
/-! walks over a slot's list, as it stands at each turn -/
/-- a turn's item, by place -/
def itO (pair : Bool) (k : Nat) (d : PyData) : PyData := if pair = true then .tuple [.int (k : Nat), d] else d
/-- the walk J over the list of slot i, told by Rep -/
structure WalkO (C : Ct K n) (σ : L2.St) (i : Nat) (J : It) (pair : Bool) : Prop where
  go : ∀ (k : Nat) H B S ds, Rep C σ H B S → S[i]? = some (some (.own ds)) → k < ds.length → J.go k H
  stop : ∀ (k : Nat) H B S ds, Rep C σ H B S → S[i]? = some (some (.own ds)) → k = ds.length → J.stop k H
  yld : ∀ (k : Nat) H H' B S ds d x, Rep C σ H B S → S[i]? = some (some (.own ds)) → ds[k]? = some d → J.yld k H x H' → ∃ B', Rep C σ H' B' S ∧ Same B B' ∧ Da K B' x (itO pair k d) ∧ ∀ D o, H D = some o → H' D = some o
/-- turns from place k on -/
def lcO (pair : Bool) (i : Nat) (fg : PyData → SS → R SS) (ft : VT) (fe : VE) (vs : List Nat) : Nat → Nat → SS → R (List PyData × SS)
  | 0, _, _ => .bad
  | m + 1, k, S => (ownD S i).bind fun ds => match ds[k]? with
    | none => R.when (k = ds.length) (.ok ([], S))
    | some d => (fg (itO pair k d) S).bind fun S1 => (ft S1).bind fun p => if p.1 = true then (fe p.2).bind fun q => (lcO pair i fg ft fe vs m (k + 1) (wipeS q.2 vs)).bind fun r => .ok (q.1 :: r.1, r.2) else lcO pair i fg ft fe vs m (k + 1) (wipeS p.2 vs)
def vLcO (pair : Bool) (i : Nat) (vs : List Nat) (fg : PyData → SS → R SS) (ft : VT) (fe : VE) : VF := fun S => (ownD S i).bind fun _ => R.when (okS vs S = true) ((lcO pair i fg ft fe vs 100000 0 (wipeS S vs)).bind fun r => .ok (r.1, backS S r.2 vs))
end
end Bo

/-! ### the laws' own draws: what their defs are worth -/
namespace Bo
open PySem L2
def body_l_tape : VS :=
    (vSeq (vOwn 1 (vLstF vNil))
    (vSeq (vFor (vScr 0) (aName 2) (vSeq (vAsg (vOp (gIC cMulS fun i j => i * j) (vC (.int 2)) (vCall gInt (vCons (vVar 2) vNil))) (aName 3))
    (vSeq (vIfS (vTst (vOp (gIB fun i j => decide (i < j)) (vVar 3) (vC (.int 0)))) (vAsg (vOp (gI fun i j => i - j) (vUn gNeg (vC (.int 1))) (vVar 3)) (aName 3)) vNext)
    (vIfS (vTst (vOp (gIB fun i j => decide (j ≤ i)) (vVar 3) (vOp (gIC cPow fun i j => i ^ j.toNat) (vC (.int 10)) (vC (.int 18))))) (vFor (vRange1 (vCons (vC (.int 40)) vNil)) (aName 4) (vIfS (vTst (vOp (gIB fun i j => decide (j < i)) (vVar 3) (vC (.int 0)))) (vSeq (vDrop (vApp 1 (vOp (gIC cMod Int.fmod) (vCall gInt (vCons (vVar 3) vNil)) (vC (.int 1000)))))
    (vAsg (vOp (gIC cFdiv Int.fdiv) (vVar 3) (vC (.int 1000))) (aName 3))) vNext)) (vFor (vRange1 (vCons (vC (.int 3)) vNil)) (aName 4) (vSeq (vAsg (vOp (gIC cMod Int.fmod) (vCall gInt (vCons (vOp (gI fun i j => i + j) (vOp (gI fun i j => i + j) (vOp (gIC cMulS fun i j => i * j) (vVar 3) (vC (.int 48271))) (vOp (gIC cMulS fun i j => i * j) (vVar 4) (vC (.int 40503)))) (vC (.int 11))) vNil)) (vC (.int 2147483629))) (aName 5))
    (vDrop (vApp 1 (vOp (gIC cMod Int.fmod) (vCall gInt (vCons (vOp (gI fun i j => i + j) (vOp (gIC cMulS fun i j => i * j) (vVar 5) (vC (.int 69621))) (vOp (gIC cFdiv Int.fdiv) (vVar 5) (vC (.int 65536)))) vNil)) (vC (.int 2147483629)))))))))))
    (vFrz 1 (vRet (vVar 1)))))
def den_l_tape := denS 6 body_l_tape
def body_l_draw : VS :=
    (vSeq (vIfS (vTst (vOp (gIB fun i j => decide (i < j)) (vVar 1) (vCall gLen (vCons (vVar 0) vNil)))) (vRet (vOp (gIC cMod Int.fmod) (vCall gInt (vCons (vOp gIxL (vVar 0) (vVar 1)) vNil)) (vVar 2))) vNext)
    (vSeq (vAsg (vC (.int 1)) (aName 3))
    (vSeq (vIfS (vTst (vOp (gIB fun i j => decide (j < i)) (vCall gLen (vCons (vVar 0) vNil)) (vC (.int 0)))) (vAsg (vOp gIxL (vVar 0) (vOp (gIC cMod Int.fmod) (vCall gInt (vCons (vVar 1) vNil)) (vCall gLen (vCons (vVar 0) vNil)))) (aName 3)) vNext)
    (vRet (vOp (gIC cMod Int.fmod) (vOp (gIC cMod Int.fmod) (vCall gInt (vCons (vOp (gI fun i j => i + j) (vOp (gIC cMulS fun i j => i * j) (vOp (gIC cMul fun i j => i * j) (vOp (gI fun i j => i + j) (vVar 3) (vVar 1)) (vOp (gI fun i j => i + j) (vVar 1) (vC (.int 3)))) (vC (.int 7919))) (vOp (gIC cMulS fun i j => i * j) (vVar 1) (vC (.int 104729)))) vNil)) (vC (.int 65521))) (vVar 2))))))
def den_l_draw := denP 4 body_l_draw
def body_l_take : VS :=
    (vSeq (vSetI 0 (vC (.int 1)) (vOp (gI fun i j => i + j) (vIxO 0 (vC (.int 1))) (vC (.int 1))))
    (vRet (vCallP 3 den_l_draw (vCons (vIxO 0 (vC (.int 0))) (vCons (vIxO 0 (vC (.int 1))) (vCons (vVar 1) vNil))))))
def den_l_take := denB 2 body_l_take
def body_l_ends : VS :=
    (vSeq (vOwn 2 (vLstF vNil))
    (vSeq (vAsg (vCallB 1 den_l_take 0 (vCons (vVar 1) vNil)) (aName 3))
    (vSeq (vFor (vRange1 (vCons (vVar 1) vNil)) (aName 4) (vIfS (tOrF (vTst (vOp gEq (vVar 4) (vVar 3))) (vTst (vOp gEq (vCallB 1 den_l_take 0 (vCons (vC (.int 3)) vNil)) (vC (.int 0))))) (vDrop (vApp 2 (vTup (vCons (vVar 4) (vCons (vOp gIxL (vLst (vCons (vC (.int 1)) (vCons (vC (.int 1)) (vCons (vC (.int 2)) (vCons (vC (.int 3)) (vCons (vC (.int 10)) (vCons (vC (.int 1000)) vNil))))))) (vCallB 1 den_l_take 0 (vCons (vC (.int 6)) vNil))) vNil))))) vNext))
    (vRet (vTupleO 2)))))
def den_l_ends := denB 5 body_l_ends
def body_l_choices : VS :=
    (vSeq (vOwn 3 (vLstF vNil))
    (vSeq (vFor (vRange1 (vCons (vOp (gI fun i j => i + j) (vC (.int 1)) (vCallB 1 den_l_take 0 (vCons (vVar 2) vNil))) vNil)) (aName 4) (vDrop (vApp 3 (vTup (vCons (vOp gIxL (vLst (vCons (vC (.int 0)) (vCons (vC (.int 1)) (vCons (vC (.int 2)) (vCons (vC (.int 5)) (vCons (vC (.int 1000)) vNil)))))) (vCallB 1 den_l_take 0 (vCons (vC (.int 5)) vNil))) (vCons (vCallB 1 den_l_ends 0 (vCons (vVar 1) vNil)) vNil))))))
    (vRet (vTupleO 3))))
def den_l_choices := denB 5 body_l_choices
def body_l_system : VS :=
    (vSeq (vAsg (vOp (gI fun i j => i + j) (vC (.int 1)) (vCallB 1 den_l_take 0 (vCons (vVar 1) vNil))) (aName 2))
    (vRet (vCall gTuple (vCons (vFr (vLc [3] (vRange1 (vCons (vVar 2) vNil)) (aName 3) vYes (vCallB 2 den_l_choices 0 (vCons (vVar 2) (vCons (vC (.int 3)) vNil))))) vNil))))
def den_l_system := denB 4 body_l_system
end Bo

/-! ### reasoning about what code is worth -/
namespace Bo
open PySem L2
section
variable {α β : Type} {x : R α} {f : α → R β} {k : β → Prop}
theorem okTo_bind : (x.bind f).okTo k ↔ x.okTo fun a => (f a).okTo k := by cases x <;> exact Iff.rfl
theorem okTo_ok {a : β} : (R.ok a).okTo k ↔ k a := Iff.rfl
theorem okTo_noErr {x : R β} : x.noErr.okTo k ↔ x.okTo k := by cases x <;> exact Iff.rfl
theorem okTo_when {c : Prop} [Decidable c] {x : R β} : (R.when c x).okTo k ↔ c ∧ x.okTo k := by
  by_cases h : c
  · rw [R.when_pos h]
    exact ⟨fun q => ⟨h, q⟩, fun q => q.2⟩
  · rw [R.when_neg h]
    exact ⟨fun q => q.elim, fun q => (h q.1).elim⟩
theorem okTo_eq {x : R α} {a : α} {k : α → Prop} (e : x = .ok a) (h : k a) : x.okTo k := by rw [e]; exact h
end
/-- a loop by what holds between its turns -/
theorem loop_ok {fg : PyData → SS → R SS} {fb : VS} {ds : List PyData} {k : FL → Prop} (I : Nat → SS → Prop)
    (step : ∀ i d S, ds[i]? = some d → I i S → (fg d S).okTo fun S1 => (fb S1).okTo fun fl => match fl with
      | .nx S2 => I (i + 1) S2
      | .ct S2 => I (i + 1) S2
      | .bk S2 => k (.nx S2)
      | .rt d S2 => k (.rt d S2)) (done : ∀ S, I ds.length S → k (.nx S)) {S : SS} (h0 : I 0 S) : (loopF fg fb ds S).okTo k := by
  have go : ∀ (es : List PyData) (i : Nat) (S : SS), ds.drop i = es → i + es.length = ds.length → I i S → (loopF fg fb es S).okTo k := by
    intro es
    induction es with
    | nil =>
      intro i S _ hl h
      have e : i = ds.length := by simpa using hl
      rw [e] at h
      exact done S h
    | cons d es ih =>
      intro i S hd hl h
      have hi : ds[i]? = some d := by
        have := congrArg (fun l => l[0]?) hd
        simpa using this
      have hd2 : ds.drop (i + 1) = es := by
        have := congrArg List.tail hd
        simpa using this
      have hl2 : i + 1 + es.length = ds.length := by
        rw [List.length_cons] at hl
        omega
      unfold loopF
      rw [okTo_bind]
      refine (step i d S hi h).mono fun S1 h1 => ?_
      rw [okTo_bind]
      refine h1.mono fun fl h2 => ?_
      cases fl with
      | nx S2 => exact ih (i + 1) S2 hd2 hl2 h2
      | ct S2 => exact ih (i + 1) S2 hd2 hl2 h2
      | bk S2 => exact h2
      | rt d S2 => exact h2
  exact go ds 0 S rfl (by omega) h0
/-- a comprehension by what holds between its turns -/
theorem lc_ok {fg : PyData → SS → R SS} {ft : VT} {fe : VE} {vs : List Nat} {ds : List PyData} {k : List PyData × SS → Prop} (I : Nat → List PyData → SS → Prop)
    (step : ∀ i d acc S, ds[i]? = some d → I i acc S → (fg d S).okTo fun S1 => (ft S1).okTo fun p => if p.1 = true then (fe p.2).okTo fun q => I (i + 1) (acc ++ [q.1]) (wipeS q.2 vs) else I (i + 1) acc (wipeS p.2 vs))
    (done : ∀ acc S, I ds.length acc S → k (acc, S)) {S : SS} (h0 : I 0 [] S) : (lcF fg ft fe vs ds S).okTo k := by
  have go : ∀ (es : List PyData) (i : Nat) (acc : List PyData) (S : SS), ds.drop i = es → i + es.length = ds.length → I i acc S → (lcF fg ft fe vs es S).okTo fun r => k (acc ++ r.1, r.2) := by
    intro es
    induction es with
    | nil =>
      intro i acc S _ hl h
      have e : i = ds.length := by simpa using hl
      rw [e] at h
      show k (acc ++ [], S)
      rw [List.append_nil]
      exact done acc S h
    | cons d es ih =>
      intro i acc S hd hl h
      have hi : ds[i]? = some d := by
        have := congrArg (fun l => l[0]?) hd
        simpa using this
      have hd2 : ds.drop (i + 1) = es := by
        have := congrArg List.tail hd
        simpa using this
      have hl2 : i + 1 + es.length = ds.length := by
        rw [List.length_cons] at hl
        omega
      unfold lcF
      rw [okTo_bind]
      refine (step i d acc S hi h).mono fun S1 h1 => ?_
      rw [okTo_bind]
      refine h1.mono fun p h2 => ?_
      by_cases c : p.1 = true
      · rw [if_pos c] at h2 ⊢
        rw [okTo_bind]
        refine h2.mono fun q h3 => ?_
        rw [okTo_bind]
        refine (ih (i + 1) (acc ++ [q.1]) _ hd2 hl2 h3).mono fun r h4 => ?_
        rw [List.append_assoc] at h4
        exact h4
      · rw [if_neg c] at h2 ⊢
        exact ih (i + 1) acc _ hd2 hl2 h2
  exact (go ds 0 [] S rfl (by omega) h0).mono fun r h => h
/-! ### the draws -/
def dL (ns : List Int) : PyData := .list (ns.map PyData.int)
def TapeOk (ts : List Int) : Prop := (∀ x ∈ ts, 0 ≤ x ∧ x < 2147483629) ∧ ts.length ≤ 3000
theorem tape_app {ts : List Int} {z : Int} (h : ∀ x ∈ ts, 0 ≤ x ∧ x < 2147483629) (h0 : 0 ≤ z) (h1 : z < 2147483629) : ∀ x ∈ ts ++ [z], 0 ≤ x ∧ x < 2147483629 := by
  intro x hx
  rcases List.mem_append.mp hx with q | q
  · exact h x q
  · rw [List.mem_singleton.mp q]
    exact ⟨h0, h1⟩
theorem rangeD_get {lo : Int} {m i : Nat} {d : PyData} (h : (rangeD lo m)[i]? = some d) : i < m ∧ d = .int (lo + (i : Nat)) := by
  unfold rangeD at h
  rw [List.getElem?_map] at h
  obtain ⟨j, h1, rfl⟩ := Option.map_eq_some_iff.mp h
  obtain ⟨h2, h3⟩ := List.getElem?_eq_some_iff.mp h1
  rw [List.length_range] at h2
  rw [List.getElem_range] at h3
  exact ⟨h2, by rw [← h3]⟩
theorem rangeD_len {lo : Int} {m : Nat} : (rangeD lo m).length = m := by simp [rangeD]
local macro_rules | `(tactic| walk_at "ev") => `(tactic| simp only [okTo_bind, okTo_ok, okTo_noErr, okTo_when, R.bind_ok, vSeq, seqF, vAsg, vVar, vC, vOp, vUn, vCall, vCons, vNil, vTup, vLst, vFr, vLstF, vTst, toB, toI, gI, gIC, gIB, gNeg, gInt, gLen, gEq, gNe, eqF, vAnd, vOr, vNot, tNotF, tAndF, tOrF, vIfS, vIf, vNext, vRet, vRetN, vDrop, vOwn, vFrz, frzS, aName, vFor, vScr, vRange1, vApp, ownD, vIxO, vSetI, gIxL, gIxT, vInO, vCallP, vCallB, vTupleO, vListO, vLenO, List.getElem?_cons_zero, List.getElem?_cons_succ, List.set_cons_zero, List.set_cons_succ, List.length_cons, List.length_nil, startS, List.map_cons, List.map_nil, List.replicate_succ, List.replicate_zero, List.cons_append, List.nil_append, denP, denB, denS, endP, endB, Nat.sub_self, Nat.reduceSub])
local macro_rules | `(tactic| walk_at "ev0") => `(tactic| simp only [okTo_bind, okTo_ok, okTo_noErr, okTo_when, R.bind_ok, seqF, vAsg, vVar, vC, vOp, vUn, vCall, vCons, vNil, vTup, vLst, vFr, vLstF, vTst, toB, toI, gI, gIC, gIB, gNeg, gInt, gLen, gEq, gNe, eqF, vAnd, vOr, vNot, tNotF, tAndF, tOrF, vIfS, vIf, vNext, vRet, vRetN, vDrop, vOwn, vFrz, frzS, aName, vFor, vScr, vRange1, vApp, ownD, vIxO, vSetI, gIxL, gIxT, vInO, vCallP, vCallB, vTupleO, vListO, vLenO, List.getElem?_cons_zero, List.getElem?_cons_succ, List.set_cons_zero, List.set_cons_succ, List.length_cons, List.length_nil, startS, List.map_cons, List.map_nil, List.replicate_succ, List.replicate_zero, List.cons_append, List.nil_append, denP, denB, denS, endP, endB, Nat.sub_self, Nat.reduceSub])
theorem cMulS_l {i j : Int} (h : -(2 ^ 64) < i ∧ i < 2 ^ 64) : cMulS i j = true := decide_eq_true (.inl h)
theorem cMulS_r {i j : Int} (h : -(2 ^ 64) < j ∧ j < 2 ^ 64) : cMulS i j = true := decide_eq_true (.inr h)
theorem cMod_ok {i j : Int} (h : j ≠ 0) : cMod i j = true := decide_eq_true h
theorem pow_small {n k : Nat} (h : n < 2 ^ 64) (hk : 64 ≤ k) : n < 2 ^ k := Nat.lt_of_lt_of_le h (Nat.pow_le_pow_right (by decide) hk)
theorem cFdiv_ok {i j : Int} (h : j ≠ 0) (h2 : j.natAbs < 2 ^ 64) : cFdiv i j = true := decide_eq_true ⟨h, pow_small h2 (by decide)⟩
theorem cMul_ok {i j : Int} (h : i.natAbs < 2 ^ 64) (h2 : j.natAbs < 2 ^ 64) : cMul i j = true := decide_eq_true ⟨pow_small h (by decide), pow_small h2 (by decide)⟩
theorem modN {i m : Int} (h : 0 < m) : 0 ≤ i.fmod m ∧ i.fmod m < m := ⟨Int.fmod_nonneg_of_pos i h, Int.fmod_lt_of_pos i h⟩
/-- one statement, then the rest -/
theorem seq_ok {fa fb : VS} {S : SS} {k : FL → Prop} (h : (fa S).okTo fun fl => match fl with
    | .nx S1 => (fb S1).okTo k
    | f => k f) : (vSeq fa fb S).okTo k := by
  unfold vSeq
  rw [okTo_bind]
  refine h.mono fun fl q => ?_
  cases fl <;> exact q
theorem ite_ok {c : Prop} [Decidable c] {α : Type} {x y : R α} {k : α → Prop} (h1 : c → x.okTo k) (h2 : ¬ c → y.okTo k) : (if c then x else y).okTo k := by
  by_cases h : c
  · rw [if_pos h]
    exact h1 h
  · rw [if_neg h]
    exact h2 h
theorem tape_ok {ns : List Int} {k : PyData → Prop} (hn : ns.length ≤ 63) (h : ∀ ts, TapeOk ts → k (dL ts)) : (den_l_tape ns).okTo k := by
  unfold den_l_tape body_l_tape
  walk_at "ev"
  refine ⟨by decide, loop_ok (fun i S => ∃ (ts : List Int) (a b c d : Option SV), S = [some (.scr ns), some (.own (ts.map PyData.int)), a, b, c, d] ∧ (∀ x ∈ ts, 0 ≤ x ∧ x < 2147483629) ∧ ts.length ≤ 40 * i) ?_ ?_ ⟨[], _, _, _, _, rfl, by simp, by simp⟩⟩
  · rintro i d S hi ⟨ts, a, b, c, e, rfl, hb, hl⟩
    rw [List.getElem?_map] at hi
    obtain ⟨z, hz, rfl⟩ := Option.map_eq_some_iff.mp hi
    have hi63 := (List.getElem?_eq_some_iff.mp hz).1
    walk_at "ev0"
    refine seq_ok ?_
    walk_at "ev0"
    refine ⟨cMulS_l (by decide), seq_ok ?_⟩
    refine R.okTo.mono (k := fun fl => ∃ m : Int, 0 ≤ m ∧ fl = .nx [some (.scr ns), some (.own (ts.map PyData.int)), some (.dat (.int z)), some (.dat (.int m)), c, e]) ?_ ?_
    · walk_at "ev0"
      refine ite_ok (fun q => ?_) (fun q => ?_)
      · have := of_decide_eq_true q
        exact ⟨_, by omega, rfl⟩
      · have : ¬ (2 * z < 0) := fun w => q (decide_eq_true w)
        exact ⟨_, by omega, rfl⟩
    · rintro fl ⟨m, hm, rfl⟩
      walk_at "ev"
      refine ⟨by decide, ite_ok (fun _ => ?_) (fun _ => ?_)⟩
      · walk_at "ev0"
        refine ⟨by decide, ?_⟩
        refine loop_ok (fun j S => ∃ (us : List Int) (m : Int) (c : Option SV), S = [some (.scr ns), some (.own (us.map PyData.int)), some (.dat (.int z)), some (.dat (.int m)), c, e] ∧ 0 ≤ m ∧ (∀ x ∈ us, 0 ≤ x ∧ x < 2147483629) ∧ us.length ≤ 40 * i + j) ?_ ?_ ⟨ts, m, _, rfl, hm, hb, hl⟩
        · rintro j d S hj ⟨us, m, c, rfl, hm, hu, hul⟩
          obtain ⟨hj1, rfl⟩ := rangeD_get hj
          have hj2 : j < 40 := hj1
          walk_at "ev"
          refine ite_ok (fun _ => ?_) (fun _ => ?_)
          · walk_at "ev"
            refine ⟨cMod_ok (by decide), by rw [List.length_map]; omega, cFdiv_ok (by decide) (by decide), us ++ [m.fmod 1000], m.fdiv 1000, _, by rw [List.map_append]; rfl, Int.fdiv_nonneg hm (by decide), tape_app hu (modN (by decide)).1 (by have := (modN (i := m) (m := 1000) (by decide)).2; omega), ?_⟩
            rw [List.length_append, List.length_singleton]
            omega
          · exact ⟨us, m, _, rfl, hm, hu, by omega⟩
        · rintro S ⟨us, m, c, rfl, hm, hu, hul⟩
          have : (rangeD 0 (Int.toNat 40)).length = 40 := rangeD_len
          rw [this] at hul
          exact ⟨us, _, _, _, _, rfl, hu, by omega⟩
      · walk_at "ev0"
        refine ⟨by decide, ?_⟩
        refine loop_ok (fun j S => ∃ (us : List Int) (c e : Option SV), S = [some (.scr ns), some (.own (us.map PyData.int)), some (.dat (.int z)), some (.dat (.int m)), c, e] ∧ (∀ x ∈ us, 0 ≤ x ∧ x < 2147483629) ∧ us.length ≤ 40 * i + j) ?_ ?_ ⟨ts, _, _, rfl, hb, hl⟩
        · rintro j d S hj ⟨us, c, e, rfl, hu, hul⟩
          obtain ⟨hj1, rfl⟩ := rangeD_get hj
          have hj2 : j < 3 := hj1
          walk_at "ev"
          refine ⟨cMulS_r (by decide), cMulS_r (by decide), cMod_ok (by decide), cMulS_r (by decide), cFdiv_ok (by decide) (by decide), cMod_ok (by decide), by rw [List.length_map]; omega, us ++ [_], _, _, by rw [List.map_append]; rfl, tape_app hu (modN (by decide)).1 (modN (by decide)).2, ?_⟩
          rw [List.length_append, List.length_singleton]
          omega
        · rintro S ⟨us, c, e, rfl, hu, hul⟩
          have : (rangeD 0 (Int.toNat 3)).length = 3 := rangeD_len
          rw [this] at hul
          exact ⟨us, _, _, _, _, rfl, hu, by omega⟩
  · rintro S ⟨ts, a, b, c, d, rfl, hb, hl⟩
    walk_at "ev"
    rw [List.length_map] at hl
    exact h ts ⟨hb, by omega⟩
theorem ixD_nat {ds : List PyData} {j : Nat} {d : PyData} (h : ds[j]? = some d) : ixD ds (j : Int) = .ok d := by
  unfold ixD
  rw [atI_nat h]
theorem ixD_int {ts : List Int} {i : Int} (h0 : 0 ≤ i) (h1 : i < (ts.length : Int)) : ∃ z ∈ ts, ixD (ts.map PyData.int) i = .ok (.int z) := by
  obtain ⟨j, rfl⟩ : ∃ j : Nat, i = (j : Int) := ⟨i.toNat, by omega⟩
  have hj : j < ts.length := by omega
  exact ⟨ts[j], List.getElem_mem hj, ixD_nat (by rw [List.getElem?_map, List.getElem?_eq_getElem hj]; rfl)⟩
/-- a draw below m -/
theorem draw_ok {ts : List Int} {at_ m : Int} {k : PyData → Prop} (ok : TapeOk ts) (h0 : 0 ≤ at_) (h1 : at_ ≤ 2 ^ 41) (hm : 0 < m) (h : ∀ r : Int, 0 ≤ r → r < m → k (.int r)) : (den_l_draw [dL ts, .int at_, .int m]).okTo k := by
  obtain ⟨hb, hl⟩ := ok
  unfold den_l_draw body_l_draw dL
  walk_at "ev0"
  refine seq_ok ?_
  walk_at "ev0"
  refine ite_ok (fun c => ?_) (fun c => ?_)
  · have c' := of_decide_eq_true c
    rw [List.length_map] at c'
    obtain ⟨z, _, e⟩ := ixD_int h0 c'
    rw [e]
    walk_at "ev"
    exact ⟨cMod_ok (by omega), h _ (modN hm).1 (modN hm).2⟩
  · walk_at "ev0"
    refine seq_ok ?_
    walk_at "ev0"
    refine seq_ok ?_
    refine R.okTo.mono (k := fun fl => ∃ n : Int, 0 ≤ n ∧ n < 2147483629 ∧ fl = .nx [some (.dat (.list (ts.map PyData.int))), some (.dat (.int at_)), some (.dat (.int m)), some (.dat (.int n))]) ?_ ?_
    · walk_at "ev"
      refine ite_ok (fun q => ?_) (fun q => ⟨1, by decide, by decide, rfl⟩)
      have q' := of_decide_eq_true q
      obtain ⟨z, hz, e⟩ := ixD_int (ts := ts) (i := at_.fmod ((ts.map PyData.int).length : Int)) (modN q').1 (by have := (modN (i := at_) q').2; rw [List.length_map] at this ⊢; exact this)
      walk_at "ev"
      refine ⟨cMod_ok (by omega), ?_⟩
      rw [e]
      exact ⟨z, (hb z hz).1, (hb z hz).2, rfl⟩
    · rintro fl ⟨n, n0, n1, rfl⟩
      walk_at "ev"
      exact ⟨cMul_ok (by omega) (by omega), cMulS_r (by decide), cMulS_r (by decide), cMod_ok (by decide), cMod_ok (by omega), h _ (modN hm).1 (modN hm).2⟩
/-- the law's state: the tape and the place -/
def Box (ts : List Int) (n : Int) (bs : List PyData) : Prop := TapeOk ts ∧ ∃ i : Int, 0 ≤ i ∧ i ≤ n ∧ bs = [dL ts, .int i]
theorem take_ok {ts : List Int} {n m : Int} {bs : List PyData} {k : PyData × List PyData → Prop} (b : Box ts n bs) (hn : n ≤ 2 ^ 40) (hm : 0 < m) (h : ∀ (r : Int) bs', 0 ≤ r → r < m → Box ts (n + 1) bs' → k (.int r, bs')) : (den_l_take bs [.int m]).okTo k := by
  obtain ⟨ok, i, i0, i1, rfl⟩ := b
  unfold den_l_take body_l_take
  walk_at "ev"
  have e1 : ixD [dL ts, .int i] 1 = .ok (.int i) := rfl
  have e2 : ixN ([dL ts, PyData.int i].length) 1 = some 1 := rfl
  rw [e1]
  walk_at "ev"
  have e2 : ixN (0 + 1 + 1) 1 = some 1 := rfl
  rw [e2]
  walk_at "ev"
  have e3 : ixD [dL ts, .int (i + 1)] 0 = .ok (dL ts) := rfl
  have e4 : ixD [dL ts, .int (i + 1)] 1 = .ok (.int (i + 1)) := rfl
  rw [e3]
  walk_at "ev"
  rw [e4]
  walk_at "ev"
  refine ⟨trivial, draw_ok ok (by omega) (by omega) hm fun r r0 r1 => ?_⟩
  exact h r _ r0 r1 ⟨ok, i + 1, by omega, by omega, rfl⟩
end Bo

/-! ### stepping through what code is worth -/
namespace Bo
open PySem L2
section
variable {S S' : SS} {fa fb fc : VE} {ft fu : VT} {fr : VA} {fs ft' : VS} {ff : VF} {fo fp : VO} {i j m : Nat} {d e : PyData} {ds es : List PyData}
variable {kE : PyData × SS → Prop} {kT : Bool × SS → Prop} {kA : List PyData × SS → Prop} {kS : FL → Prop} {kO : Option Int × SS → Prop} {kG : SS → Prop} {kD : PyData → Prop}
theorem w_var (h : S[i]? = some (some (.dat d))) (q : kE (d, S)) : (vVar i S).okTo kE := by
  unfold vVar
  rw [h]
  exact q
theorem w_c (q : kE (d, S)) : (vC d S).okTo kE := q
theorem w_op {g : PyData → PyData → R PyData} (h : (fa S).okTo fun p => (fb p.2).okTo fun q => (g p.1 q.1).okTo fun z => kE (z, q.2)) : (vOp g fa fb S).okTo kE := by
  unfold vOp
  simp only [okTo_bind]
  exact h
theorem w_un {g : PyData → R PyData} (h : (fa S).okTo fun p => (g p.1).okTo fun z => kE (z, p.2)) : (vUn g fa S).okTo kE := by
  unfold vUn
  simp only [okTo_bind]
  exact h
theorem w_and (h : (fa S).okTo fun p => (toB p.1).okTo fun b => if b = true then (fb p.2).okTo kE else kE (.bool false, p.2)) : (vAnd fa fb S).okTo kE := by
  unfold vAnd
  simp only [okTo_bind]
  refine h.mono fun p q => q.mono fun b q => ?_
  cases b <;> exact q
theorem w_or (h : (fa S).okTo fun p => (toB p.1).okTo fun b => if b = true then kE (.bool true, p.2) else (fb p.2).okTo kE) : (vOr fa fb S).okTo kE := by
  unfold vOr
  simp only [okTo_bind]
  refine h.mono fun p q => q.mono fun b q => ?_
  cases b <;> exact q
theorem w_not (h : (fa S).okTo fun p => (toB p.1).okTo fun b => kE (.bool (!b), p.2)) : (vNot fa S).okTo kE := by
  unfold vNot
  simp only [okTo_bind]
  exact h
theorem w_toB {b : Bool} {k : Bool → Prop} (q : k b) : (toB (.bool b)).okTo k := q
theorem w_toI {b : Int} {k : Int → Prop} (q : k b) : (toI (.int b)).okTo k := q
theorem w_tst (h : (fa S).okTo fun p => (toB p.1).okTo fun b => kT (b, p.2)) : (vTst fa S).okTo kT := by
  unfold vTst
  simp only [okTo_bind]
  exact h
theorem w_tnot (h : (ft S).okTo fun p => kT (!p.1, p.2)) : (tNotF ft S).okTo kT := by
  unfold tNotF
  simp only [okTo_bind]
  exact h
theorem w_tand (h : (ft S).okTo fun p => if p.1 = true then (fu p.2).okTo kT else kT (false, p.2)) : (tAndF ft fu S).okTo kT := by
  unfold tAndF
  simp only [okTo_bind]
  refine h.mono fun p q => ?_
  by_cases c : p.1 = true
  · rw [if_pos c] at q ⊢
    exact q
  · rw [if_neg c] at q ⊢
    exact q
theorem w_tor (h : (ft S).okTo fun p => if p.1 = true then kT (true, p.2) else (fu p.2).okTo kT) : (tOrF ft fu S).okTo kT := by
  unfold tOrF
  simp only [okTo_bind]
  refine h.mono fun p q => ?_
  by_cases c : p.1 = true
  · rw [if_pos c] at q ⊢
    exact q
  · rw [if_neg c] at q ⊢
    exact q
theorem w_tru (h : (fa S).okTo fun p => (truD p.1).okTo fun b => kT (b, p.2)) : (vTru fa S).okTo kT := by
  unfold vTru
  simp only [okTo_bind]
  exact h
theorem w_if (h : (ft S).okTo fun p => if p.1 = true then (fa p.2).okTo kE else (fb p.2).okTo kE) : (vIf ft fa fb S).okTo kE := by
  unfold vIf
  simp only [okTo_bind]
  refine h.mono fun p q => ?_
  by_cases c : p.1 = true
  · rw [if_pos c] at q ⊢
    exact q
  · rw [if_neg c] at q ⊢
    exact q
theorem w_chain {g g' : PyData → PyData → R PyData} (h : (fa S).okTo fun p => (fb p.2).okTo fun q => (g p.1 q.1).okTo fun z => (toB z).okTo fun b => if b = true then (fc q.2).okTo fun r => (g' q.1 r.1).okTo fun z => kE (z, r.2) else kE (.bool false, q.2)) : (vChain g g' fa fb fc S).okTo kE := by
  unfold vChain
  simp only [okTo_bind]
  refine h.mono fun p h => h.mono fun q h => h.mono fun z h => h.mono fun b h => ?_
  cases b
  · exact h
  · simp only [if_true, okTo_bind] at h ⊢
    exact h
theorem w_nil (q : kA ([], S)) : (vNil S).okTo kA := q
theorem w_cons (h : (fa S).okTo fun p => (fr p.2).okTo fun q => kA (p.1 :: q.1, q.2)) : (vCons fa fr S).okTo kA := by
  unfold vCons
  simp only [okTo_bind]
  exact h
theorem w_tup (h : (fr S).okTo fun p => p.1.length ≤ 100000 ∧ kE (.tuple p.1, p.2)) : (vTup fr S).okTo kE := by
  unfold vTup
  simp only [okTo_bind, okTo_when]
  exact h
theorem w_lst (h : (fr S).okTo fun p => p.1.length ≤ 100000 ∧ kE (.list p.1, p.2)) : (vLst fr S).okTo kE := by
  unfold vLst
  simp only [okTo_bind, okTo_when]
  exact h
theorem w_lstF (h : (fr S).okTo fun p => p.1.length ≤ 100000 ∧ kA p) : (vLstF fr S).okTo kA := by
  unfold vLstF
  simp only [okTo_bind, okTo_when]
  exact h
theorem w_call {g : List PyData → R PyData} (h : (fr S).okTo fun p => (g p.1).okTo fun z => kE (z, p.2)) : (vCall g fr S).okTo kE := by
  unfold vCall
  simp only [okTo_bind]
  exact h
theorem w_callP {g : List PyData → R PyData} (h : (fr S).okTo fun p => p.1.length = m ∧ (g p.1).okTo fun z => kE (z, p.2)) : (vCallP m g fr S).okTo kE := by
  unfold vCallP
  simp only [okTo_bind, okTo_when, okTo_noErr]
  exact h
theorem w_callL {g : List PyData → R PyData} (h : (fr S).okTo fun p => p.1.length = m ∧ (g p.1).okTo fun z => flatD z = true ∧ kE (z, p.2)) : (vCallL m g fr S).okTo kE := by
  unfold vCallL
  simp only [okTo_bind, okTo_when, okTo_noErr]
  exact h
theorem w_own (h : S[i]? = some (some (.own ds))) {k : List PyData → Prop} (q : k ds) : (ownD S i).okTo k := by
  unfold ownD
  rw [h]
  exact q
theorem w_callB {g : List PyData → List PyData → R (PyData × List PyData)} (h : (ownD S i).okTo fun _ => (fr S).okTo fun p => (ownD p.2 i).okTo fun bs => p.1.length = m ∧ (g bs p.1).okTo fun z => kE (z.1, p.2.set i (some (.own z.2)))) : (vCallB m g i fr S).okTo kE := by
  unfold vCallB
  simp only [okTo_bind, okTo_when, okTo_noErr]
  exact h
theorem w_callS {g : List Int → R PyData} {ns : List Int} (h : S[i]? = some (some (.scr ns))) (q : (g ns).okTo fun z => kE (z, S)) : (vCallS g i S).okTo kE := by
  unfold vCallS
  rw [h]
  simp only [okTo_bind, okTo_noErr]
  exact q
theorem w_consO (h : (ownD S i).okTo fun _ => (fr S).okTo fun q => (ownD q.2 i).okTo fun ds => kA (.list ds :: q.1, q.2)) : (vConsO i fr S).okTo kA := by
  unfold vConsO
  simp only [okTo_bind]
  exact h
theorem w_fr (h : (ff S).okTo fun p => kE (.list p.1, p.2)) : (vFr ff S).okTo kE := by
  unfold vFr
  simp only [okTo_bind]
  exact h
theorem w_lenO (h : (ownD S i).okTo fun ds => kE (.int ds.length, S)) : (vLenO i S).okTo kE := by
  unfold vLenO
  simp only [okTo_bind]
  exact h
theorem w_tupleO (h : (ownD S i).okTo fun ds => kE (.tuple ds, S)) : (vTupleO i S).okTo kE := by
  unfold vTupleO
  simp only [okTo_bind]
  exact h
theorem w_listO (h : (ownD S i).okTo fun ds => kA (ds, S)) : (vListO i S).okTo kA := by
  unfold vListO
  simp only [okTo_bind]
  exact h
theorem w_ixO (h : (ownD S i).okTo fun _ => (fa S).okTo fun p => (ownD p.2 i).okTo fun ds => (toI p.1).okTo fun k => (ixD ds k).okTo fun d => kE (d, p.2)) : (vIxO i fa S).okTo kE := by
  unfold vIxO
  simp only [okTo_bind]
  exact h
theorem w_inO {neg : Bool} (h : (fa S).okTo fun p => (ownD p.2 i).okTo fun ds => (flatD p.1 = true ∧ ds.all flatD = true) ∧ kE (.bool (if neg then !inD p.1 ds else inD p.1 ds), p.2)) : (vInO neg fa i S).okTo kE := by
  unfold vInO
  simp only [okTo_bind, okTo_when]
  exact h
theorem w_truO (h : (ownD S i).okTo fun ds => kT (!ds.isEmpty, S)) : (vTruO i S).okTo kT := by
  unfold vTruO
  simp only [okTo_bind]
  exact h
theorem w_app (h : (ownD S i).okTo fun _ => (fa S).okTo fun p => (ownD p.2 i).okTo fun ds => ds.length < 100000 ∧ kE (.none, p.2.set i (some (.own (ds ++ [p.1]))))) : (vApp i fa S).okTo kE := by
  unfold vApp
  simp only [okTo_bind, okTo_when]
  exact h
theorem w_setI (h : (fb S).okTo fun p => (ownD p.2 i).okTo fun _ => (fa p.2).okTo fun q => (ownD q.2 i).okTo fun ds => (toI q.1).okTo fun k => ∃ j, ixN ds.length k = some j ∧ kS (.nx (q.2.set i (some (.own (ds.set j p.1)))))) : (vSetI i fa fb S).okTo kS := by
  unfold vSetI
  simp only [okTo_bind]
  refine h.mono fun p h => h.mono fun _ h => h.mono fun q h => h.mono fun ds h => h.mono fun k h => ?_
  obtain ⟨j, e, h⟩ := h
  rw [e]
  exact h
theorem w_sl {g : PyData → Option Int → Option Int → R PyData} (h : (fa S).okTo fun p => (fo p.2).okTo fun l => (fp l.2).okTo fun h => (g p.1 l.1 h.1).okTo fun z => kE (z, h.2)) : (vSl g fa fo fp S).okTo kE := by
  unfold vSl
  simp only [okTo_bind]
  exact h
theorem w_noPart (q : kO (none, S)) : (vNoPart S).okTo kO := q
theorem w_part (h : (fa S).okTo fun p => (toI p.1).okTo fun i => kO (some i, p.2)) : (vPart fa S).okTo kO := by
  unfold vPart
  simp only [okTo_bind]
  exact h
theorem w_iter (h : (fa S).okTo fun p => ∃ ds, p.1 = .list ds ∧ kA (ds, p.2)) : (vIter fa S).okTo kA := by
  unfold vIter
  simp only [okTo_bind]
  refine h.mono fun p ⟨ds, e, q⟩ => ?_
  rw [e]
  exact q
theorem w_iterT (h : (fa S).okTo fun p => ∃ ds, p.1 = .tuple ds ∧ kA (ds, p.2)) : (vIterT fa S).okTo kA := by
  unfold vIterT
  simp only [okTo_bind]
  refine h.mono fun p ⟨ds, e, q⟩ => ?_
  rw [e]
  exact q
theorem w_range1 (h : (fr S).okTo fun p => ∃ j, p.1 = [.int j] ∧ (-1000000 ≤ j ∧ j ≤ 1000000) ∧ kA (rangeD 0 j.toNat, p.2)) : (vRange1 fr S).okTo kA := by
  unfold vRange1
  simp only [okTo_bind]
  refine h.mono fun p ⟨j, e, c, q⟩ => ?_
  rw [e]
  exact okTo_when.mpr ⟨c, q⟩
theorem w_listRg (h : (fa S).okTo fun p => (toI p.1).okTo fun j => (-1000000 ≤ j ∧ j ≤ 1000000) ∧ kA (rangeD 0 j.toNat, p.2)) : (vListRg fa S).okTo kA := by
  unfold vListRg
  simp only [okTo_bind, okTo_when]
  exact h
theorem w_enumK {kd : Kd} (h : (fr S).okTo fun p => ∃ d ds, p.1 = [d] ∧ kdD kd d = some ds ∧ kA (enumD ds, p.2)) : (vEnumK kd fr S).okTo kA := by
  unfold vEnumK
  simp only [okTo_bind]
  refine h.mono fun p ⟨d, ds, e, c, q⟩ => ?_
  rw [e]
  simp only [c]
  exact q
theorem w_zipK {k l : Kd} (h : (fr S).okTo fun p => ∃ d e ds es, p.1 = [d, e] ∧ kdD k d = some ds ∧ kdD l e = some es ∧ kA (zipD ds es, p.2)) : (vZipK k l fr S).okTo kA := by
  unfold vZipK
  simp only [okTo_bind]
  refine h.mono fun p ⟨d, e, ds, es, e1, c1, c2, q⟩ => ?_
  rw [e1]
  simp only [c1, c2]
  exact q
theorem w_repF (h : (fa S).okTo fun p => (fb p.2).okTo fun q => ∃ ds k, p.1 = .list ds ∧ q.1 = .int k ∧ (ds.length * k.toNat ≤ 100000 ∧ k ≤ 100000 ∧ -100000 ≤ k) ∧ kA ((List.replicate k.toNat ds).flatten, q.2)) : (vRepF fa fb S).okTo kA := by
  unfold vRepF
  simp only [okTo_bind]
  refine h.mono fun p h => h.mono fun q ⟨ds, k, e1, e2, c, h⟩ => ?_
  rw [e1, e2]
  exact okTo_when.mpr ⟨c, h⟩
theorem w_lc {fg : PyData → SS → R SS} {vs : List Nat} (h : (ff S).okTo fun p => (okS vs p.2 = true ∧ p.1.length ≤ 100000) ∧ (lcF fg ft fa vs p.1 (wipeS p.2 vs)).okTo fun r => kA (r.1, backS p.2 r.2 vs)) : (vLc vs ff fg ft fa S).okTo kA := by
  unfold vLc
  simp only [okTo_bind, okTo_when]
  exact h
theorem w_yes (q : kT (true, S)) : (vYes S).okTo kT := q
/-! statements -/
theorem w_seq (h : (fs S).okTo fun fl => match fl with
    | .nx S1 => (ft' S1).okTo kS
    | f => kS f) : (vSeq fs ft' S).okTo kS := seq_ok h
theorem w_next (q : kS (.nx S)) : (vNext S).okTo kS := q
theorem w_ret (h : (fa S).okTo fun p => kS (.rt p.1 p.2)) : (vRet fa S).okTo kS := by
  unfold vRet
  simp only [okTo_bind]
  exact h
theorem w_retN (q : kS (.rt .none S)) : (vRetN S).okTo kS := q
theorem w_drop (h : (fa S).okTo fun p => kS (.nx p.2)) : (vDrop fa S).okTo kS := by
  unfold vDrop
  simp only [okTo_bind]
  exact h
theorem w_asg {fg : PyData → SS → R SS} (h : (fa S).okTo fun p => (fg p.1 p.2).okTo fun S1 => kS (.nx S1)) : (vAsg fa fg S).okTo kS := by
  unfold vAsg
  simp only [okTo_bind]
  exact h
theorem w_aName (q : kG (S.set i (some (.dat d)))) : (aName i d S).okTo kG := q
theorem w_aTup {fg : List PyData → SS → R SS} (c : ds.length = m) (q : (fg ds S).okTo kG) : (aTup m fg (.tuple ds) S).okTo kG := okTo_when.mpr ⟨c, q⟩
theorem w_aNil (q : kG S) : (aNil [] S).okTo kG := q
theorem w_aCons {fg : PyData → SS → R SS} {fgs : List PyData → SS → R SS} (q : (fg d S).okTo fun S1 => (fgs ds S1).okTo kG) : (aCons fg fgs (d :: ds) S).okTo kG := by
  unfold aCons
  simp only [okTo_bind]
  exact q
theorem w_ifS (h : (ft S).okTo fun p => if p.1 = true then (fs p.2).okTo kS else (ft' p.2).okTo kS) : (vIfS ft fs ft' S).okTo kS := by
  unfold vIfS
  simp only [okTo_bind]
  refine h.mono fun p q => ?_
  by_cases c : p.1 = true
  · rw [if_pos c] at q ⊢
    exact q
  · rw [if_neg c] at q ⊢
    exact q
theorem w_ownS (h : (ff S).okTo fun p => kS (.nx (p.2.set i (some (.own p.1))))) : (vOwn i ff S).okTo kS := by
  unfold vOwn
  simp only [okTo_bind]
  exact h
theorem w_frz (h : S[i]? = some (some (.own ds))) (q : (fs (S.set i (some (.dat (.list ds))))).okTo kS) : (vFrz i fs S).okTo kS := by
  unfold vFrz frzS
  rw [h]
  exact q
theorem w_for {fg : PyData → SS → R SS} (h : (ff S).okTo fun p => (loopF fg fs p.1 p.2).okTo kS) : (vFor ff fg fs S).okTo kS := by
  unfold vFor
  simp only [okTo_bind]
  exact h
theorem w_aug {f : Int → Int → Int} {a : Int} (h : S[i]? = some (some (.dat (.int a)))) (q : (fa S).okTo fun p => (toI p.1).okTo fun b => kS (.nx (p.2.set i (some (.dat (.int (f a b))))))) : (vAug i f fa S).okTo kS := by
  unfold vAug
  rw [h]
  simp only [okTo_bind]
  exact q
/-! values -/
theorem w_gI {f : Int → Int → Int} {a b : Int} (q : kD (.int (f a b))) : (gI f (.int a) (.int b)).okTo kD := q
theorem w_gIB {f : Int → Int → Bool} {a b : Int} (q : kD (.bool (f a b))) : (gIB f (.int a) (.int b)).okTo kD := q
theorem w_gIC {c : Int → Int → Bool} {f : Int → Int → Int} {a b : Int} (h : c a b = true ∧ kD (.int (f a b))) : (gIC c f (.int a) (.int b)).okTo kD := okTo_when.mpr h
theorem w_gEqI {a b : Int} (q : kD (.bool (decide (a = b)))) : (gEq (.int a) (.int b)).okTo kD := q
theorem w_gNeI {a b : Int} (q : kD (.bool (!decide (a = b)))) : (gNe (.int a) (.int b)).okTo kD := q
theorem w_gIxL {a : Int} (q : (ixD ds a).okTo kD) : (gIxL (.list ds) (.int a)).okTo kD := q
theorem w_gIxT {a : Int} (q : (ixD ds a).okTo kD) : (gIxT (.tuple ds) (.int a)).okTo kD := q
theorem w_gCat (h : ds.length + es.length ≤ 100000 ∧ kD (.list (ds ++ es))) : (gCat (.list ds) (.list es)).okTo kD := okTo_when.mpr h
theorem w_gCatT (h : ds.length + es.length ≤ 100000 ∧ kD (.tuple (ds ++ es))) : (gCatT (.tuple ds) (.tuple es)).okTo kD := okTo_when.mpr h
theorem w_isN (q : kD (.bool (isNone d))) : ((fun d e => R.when (isNone e = true) (.ok (.bool (isNone d)))) d PyData.none : R PyData).okTo kD := q
theorem w_notN (q : kD (.bool (!isNone d))) : ((fun d e => R.when (isNone e = true) (.ok (.bool (!isNone d)))) d PyData.none : R PyData).okTo kD := q
theorem w_gInL {neg : Bool} (h : (flatD d = true ∧ ds.all flatD = true) ∧ kD (.bool (if neg then !inD d ds else inD d ds))) : (gIn neg d (.list ds)).okTo kD := okTo_when.mpr h
theorem w_gLenL (q : kD (.int ds.length)) : (gLen [.list ds]).okTo kD := q
theorem w_gLenT (q : kD (.int ds.length)) : (gLen [.tuple ds]).okTo kD := q
theorem w_gIntI {a : Int} (q : kD (.int a)) : (gInt [.int a]).okTo kD := q
theorem w_gTuple (q : kD (.tuple ds)) : (gTuple [.list ds]).okTo kD := q
theorem w_gBools {f : List Bool → PyData} {bs : List Bool} (q : kD (f bs)) : (gBools f [.list (bs.map PyData.bool)]).okTo kD := by
  unfold gBools
  simp only [bools_map]
  exact q
theorem w_gInts {f : List Int → PyData} {bs : List Int} (q : kD (f bs)) : (gInts f [.list (bs.map PyData.int)]).okTo kD := by
  unfold gInts
  simp only [ints_map]
  exact q
theorem w_gNeD (h : (SeqAt.shaped d = true ∧ SeqAt.shaped e = true) ∧ kD (.bool (!PyData.eqv d e))) : (gNeD d e).okTo kD := okTo_when.mpr h
theorem w_gEqD (h : (SeqAt.shaped d = true ∧ SeqAt.shaped e = true) ∧ kD (.bool (PyData.eqv d e))) : (gEqD d e).okTo kD := okTo_when.mpr h
theorem w_gRevL (q : kD (.list ds.reverse)) : (gRevL (.list ds)).okTo kD := q
theorem w_gSlL {lo hi : Option Int} (q : kD (.list (cutD ds lo hi))) : (gSlL (.list ds) lo hi).okTo kD := q
theorem w_gSlT {lo hi : Option Int} (q : kD (.tuple (cutD ds lo hi))) : (gSlT (.tuple ds) lo hi).okTo kD := q
/-! defs -/
theorem w_denP {N : Nat} (h : (fs (startS N ds)).okTo fun fl => match fl with
    | .nx _ => kD .none
    | .rt d _ => kD d
    | _ => False) : (denP N fs ds).okTo kD := by
  unfold denP endP
  simp only [okTo_bind]
  refine h.mono fun fl q => ?_
  cases fl <;> first | exact q | exact q.elim
end
end Bo

/-! ### the drawn systems -/
namespace Bo
open PySem L2
abbrev Cho := Int × List (Int × Int)
def dC (c : Cho) : PyData := .tuple [.int c.1, .tuple (c.2.map prD)]
def dS (s : List Cho) : PyData := .tuple (s.map dC)
def dY (y : List (List Cho)) : PyData := .tuple (y.map dS)
structure ChoOk (m b : Nat) (c : Cho) : Prop where
  cost : 0 ≤ c.1 ∧ c.1 ≤ 1000
  ne : c.2 ≠ []
  len : c.2.length ≤ b
  ends : ∀ e ∈ c.2, 0 ≤ e.1 ∧ e.1 < (m : Int) ∧ 1 ≤ e.2 ∧ e.2 ≤ 1000
  rise : c.2.Pairwise fun x y => x.1 < y.1
structure SysOk (q b : Nat) (y : List (List Cho)) : Prop where
  ne : 1 ≤ y.length
  len : y.length ≤ 20
  st : ∀ s ∈ y, 1 ≤ s.length ∧ s.length ≤ q
  cho : ∀ s ∈ y, ∀ c ∈ s, ChoOk y.length b c
/-- an item of a written list by a draw -/
theorem pick_ok {ns : List Int} {r : Int} {k : PyData → Prop} (h0 : 0 ≤ r) (h1 : r < (ns.length : Int)) (h : ∀ z ∈ ns, k (.int z)) : (ixD (ns.map PyData.int) r).okTo k := by
  obtain ⟨z, hz, e⟩ := ixD_int h0 h1
  exact okTo_eq e (h z hz)
local macro_rules | `(tactic| walk_at "ev0") => `(tactic| simp only [okTo_bind, okTo_ok, okTo_noErr, okTo_when, R.bind_ok, seqF, vAsg, vVar, vC, vOp, vUn, vCall, vCons, vNil, vTup, vLst, vFr, vLstF, vTst, toB, toI, gI, gIC, gIB, gNeg, gInt, gLen, gEq, gNe, eqF, vAnd, vOr, vNot, tNotF, vYes, gTuple, gList, gRevL, wipeS, backS, okS, vIfS, vIf, vNext, vRet, vRetN, vDrop, vOwn, vFrz, frzS, aName, vFor, vScr, vRange1, vApp, ownD, vIxO, vSetI, gIxL, gIxT, vInO, vCallP, vCallB, vTupleO, vListO, vLenO, vLc, List.getElem?_cons_zero, List.getElem?_cons_succ, List.set_cons_zero, List.set_cons_succ, List.length_cons, List.length_nil, startS, List.map_cons, List.map_nil, List.replicate_succ, List.replicate_zero, List.cons_append, List.nil_append, denP, denB, denS, endP, endB, Nat.sub_self, Nat.reduceSub, Nat.reduceAdd, List.all_cons, List.all_nil, Bool.and_true, SV.mine, Bool.not_false, Option.join_some, true_and, and_true])
theorem Box.up {ts : List Int} {n m : Int} {bs : List PyData} (b : Box ts n bs) (h : n ≤ m) : Box ts m bs := by
  obtain ⟨ok, i, i0, i1, e⟩ := b
  exact ⟨ok, i, i0, by omega, e⟩
theorem rise_app {l : List (Int × Int)} {x : Int × Int} (h : l.Pairwise fun x y => x.1 < y.1) (hx : ∀ e ∈ l, e.1 < x.1) : (l ++ [x]).Pairwise fun x y => x.1 < y.1 :=
  List.pairwise_append.mpr ⟨h, List.pairwise_singleton _ _, fun a ha b hb => by rw [List.mem_singleton.mp hb]; exact hx a ha⟩
theorem ends_ok {ts : List Int} {n : Int} {m : Nat} {bs : List PyData} {k : PyData × List PyData → Prop} (b : Box ts n bs) (hm : 1 ≤ m ∧ m ≤ 20) (hn : n ≤ 2 ^ 39) (h : ∀ (es : List (Int × Int)) bs', es ≠ [] → es.length ≤ m → (∀ e ∈ es, 0 ≤ e.1 ∧ e.1 < (m : Int) ∧ 1 ≤ e.2 ∧ e.2 ≤ 1000) → (es.Pairwise fun x y => x.1 < y.1) → Box ts (n + 50) bs' → k (.tuple (es.map prD), bs')) : (den_l_ends bs [.int (m : Int)]).okTo k := by
  unfold den_l_ends body_l_ends
  walk_at "ev0"
  refine seq_ok ?_
  walk_at "ev0"
  refine ⟨by decide, seq_ok ?_⟩
  walk_at "ev0"
  refine take_ok b (by omega) (by omega) fun f bs1 f0 f1 b1 => seq_ok ?_
  walk_at "ev0"
  refine ⟨⟨by omega, by omega⟩, loop_ok (fun i S => ∃ (es : List (Int × Int)) (bs : List PyData) (g : Option SV), S = [some (.own bs), some (.dat (.int (m : Int))), some (.own (es.map prD)), some (.dat (.int f)), g] ∧ Box ts (n + 1 + 2 * i) bs ∧ es.length ≤ i ∧
    (∀ e ∈ es, 0 ≤ e.1 ∧ e.1 < (i : Int) ∧ 1 ≤ e.2 ∧ e.2 ≤ 1000) ∧ (es.Pairwise fun x y => x.1 < y.1) ∧ (f < (i : Int) → es ≠ [])) ?_ ?_ ⟨[], bs1, _, rfl, b1.up (by omega), Nat.le_refl _, by simp, .nil, fun z => by omega⟩⟩
  · rintro i d S hi ⟨es, bs2, g, rfl, b2, hl, he, hr, hf⟩
    obtain ⟨hi1, rfl⟩ := rangeD_get hi
    rw [Int.toNat_natCast] at hi1
    have z0 : (0 : Int) + (i : Nat) = (i : Int) := Int.zero_add _
    rw [z0]
    walk_at "ev0"
    unfold tOrF
    walk_at "ev0"
    -- the pair is put in
    have put : ∀ {bs3 : List PyData}, Box ts (n + 2 + 2 * i) bs3 → (vDrop (vApp 2 (vTup (vCons (vVar 4) (vCons (vOp gIxL (vLst (vCons (vC (.int 1)) (vCons (vC (.int 1)) (vCons (vC (.int 2)) (vCons (vC (.int 3)) (vCons (vC (.int 10)) (vCons (vC (.int 1000)) vNil))))))) (vCallB 1 den_l_take 0 (vCons (vC (.int 6)) vNil))) vNil))))
        [some (.own bs3), some (.dat (.int (m : Int))), some (.own (es.map prD)), some (.dat (.int f)), some (.dat (.int (i : Int)))]).okTo fun fl => match fl with
      | .nx S2 => ∃ (es : List (Int × Int)) (bs : List PyData) (g : Option SV), S2 = [some (.own bs), some (.dat (.int (m : Int))), some (.own (es.map prD)), some (.dat (.int f)), g] ∧ Box ts (n + 1 + 2 * (i + 1 : Nat)) bs ∧ es.length ≤ i + 1 ∧
        (∀ e ∈ es, 0 ≤ e.1 ∧ e.1 < ((i + 1 : Nat) : Int) ∧ 1 ≤ e.2 ∧ e.2 ≤ 1000) ∧ (es.Pairwise fun x y => x.1 < y.1) ∧ (f < ((i + 1 : Nat) : Int) → es ≠ [])
      | _ => False := fun {bs3} b3 => by
      walk_at "ev0"
      refine ⟨by decide, take_ok b3 (by omega) (by omega) fun r bs4 r0 r1 b4 => ?_⟩
      walk_at "ev0"
      refine pick_ok (ns := [1, 1, 2, 3, 10, 1000]) r0 (by simpa using r1) fun z hz => ⟨by decide, by rw [List.length_map]; omega, ?_⟩
      have hz2 : 1 ≤ z ∧ z ≤ 1000 := by
        simp only [List.mem_cons, List.not_mem_nil, or_false] at hz
        omega
      refine ⟨es ++ [((i : Int), z)], bs4, _, by rw [List.map_append]; rfl, b4.up (by omega), by rw [List.length_append, List.length_singleton]; omega, fun e q => ?_, rise_app hr fun e q => (he e q).2.1, fun _ q => by simp at q⟩
      rcases List.mem_append.mp q with q | q
      · have := he e q
        omega
      · rw [List.mem_singleton.mp q]
        exact ⟨by show (0 : Int) ≤ i; omega, by show (i : Int) < _; omega, hz2⟩
    refine ite_ok (fun c => ?_) (fun c => ?_)
    · walk_at "ev0"
      refine (put (b2.up (by omega))).mono fun fl q => ?_
      cases fl <;> first | exact q | exact q.elim
    · walk_at "ev0"
      refine take_ok b2 (by omega) (by omega) fun r bs3 r0 r1 b3 => ?_
      walk_at "ev0"
      refine ite_ok (fun _ => ?_) (fun _ => ?_)
      · refine (put (b3.up (by omega))).mono fun fl q => ?_
        cases fl <;> first | exact q | exact q.elim
      · refine ⟨es, bs3, _, rfl, b3.up (by omega), by omega, fun e q => by have := he e q; omega, hr, fun z => hf ?_⟩
        have : ¬ (i : Int) = f := fun q => c (decide_eq_true q)
        omega
  · rintro S ⟨es, bs2, g, rfl, b2, hl, he, hr, hf⟩
    rw [rangeD_len, Int.toNat_natCast] at b2 hl he hf
    walk_at "ev0"
    exact h es bs2 (hf (by omega)) hl he hr (b2.up (by omega))
theorem choices_ok {ts : List Int} {n q : Int} {m : Nat} {bs : List PyData} {k : PyData × List PyData → Prop} (b : Box ts n bs) (hm : 1 ≤ m ∧ m ≤ 20) (hn : n ≤ 2 ^ 38) (hq : 1 ≤ q ∧ q ≤ 6)
    (h : ∀ (s : List Cho) bs', 1 ≤ s.length → (s.length : Int) ≤ q → (∀ c ∈ s, ChoOk m m c) → Box ts (n + 400) bs' → k (dS s, bs')) : (den_l_choices bs [.int (m : Int), .int q]).okTo k := by
  unfold den_l_choices body_l_choices
  walk_at "ev0"
  refine seq_ok ?_
  walk_at "ev0"
  refine ⟨by decide, seq_ok ?_⟩
  walk_at "ev0"
  refine take_ok b (by omega) (by omega) fun r bs1 r0 r1 b1 => ?_
  walk_at "ev0"
  refine ⟨⟨by omega, by omega⟩, loop_ok (fun i S => ∃ (s : List Cho) (bs : List PyData) (g : Option SV), S = [some (.own bs), some (.dat (.int (m : Int))), some (.dat (.int q)), some (.own (s.map dC)), g] ∧ Box ts (n + 1 + 51 * i) bs ∧ s.length = i ∧ ∀ c ∈ s, ChoOk m m c) ?_ ?_ ⟨[], bs1, _, rfl, b1.up (by omega), rfl, by simp⟩⟩
  · rintro i d S hi ⟨s, bs2, g, rfl, b2, hl, hc⟩
    obtain ⟨hi1, rfl⟩ := rangeD_get hi
    have hi6 : i < 6 := by omega
    walk_at "ev0"
    refine ⟨by decide, take_ok b2 (by omega) (by omega) fun x bs3 x0 x1 b3 => ?_⟩
    walk_at "ev0"
    refine pick_ok (ns := [0, 1, 2, 5, 1000]) x0 (by simpa using x1) fun z hz => ?_
    refine ends_ok b3 hm (by omega) fun es bs4 e1 e2 e3 e4 b4 => ?_
    walk_at "ev0"
    refine ⟨by decide, by rw [List.length_map]; omega, s ++ [(z, es)], bs4, _, by rw [List.map_append]; rfl, b4.up (by omega), by rw [List.length_append, List.length_singleton, hl], fun c q => ?_⟩
    rcases List.mem_append.mp q with q | q
    · exact hc c q
    · rw [List.mem_singleton.mp q]
      refine ⟨?_, e1, e2, e3, e4⟩
      simp only [List.mem_cons, List.not_mem_nil, or_false] at hz
      show 0 ≤ z ∧ z ≤ 1000
      omega
  · rintro S ⟨s, bs2, g, rfl, b2, hl, hc⟩
    rw [rangeD_len] at b2 hl
    walk_at "ev0"
    exact h s bs2 (by omega) (by omega) hc (b2.up (by omega))
theorem system_ok {ts : List Int} {n q : Int} {bs : List PyData} {k : PyData × List PyData → Prop} (b : Box ts n bs) (hn : n ≤ 2 ^ 37) (hq : 1 ≤ q ∧ q ≤ 20)
    (h : ∀ (y : List (List Cho)) bs', SysOk 3 y.length y → (y.length : Int) ≤ q → Box ts (n + 10000) bs' → k (dY y, bs')) : (den_l_system bs [.int q]).okTo k := by
  unfold den_l_system body_l_system
  walk_at "ev0"
  refine seq_ok ?_
  walk_at "ev0"
  refine take_ok b (by omega) (by omega) fun r bs1 r0 r1 b1 => ?_
  obtain ⟨m, hm⟩ : ∃ m : Nat, 1 + r = (m : Int) := ⟨(1 + r).toNat, by omega⟩
  walk_at "ev0"
  rw [hm]
  refine ⟨⟨by omega, by omega⟩, by rw [rangeD_len]; omega, ?_⟩
  refine lc_ok (fun i acc S => ∃ (y : List (List Cho)) (bs : List PyData), S = [some (.own bs), some (.dat (.int q)), some (.dat (.int (m : Int))), none] ∧ acc = y.map dS ∧ Box ts (n + 1 + 400 * i) bs ∧ y.length = i ∧ ∀ s ∈ y, (1 ≤ s.length ∧ s.length ≤ 3) ∧ ∀ c ∈ s, ChoOk m m c) ?_ ?_ ⟨[], bs1, rfl, rfl, b1.up (by omega), rfl, by simp⟩
  · rintro i d acc S hi ⟨y, bs2, rfl, rfl, b2, hl, hs⟩
    obtain ⟨hi1, rfl⟩ := rangeD_get hi
    rw [Int.toNat_natCast] at hi1
    walk_at "ev0"
    rw [if_pos trivial]
    refine choices_ok b2 (by omega) (by omega) (by decide) fun s bs3 s1 s2 s3 b3 => ?_
    refine ⟨y ++ [s], bs3, rfl, by rw [List.map_append]; rfl, b3.up (by omega), by rw [List.length_append, List.length_singleton, hl], fun t q => ?_⟩
    rcases List.mem_append.mp q with q | q
    · exact hs t q
    · rw [List.mem_singleton.mp q]
      exact ⟨⟨s1, by omega⟩, s3⟩
  · rintro acc S ⟨y, bs2, rfl, rfl, b2, hl, hs⟩
    rw [rangeD_len, Int.toNat_natCast] at b2 hl
    subst hl
    walk_at "ev0"
    exact h y bs2 ⟨by omega, by omega, fun s m => (hs s m).1, fun s m => (hs s m).2⟩ (by omega) (b2.up (by omega))
end Bo

/-! ### the program's sure states: what its defs are worth -/
namespace Bo
open PySem L2
end Bo

/-! ### a, b, .. = a list -/
namespace Bo
open PySem L2
section
variable {K : PySem.W.Frag} {n : Nat} {C : Ct K n}
def aUnl (m : Nat) (f : List PyData → SS → R SS) : PyData → SS → R SS := fun d S => match d with
  | .list ds => R.when (ds.length = m) (f ds S)
  | _ => .bad
end
section
variable {X : Cx} (K : PySem.W.Frag) (h : X.K = K := by rfl)
include h
end
theorem w_aUnl {m : Nat} {ds : List PyData} {S : SS} {kG : SS → Prop} {fg : List PyData → SS → R SS} (c : ds.length = m) (q : (fg ds S).okTo kG) : (aUnl m fg (.list ds) S).okTo kG := by
  show (R.when (ds.length = m) (fg ds S)).okTo kG
  rw [R.when_pos c]
  exact q
end Bo

/-! ### more steps -/
namespace Bo
open PySem L2
section
variable {S S' : SS} {fa fb fc : VE} {ft fu : VT} {fr : VA} {fs ft' : VS} {ff : VF} {i j m : Nat} {d e : PyData} {ds es : List PyData}
variable {kE : PyData × SS → Prop} {kT : Bool × SS → Prop} {kA : List PyData × SS → Prop} {kS : FL → Prop} {kD : PyData → Prop}
theorem w_itT {a b : Prop} (h : a) : if True then a else b := h
theorem w_itF {a b : Prop} (h : b) : if False then a else b := h
theorem w_itTT {a b : Prop} (h : a) : if true = true then a else b := h
theorem w_itFT {a b : Prop} (h : b) : if false = true then a else b := h
theorem w_gList (q : kD (.list ds)) : (gList [.list ds]).okTo kD := q
theorem w_gSortI {ns : List Int} (q : kD (.list ((ns.mergeSort fun a b => decide (a ≤ b)).map PyData.int))) : (gSortI [.list (ns.map PyData.int)]).okTo kD := by
  unfold gSortI
  simp only [ints_map]
  exact q
theorem w_range2 (h : (fr S).okTo fun p => ∃ i j, p.1 = [.int i, .int j] ∧ ((-1000000 ≤ i ∧ i ≤ 1000000) ∧ -1000000 ≤ j ∧ j ≤ 1000000) ∧ kA (rangeD i (j - i).toNat, p.2)) : (vRange2 fr S).okTo kA := by
  unfold vRange2
  simp only [okTo_bind]
  refine h.mono fun p ⟨i, j, e, c, q⟩ => ?_
  rw [e]
  exact okTo_when.mpr ⟨c, q⟩
theorem w_lcO {pair : Bool} {vs : List Nat} {fg : PyData → SS → R SS} (h0 : S[i]? = some (some (.own ds))) (ok : okS vs S = true) (h : (lcO pair i fg ft fa vs 100000 0 (wipeS S vs)).okTo fun r => kA (r.1, backS S r.2 vs)) : (vLcO pair i vs fg ft fa S).okTo kA := by
  unfold vLcO ownD
  rw [h0]
  simp only [R.bind_ok, okTo_when, okTo_bind]
  exact ⟨ok, h⟩
end
end Bo

/-! ### what can be reached: the four sets of sure states, as predicates -/
namespace Bo
section
variable (E : Nat → Nat → Nat → Prop) (U : Nat → Nat → Prop) (T : Nat → Prop)
/-- some way leads there -/
inductive Rch : Nat → Prop
  | goal {s : Nat} : T s → Rch s
  | step {s k j : Nat} : U s k → E s k j → Rch j → Rch s
/-- all ways may lead there -/
inductive Lch : Nat → Prop
  | goal {s : Nat} : T s → Lch s
  | step {s k : Nat} (f : Nat → Nat) : U s k → (∀ k, U s k → E s k (f k)) → (∀ k, U s k → Lch (f k)) → Lch s
end
section
variable {E E' : Nat → Nat → Nat → Prop} {U U' V : Nat → Nat → Prop} {T T' : Nat → Prop} {n : Nat} {s : Nat}
theorem lch_of (h : ∃ k, U s k) (g : ∀ k, U s k → ∃ j, E s k j ∧ Lch E U T j) : Lch E U T s := by
  classical
  obtain ⟨k, hk⟩ := h
  let f : Nat → Nat := fun k => if q : ∃ j, E s k j ∧ Lch E U T j then q.choose else 0
  have hf : ∀ k, U s k → E s k (f k) ∧ Lch E U T (f k) := fun k hk => by
    have q := g k hk
    show E s k (if q : ∃ j, E s k j ∧ Lch E U T j then q.choose else 0) ∧ Lch E U T (if q : ∃ j, E s k j ∧ Lch E U T j then q.choose else 0)
    rw [dif_pos q]
    exact q.choose_spec
  exact .step f hk (fun k h => (hf k h).1) (fun k h => (hf k h).2)
/-- more targets -/
structure MoreT (U U' : Nat → Nat → Prop) (T T' : Nat → Prop) : Prop where
  t : ∀ s, T s → T' s
  u : ∀ s k, U s k → T' s ∨ U' s k
  v : ∀ s k, U' s k → U s k
namespace MoreT
variable (M : MoreT U U' T T')
include M
end MoreT
/-- more states allowed -/
structure MoreA (U U' : Nat → Nat → Prop) (T : Nat → Prop) : Prop where
  u : ∀ s k, U s k → U' s k
  v : ∀ s k, U' s k → U s k ∨ ((∀ k', ¬ U s k') ∧ ¬ T s)
namespace MoreA
variable (M : MoreA U U' T)
include M
end MoreA
/-- fewer choices -/
structure Fewer (E E' : Nat → Nat → Nat → Prop) (U U' : Nat → Nat → Prop) : Prop where
  u : ∀ s k, U' s k → U s k
  e : ∀ s k j, U' s k → (E' s k j ↔ E s k j)
  x : ∀ s k, U s k → ∃ k, U' s k
namespace Fewer
variable (M : Fewer E E' U U')
include M
end Fewer
/-- one choice in each state -/
structure One (U : Nat → Nat → Prop) (T : Nat → Prop) : Prop where
  u : ∀ s k k', U s k → U s k' → k = k'
  t : ∀ s k, U s k → ¬ T s
end
end Bo

/-! ### rounds of finding -/
namespace Bo
section
variable (ev : Bool) (n : Nat) (E : Nat → Nat → Nat → Prop) (U : Nat → Nat → Prop) (T : Nat → Prop)
/-- one joins what is found -/
def Jn (F : Nat → Prop) (i : Nat) : Prop := if ev = true then (∃ k, U i k) ∧ ∀ k, U i k → ∃ j, E i k j ∧ F j else ∃ k j, U i k ∧ E i k j ∧ F j
/-- what is found in the end -/
def Gl (i : Nat) : Prop := if ev = true then Lch E U T i else Rch E U T i
/-- what is found by f -/
def Fn (f : Nat → Option Nat) (j : Nat) : Prop := j < n ∧ (f j).isSome = true
structure LvI (f : Nat → Option Nat) (r : Nat) : Prop where
  sound : ∀ i, i < n → ∀ q, f i = some q → q ≤ r ∧ Gl ev E U T i
  goals : ∀ i, i < n → T i → (f i).isSome = true
  close : (∃ i, i < n ∧ f i = some r) ∨ ∀ i, i < n → f i = none → ¬ Jn ev E U (Fn n f) i
  low : ∀ i, i < n → ∀ q, f i = some q → (T i ∧ q = 0) ∨ Jn ev E U (fun j => j < n ∧ ∃ p, f j = some p ∧ p < q) i
end
section
variable {ev : Bool} {n : Nat} {E : Nat → Nat → Nat → Prop} {U : Nat → Nat → Prop} {T : Nat → Prop} {f : Nat → Option Nat} {r : Nat} {F : Nat → Prop} {i : Nat}
theorem jn_sound (h : ∀ j, F j → Gl ev E U T j) (q : Jn ev E U F i) : Gl ev E U T i := by
  unfold Jn at q
  unfold Gl at h ⊢
  split at q
  · rename_i c
    simp only [c, if_true] at h ⊢
    exact lch_of q.1 fun k u => (q.2 k u).imp fun j z => ⟨z.1, h j z.2⟩
  · rename_i c
    simp only [c] at h ⊢
    obtain ⟨k, j, u, e, z⟩ := q
    exact .step u e (h j z)
theorem jn_full (hT : ∀ i, T i → F i) (hU : ∀ s k, U s k → s < n) (h : ∀ i, i < n → ¬ F i → ¬ Jn ev E U F i) (q : Gl ev E U T i) : F i := by
  unfold Jn at h
  unfold Gl at q
  cases ev with
  | true =>
    simp only [if_true] at h q
    induction q with
    | goal t => exact hT _ t
    | @step s k f u e _ ih => exact Classical.byContradiction fun z => h s (hU _ _ u) z ⟨⟨k, u⟩, fun k u => ⟨f k, e k u, ih k u⟩⟩
  | false =>
    simp only [Bool.false_eq_true, if_false] at h q
    induction q with
    | goal t => exact hT _ t
    | @step s k j u e _ ih => exact Classical.byContradiction fun z => h s (hU _ _ u) z ⟨k, j, u, e, ih⟩
theorem fn_none (h : i < n) (q : f i = none) : ¬ Fn n f i := fun z => by
  have := z.2
  rw [q] at this
  cases this
theorem fn_of (h : i < n) (q : ¬ Fn n f i) : f i = none := by
  cases e : f i with
  | none => rfl
  | some a => exact absurd ⟨h, by rw [e]; rfl⟩ q
/-- in the end -/
theorem LvI.done (I : LvI ev n E U T f r) (hT : ∀ i, T i → i < n) (hU : ∀ s k, U s k → s < n) (h : ¬ ∃ i, i < n ∧ f i = some r) (hi : i < n) : (f i).isSome = true ↔ Gl ev E U T i := by
  have hc := I.close.resolve_left h
  constructor
  · intro z
    cases e : f i with
    | none => rw [e] at z; cases z
    | some q => exact (I.sound i hi q e).2
  · intro g
    exact (jn_full (F := Fn n f) (fun i t => ⟨hT i t, I.goals i (hT i t) t⟩) hU (fun i hi q => hc i hi (fn_of hi q)) g).2
theorem jn_mono {F F' : Nat → Prop} (h : ∀ j, F j → F' j) (q : Jn ev E U F i) : Jn ev E U F' i := by
  unfold Jn at q ⊢
  split at q
  · rename_i c
    rw [if_pos c]
    exact ⟨q.1, fun k u => let ⟨j, e, z⟩ := q.2 k u; ⟨j, e, h j z⟩⟩
  · rename_i c
    rw [if_neg c]
    obtain ⟨k, j, u, e, z⟩ := q
    exact ⟨k, j, u, e, h j z⟩
/-- a round -/
def nextF (g : Nat → Bool) (f : Nat → Option Nat) (r : Nat) : Nat → Option Nat := fun i => if g i = true then some (r + 1) else f i
theorem LvI.next (I : LvI ev n E U T f r) {g : Nat → Bool} (hg : ∀ i, i < n → (g i = true ↔ f i = none ∧ Jn ev E U (Fn n f) i)) : LvI ev n E U T (nextF g f r) (r + 1) := by
  have gl : ∀ j, Fn n f j → Gl ev E U T j := fun j z => by
    cases e : f j with
    | none => exact absurd z (fn_none z.1 e)
    | some q => exact (I.sound j z.1 q e).2
  have keep : ∀ j p, j < n → f j = some p → nextF g f r j = some p := fun j p hj e => by
    unfold nextF
    rw [if_neg, e]
    intro c
    rw [((hg j hj).mp c).1] at e
    cases e
  refine ⟨fun i hi q e => ?_, fun i hi t => ?_, ?_, fun i hi q e => ?_⟩
  · unfold nextF at e
    split at e
    · rename_i c
      cases e
      exact ⟨Nat.le_refl _, jn_sound gl ((hg i hi).mp c).2⟩
    · obtain ⟨h1, h2⟩ := I.sound i hi q e
      exact ⟨by omega, h2⟩
  · unfold nextF
    split
    · rfl
    · exact I.goals i hi t
  · by_cases c : ∃ i, i < n ∧ g i = true
    · obtain ⟨i, hi, c⟩ := c
      exact .inl ⟨i, hi, if_pos c⟩
    · have same : ∀ i, i < n → nextF g f r i = f i := fun i hi => if_neg fun z => c ⟨i, hi, z⟩
      refine .inr fun i hi e q => c ⟨i, hi, (hg i hi).mpr ⟨by rw [← same i hi]; exact e, ?_⟩⟩
      have ef : Fn n (nextF g f r) = Fn n f := by
        funext j
        unfold Fn
        refine propext ⟨fun z => ⟨z.1, ?_⟩, fun z => ⟨z.1, ?_⟩⟩
        · rw [← same j z.1]; exact z.2
        · rw [same j z.1]; exact z.2
      rw [ef] at q
      exact q
  · by_cases c : g i = true
    · have e' : nextF g f r i = some (r + 1) := if_pos c
      rw [e'] at e
      cases e
      refine .inr (jn_mono (fun j z => ?_) ((hg i hi).mp c).2)
      cases ej : f j with
      | none => exact absurd z (fn_none z.1 ej)
      | some p => exact ⟨z.1, p, keep j p z.1 ej, by have := (I.sound j z.1 p ej).1; omega⟩
    · have e' : nextF g f r i = f i := if_neg c
      rw [e'] at e
      rcases I.low i hi q e with z | z
      · exact .inl z
      · exact .inr (jn_mono (fun j ⟨hj, p, ep, lt⟩ => ⟨hj, p, keep j p hj ep, lt⟩) z)
end
end Bo

namespace Bo
open PySem L2
local macro_rules | `(tactic| walk_at "wv1") => `(tactic| (first
  | ((with_reducible refine w_var (d := ?wd) ?wh ?wq); (case wh => exact rfl))
  | with_reducible refine w_cons ?_
  | with_reducible refine w_nil ?_
  | with_reducible refine w_op ?_
  | with_reducible refine w_c ?_
  | with_reducible refine w_aName ?_
  | with_reducible refine w_seq ?_
  | with_reducible refine w_asg ?_
  | with_reducible refine w_toB ?_
  | with_reducible refine w_callP ?_
  | with_reducible refine w_tst ?_
  | with_reducible refine w_gIxT ?_
  | with_reducible refine w_call ?_
  | with_reducible refine w_ret ?_
  | with_reducible refine w_ifS ?_
  | with_reducible refine w_next ?_
  | ((with_reducible refine w_own (ds := ?wd) ?wh ?wq); (case wh => exact rfl))
  | with_reducible refine w_for ?_
  | with_reducible refine w_fr ?_
  | with_reducible refine w_lc ?_
  | with_reducible refine w_tup ?_
  | with_reducible refine w_iter ?_
  | with_reducible refine w_itFT ?_
  | with_reducible refine w_aCons ?_
  | with_reducible refine w_gIxL ?_
  | with_reducible refine w_tnot ?_
  | with_reducible refine w_tor ?_
  | with_reducible refine w_range1 ?_
  | with_reducible refine w_yes ?_
  | with_reducible refine w_itTT ?_
  | with_reducible refine w_iterT ?_
  | with_reducible refine w_lst ?_
  | with_reducible refine w_toI ?_
  | with_reducible refine w_ownS ?_
  | with_reducible refine w_aTup rfl ?_
  | with_reducible refine w_aNil ?_
  | ((with_reducible refine w_frz (ds := ?wd) ?wh ?wq); (case wh => exact rfl))
  | with_reducible refine w_itT ?_
  | with_reducible refine w_tand ?_
  | with_reducible refine w_gEqI ?_
  | with_reducible refine w_gNeI ?_
  | with_reducible refine w_gLenT ?_
  | with_reducible refine w_lstF ?_
  | with_reducible refine w_callB ?_
  | with_reducible refine w_app ?_
  | with_reducible refine w_setI ?_
  | with_reducible refine w_gNeD ?_
  | with_reducible refine w_gEqD ?_
  | with_reducible refine w_drop ?_
  | with_reducible refine w_gIB ?_
  | with_reducible refine w_gBools ?_
  | with_reducible refine w_and ?_
  | with_reducible refine w_isN ?_
  | with_reducible refine w_or ?_
  | with_reducible refine w_ixO ?_
  | with_reducible refine w_gI ?_
  | with_reducible refine w_gLenL ?_
  | with_reducible refine w_gTuple ?_
  | with_reducible refine w_gInts ?_
  | with_reducible refine w_un ?_
  | with_reducible refine w_if ?_
  | with_reducible refine w_chain ?_
  | ((with_reducible refine w_callS (ns := ?wd) ?wh ?wq); (case wh => exact rfl))
  | with_reducible refine w_sl ?_
  | with_reducible refine w_noPart ?_
  | with_reducible refine w_part ?_
  | with_reducible refine w_listRg ?_
  | with_reducible refine w_enumK ?_
  | with_reducible refine w_repF ?_
  | with_reducible refine w_gIC ?_
  | with_reducible refine w_gCat ?_
  | with_reducible refine w_gCatT ?_
  | with_reducible refine w_notN ?_
  | with_reducible refine w_listF ?_
  | with_reducible refine w_neg ?_
  | with_reducible refine w_not ?_
  | with_reducible refine w_tru ?_
  | with_reducible refine w_callL ?_
  | with_reducible refine w_consO ?_
  | with_reducible refine w_lenO ?_
  | with_reducible refine w_tupleO ?_
  | with_reducible refine w_listO ?_
  | with_reducible refine w_inO ?_
  | with_reducible refine w_truO ?_
  | with_reducible refine w_zipK ?_
  | with_reducible refine w_retN ?_
  | ((with_reducible refine w_aug (a := ?wd) ?wh ?wq); (case wh => exact rfl))
  | with_reducible refine w_gInL ?_
  | with_reducible refine w_gIntI ?_
  | with_reducible refine w_gRevL ?_
  | with_reducible refine w_gSlL ?_
  | with_reducible refine w_gSlT ?_
  | with_reducible refine w_itF ?_
  | with_reducible refine w_gList ?_
  | with_reducible refine w_gSortI ?_
  | with_reducible refine w_range2 ?_
  | ((with_reducible refine w_lcO (ds := ?wd) ?wh ?wq ?wr); (case wh => exact rfl); (case wq => exact rfl))
  | with_reducible refine w_aUnl rfl ?_
  | with_reducible refine w_brk ?_
  | with_reducible refine w_cnt ?_
  | with_reducible refine w_gIntB ?_
  | simp only [wipeS, backS, List.set_cons_zero, List.set_cons_succ, List.getElem?_cons_zero, List.getElem?_cons_succ, Option.join_some, Option.join_none, Bool.not_true, Bool.not_false]))
local macro_rules | `(tactic| walk_at "wv") => `(tactic| ((repeat (walk_at "wv1"; try dsimp only)); try simp only [List.set_cons_zero, List.set_cons_succ]))
local macro_rules | `(tactic| walk_at "st") => `(tactic| simp only [startS, List.map_cons, List.map_nil, List.length_cons, List.length_nil, Nat.reduceAdd, Nat.reduceSub, List.replicate_succ, List.replicate_zero, List.cons_append, List.nil_append])

section
open PySem L2
local macro_rules | `(tactic| walk_at "ev0") => `(tactic| simp only [okTo_bind, okTo_ok, okTo_noErr, okTo_when, R.bind_ok, seqF, vAsg, vVar, vC, vOp, vUn, vCall, vCons, vNil, vTup, vLst, vFr, vLstF, vTst, toB, toI, gI, gIC, gIB, gNeg, gInt, gLen, gEq, gNe, eqF, vAnd, vOr, vNot, tNotF, vYes, gTuple, gList, gRevL, wipeS, backS, okS, vIfS, vIf, vNext, vRet, vRetN, vDrop, vOwn, vFrz, frzS, aName, aTup, aCons, aNil, vFor, vScr, vRange1, vApp, ownD, vIxO, vSetI, gIxL, gIxT, vInO, vCallP, vCallB, vCallL, vConsO, vTupleO, vListO, vLenO, vLc, vLcO, vIter, vIterT, vEnumK, kdD, listD, tupleD, vListRg, vRepF, vAug, List.getElem?_cons_zero, List.getElem?_cons_succ, List.set_cons_zero, List.set_cons_succ, List.length_cons, List.length_nil, startS, List.map_cons, List.map_nil, List.replicate_succ, List.replicate_zero, List.cons_append, List.nil_append, denP, denB, denS, endP, endB, Nat.sub_self, Nat.reduceSub, Nat.reduceAdd, List.all_cons, List.all_nil, Bool.and_true, SV.mine, Bool.not_false, Option.join_some, true_and, and_true])
/-! ### lists of data, levels -/
/-! ### choices on the way -/
def EndsIn (m : Nat) (c : Cho) : Prop := c.2.length ≤ 1000 ∧ ∀ e ∈ c.2, 0 ≤ e.1 ∧ e.1 < (m : Int)
/-! ### one joins what is found -/

end
section
/-! ### rounds of finding, as the program makes them -/
open PySem L2
section
variable {n : Nat} {f g : Nat → Option Nat} {i j : Nat}
end
structure YOk (y : List (List Cho)) : Prop where
  len : y.length ≤ 20
  st : ∀ s ∈ y, s.length ≤ 1000
  cho : ∀ s ∈ y, ∀ c ∈ s, EndsIn y.length c
structure UOk (y : List (List Cho)) (U : List (List Nat)) : Prop where
  len : U.length = y.length
  lt : ∀ (i : Nat) s u, y[i]? = some s → U[i]? = some u → u.length ≤ 1000 ∧ ∀ x ∈ u, x < s.length
section
variable {y : List (List Cho)} {U : List (List Nat)} {lv : List (Option Nat)} {i k : Nat} {s : List Cho} {u : List Nat} {c : Cho}
end

end
section
/-! ### the four sets -/
open PySem L2
structure TOk (y : List (List Cho)) (tg : List Int) : Prop where
  mem : ∀ x ∈ tg, 0 ≤ x ∧ x < (y.length : Int)
  len : tg.length ≤ 1000

end
section
/-! ### attainable: choices are given up -/
open PySem L2
section
variable {lv : List (Option Nat)} {y : List (List Cho)} {U : List (List Nat)}
end

end
end Bo
/-! ### of lists and systems -/
namespace Bo
open PySem L2
theorem w_denS {N : Nat} {fs : VS} {ns : List Int} {kD : PyData → Prop} (h : (fs (some (.scr ns) :: List.replicate (N - 1) none)).okTo fun fl => match fl with
    | .nx _ => kD .none
    | .rt d _ => kD d
    | _ => False) : (denS N fs ns).okTo kD := by
  unfold denS endP
  simp only [okTo_bind]
  refine h.mono fun fl q => ?_
  cases fl <;> first | exact q | exact q.elim
theorem w_listF {fa : VE} {S : SS} {kA : List PyData × SS → Prop} (h : (fa S).okTo fun p => ∃ ds, itemsD p.1 = some ds ∧ kA (ds, p.2)) : (vListF fa S).okTo kA := by
  unfold vListF
  rw [okTo_bind]
  refine h.mono fun p ⟨ds, e, q⟩ => ?_
  rw [e]
  exact q
end Bo

/-! ### walking texts; walking defs that raise -/
namespace Bo
open PySem L2
section
variable {S : SS} {fa fb : VE} {fr : VA} {fs fs' : VS} {ft : VT} {kE : PyData × SS → Prop} {kD : PyData → Prop} {kS : FL → Prop} {kA : List PyData × SS → Prop} {i m : Nat} {ds : List PyData}
theorem w_toS {b : Str} {k : Str → Prop} (q : k b) : (toS (.str b)).okTo k := q
theorem w_m0 {g : Str → R PyData} (h : (fa S).okTo fun p => (toS p.1).okTo fun a => (g a).okTo fun z => kE (z, p.2)) : (vM0 g fa S).okTo kE := by
  unfold vM0
  simp only [okTo_bind]
  exact h
theorem w_m1 {g : Str → Str → R PyData} (h : (fa S).okTo fun p => (toS p.1).okTo fun a => (fb p.2).okTo fun q => (toS q.1).okTo fun b => (g a b).okTo fun z => kE (z, q.2)) : (vM1 g fa fb S).okTo kE := by
  unfold vM1
  simp only [okTo_bind]
  exact h
theorem w_gIsdigit {a : Str} (q : kD (.bool (Txt.isdigit a))) : (gIsdigit a).okTo kD := q
theorem w_gIsascii {a : Str} (q : kD (.bool (Txt.isascii a))) : (gIsascii a).okTo kD := q
theorem w_gRemoveprefix {a b : Str} (q : a.length ≤ 100000 ∧ kD (.str (Txt.removeprefix a b))) : (gRemoveprefix a b).okTo kD := okTo_when.mpr q
theorem w_gPartition {a b : Str} (q : ((b.length == 0) = false ∧ a.length ≤ 100000) ∧ kD (.tuple [.str (Txt.partition a b).1, .str (Txt.partition a b).2.1, .str (Txt.partition a b).2.2])) : (gPartition a b).okTo kD := okTo_when.mpr q
theorem w_gSplit {a b : Str} (q : ((b.length == 0) = false ∧ a.length ≤ 100000) ∧ kD (.list ((Txt.split a b).map PyData.str))) : (gSplit a b).okTo kD := okTo_when.mpr q
theorem w_join (h : (fa S).okTo fun p => (toS p.1).okTo fun a => (fb p.2).okTo fun q => ∃ ds, itemsD q.1 = some ds ∧ (joinD a ds).okTo fun z => kE (z, q.2)) : (vJoin fa fb S).okTo kE := by
  unfold vJoin
  simp only [okTo_bind]
  refine h.mono fun p h1 => h1.mono fun a h2 => h2.mono fun q ⟨ds, e, h3⟩ => ?_
  rw [e]
  exact okTo_bind.mpr h3
theorem w_joinD {a : Str} {ys : List Str} (q : (ys.map (·.length)).sum + ys.length * a.length ≤ 100000 ∧ kD (.str (Txt.join a ys))) : (joinD a (ys.map PyData.str)).okTo kD := by
  unfold joinD
  rw [strs_map]
  exact okTo_when.mpr q
theorem w_joinO (h : (fa S).okTo fun p => (toS p.1).okTo fun a => (ownD p.2 i).okTo fun ds => (joinD a ds).okTo fun z => kE (z, p.2)) : (vJoinO fa i S).okTo kE := by
  unfold vJoinO
  simp only [okTo_bind]
  exact h
theorem w_joinR (h : (fa S).okTo fun p => (toS p.1).okTo fun a => (ownD p.2 i).okTo fun ds => ∃ ys : List Str, ds = ys.map PyData.str ∧ (ys.map (·.length)).sum + ys.length * a.length ≤ 100000 ∧ kE (.str (Txt.join a ys.reverse), p.2)) : (vJoinR fa i S).okTo kE := by
  unfold vJoinR
  simp only [okTo_bind]
  refine h.mono fun p h1 => h1.mono fun a h2 => h2.mono fun ds ⟨ys, e, h3⟩ => ?_
  subst e
  rw [strs_map]
  exact okTo_when.mpr h3
theorem w_gInS {neg : Bool} {c : Nat} {z : Str} (q : kD (.bool (if neg then !decide (c ∈ z.cps.toList) else decide (c ∈ z.cps.toList)))) : (gInS neg (.str ⟨#[c]⟩) (.str z)).okTo kD := q
theorem w_gIxS {z : Str} {j : Int} (q : z.length ≤ 100000 ∧ ∃ c, atI z.cps.toList j = some c ∧ kD (.str ⟨#[c]⟩)) : (gIxS (.str z) (.int j)).okTo kD := by
  obtain ⟨h1, c, h2, h3⟩ := q
  refine okTo_when.mpr ⟨h1, ?_⟩
  rw [h2]
  exact h3
theorem w_gSlS {z : Str} {lo hi : Option Int} (q : z.length ≤ 100000 ∧ kD (.str (cutS z lo hi))) : (gSlS (.str z) lo hi).okTo kD := okTo_when.mpr q
theorem w_gIntS {a : Str} (q : ∃ n, PySem.intText? a = some n ∧ a.length ≤ 640 ∧ kD (.int n)) : (gIntS [.str a]).okTo kD := by
  obtain ⟨n, h1, h2⟩ := q
  unfold gIntS
  simp only
  rw [h1]
  exact okTo_when.mpr h2
theorem w_iterS (h : (fa S).okTo fun p => (toS p.1).okTo fun x => kA (signsD x, p.2)) : (vIterS fa S).okTo kA := by
  unfold vIterS
  simp only [okTo_bind]
  exact h
theorem w_gRepS {x : Str} {j : Int} (q : (2 ≤ j ∧ j ≤ 1000 ∧ x.length = 1) ∧ kD (.str (repS x j.toNat))) : (gRepS (.str x) (.int j)).okTo kD := okTo_when.mpr q
theorem w_gCatS {x y : Str} (q : x.length + y.length ≤ 100000 ∧ kD (.str (x ++ y))) : (gCatS (.str x) (.str y)).okTo kD := okTo_when.mpr q
theorem w_gLenS {x : Str} (q : x.length ≤ 100000 ∧ kD (.int x.length)) : (gLenS [.str x]).okTo kD := okTo_when.mpr q
theorem w_gStrI {j : Int} (q : j.natAbs < 2 ^ 1900 ∧ kD (.str (toString j))) : (gStrI [.int j]).okTo kD := okTo_when.mpr q
theorem w_fmt (h : (fa S).okTo fun p => (toFmt p.1).okTo fun y => kE (.str y, p.2)) : (vFmt fa S).okTo kE := by
  unfold vFmt
  simp only [okTo_bind]
  exact h
theorem w_toFmtS {y : Str} {k : Str → Prop} (q : y.length ≤ 100000 ∧ k y) : (toFmt (.str y)).okTo k := okTo_when.mpr q
theorem w_toFmtI {j : Int} {k : Str → Prop} (q : j.natAbs < 2 ^ 1900 ∧ k (toString j)) : (toFmt (.int j)).okTo k := okTo_when.mpr q
theorem w_joined {gs : List VE} (h : (vJs gs Str.empty S).okTo fun p => kE (.str p.1, p.2)) : (vJoined gs S).okTo kE := by
  unfold vJoined
  simp only [okTo_bind]
  exact h
theorem w_jsNil {acc : Str} {k : Str × SS → Prop} (q : k (acc, S)) : (vJs [] acc S).okTo k := q
theorem w_jsCons {f : VE} {gs : List VE} {acc : Str} {k : Str × SS → Prop} (h : (f S).okTo fun p => (toS p.1).okTo fun y => (acc ++ y).length ≤ 100000 ∧ (vJs gs (acc ++ y) p.2).okTo k) : (vJs (f :: gs) acc S).okTo k := by
  unfold vJs
  simp only [okTo_bind, okTo_when]
  exact h
theorem w_gMin2 {a b : Int} (q : kD (.int (if b < a then b else a))) : (gMin2 [.int a, .int b]).okTo kD := q
theorem w_gEqS {a b : Str} (q : kD (.bool (decide (a = b)))) : (gEq (.str a) (.str b)).okTo kD := q
theorem w_gNeS {a b : Str} (q : kD (.bool (!decide (a = b)))) : (gNe (.str a) (.str b)).okTo kD := q
/-! defs that raise -/
theorem endsBind {α β : Type} {x : R α} {f : α → R β} {k : β → Prop} {ke : Exc → Prop} : (x.bind f).ends k ke ↔ x.ends (fun a => (f a).ends k ke) ke := by
  cases x <;> exact Iff.rfl
theorem endsOk {α : Type} {x : R α} {k : α → Prop} {ke : Exc → Prop} (h : x.okTo k) : x.ends k ke := by
  cases x with
  | ok a => exact h
  | err e => exact h.elim
  | bad => exact h.elim
theorem endsWhen {α : Type} {c : Prop} [Decidable c] {x : R α} {k : α → Prop} {ke : Exc → Prop} (h : c ∧ x.ends k ke) : (R.when c x).ends k ke := by
  rw [R.when_pos h.1]
  exact h.2
variable {ke : Exc → Prop}
theorem e_seq (h : (fs S).ends (fun fl => match fl with
    | .nx S1 => (fs' S1).ends kS ke
    | f => kS f) ke) : (vSeq fs fs' S).ends kS ke := by
  unfold vSeq
  refine endsBind.mpr (h.mono (fun fl q => ?_) fun _ z => z)
  cases fl <;> exact q
theorem e_cut (S1 : SS) (h : (fs S).okTo fun fl => fl = .nx S1) (q : (fs' S1).ends kS ke) : (vSeq fs fs' S).ends kS ke :=
  e_seq (endsOk (R.okTo.mono h fun fl e => by subst e; exact q))
theorem e_ifS (h : (ft S).okTo fun p => if p.1 = true then (fs p.2).ends kS ke else (fs' p.2).ends kS ke) : (vIfS ft fs fs' S).ends kS ke := by
  unfold vIfS
  refine endsBind.mpr (endsOk (h.mono fun p q => ?_))
  split at q
  · rename_i c
    rw [if_pos c]
    exact q
  · rename_i c
    rw [if_neg c]
    exact q
theorem e_raise {cls : String} (h : (fr S).okTo fun p => ∃ d, p.1 = [d] ∧ ke ⟨cls, some d⟩) : (vRaise cls fr S).ends kS ke := by
  unfold vRaise
  refine endsBind.mpr (endsOk (h.mono fun p ⟨d, e, q⟩ => ?_))
  rw [e]
  exact q
theorem e_asg {fg : PyData → SS → R SS} (h : (fa S).ends (fun p => (fg p.1 p.2).okTo fun S1 => kS (.nx S1)) ke) : (vAsg fa fg S).ends kS ke := by
  unfold vAsg
  exact endsBind.mpr (h.mono (fun p q => endsBind.mpr (endsOk q)) fun _ z => z)
theorem e_drop (h : (fa S).ends (fun p => kS (.nx p.2)) ke) : (vDrop fa S).ends kS ke := by
  unfold vDrop
  exact endsBind.mpr h
theorem e_callX {g : List PyData → R PyData} (h : (fr S).okTo fun p => p.1.length = m ∧ (g p.1).ends (fun z => kE (z, p.2)) ke) : (vCallX m g fr S).ends kE ke := by
  unfold vCallX
  exact endsBind.mpr (endsOk (h.mono fun p q => endsWhen ⟨q.1, endsBind.mpr q.2⟩))
theorem e_denP {N : Nat} (h : (fs (startS N ds)).ends (fun fl => match fl with
    | .nx _ => kD .none
    | .rt d _ => kD d
    | _ => False) ke) : (denP N fs ds).ends kD ke := by
  unfold denP endP
  refine endsBind.mpr (h.mono (fun fl q => ?_) fun _ z => z)
  cases fl <;> exact q
end
end Bo

/-! ### the mathematics of fractions (as in the older texts of ours) -/
namespace Bo
open PySem L2
/-! ### lowest terms -/
/-! ### Euclid's way as the law walks it -/
/-- behind i steps: the divisor is kept, the product falls -/
structure Eu (g : Nat) (P : Nat) (i : Nat) (a b : Int) : Prop where
  a0 : 0 ≤ a
  b0 : 0 < b
  gc : Int.gcd a b = g
  pr : 0 < i → a < b
  fall : a.toNat * b.toNat * 2 ^ (i - 1) ≤ P
theorem gcd_mod0 (a b : Int) : Int.gcd (b % a) a = Int.gcd a b := by
  have e : b % a = b - a * (b / a) := Int.emod_def b a
  refine Nat.dvd_antisymm ?_ ?_
  · have h1 := Int.gcd_dvd_left (a := b % a) (b := a)
    have h2 := Int.gcd_dvd_right (a := b % a) (b := a)
    have h3 : ((Int.gcd (b % a) a : Nat) : Int) ∣ b := by
      have h4 := Int.dvd_add h1 (Int.dvd_trans h2 (Int.dvd_mul_right a (b / a)))
      rw [Int.emod_add_mul_ediv] at h4
      exact h4
    exact Int.dvd_gcd h2 h3
  · have h1 := Int.gcd_dvd_left (a := a) (b := b)
    have h2 := Int.gcd_dvd_right (a := a) (b := b)
    have h3 : ((Int.gcd a b : Nat) : Int) ∣ b % a := by
      rw [e]
      exact Int.dvd_sub h2 (Int.dvd_trans h1 (Int.dvd_mul_right a _))
    exact Int.dvd_gcd h3 h1
theorem Eu.step {g P i : Nat} {a b : Int} (e : Eu g P i a b) (h : a ≠ 0) : Eu g P (i + 1) (b.fmod a) a := by
  obtain ⟨a0, b0, gc, pr, fall⟩ := e
  have ha : 0 < a := by omega
  have em : b.fmod a = b % a := Int.fmod_eq_emod_of_nonneg b (by omega)
  rw [em]
  have m0 := Int.emod_nonneg b h
  have m1 := Int.emod_lt_of_pos b ha
  refine ⟨m0, ha, ?_, fun _ => m1, ?_⟩
  · rw [← gc]
    exact gcd_mod0 a b
  · show (b % a).toNat * a.toNat * 2 ^ i ≤ P
    refine Nat.le_trans ?_ fall
    cases i with
    | zero =>
      show (b % a).toNat * a.toNat * 1 ≤ a.toNat * b.toNat * 1
      rw [Nat.mul_one, Nat.mul_one, Nat.mul_comm]
      have hle : b % a ≤ b := by
        by_cases hb : b < a
        · rw [Int.emod_eq_of_lt (by omega) hb]
          exact Int.le_refl _
        · omega
      exact Nat.mul_le_mul_left _ (by omega)
    | succ j =>
      have hab := pr (by omega)
      have hq : a + b % a ≤ b := by
        have h1 := Int.mul_ediv_add_emod b a
        have h2 : 1 ≤ b / a := Int.le_ediv_of_mul_le ha (by omega)
        have h3 : a * 1 ≤ a * (b / a) := Int.mul_le_mul_of_nonneg_left h2 (by omega)
        omega
      have h2 : 2 * (b % a).toNat ≤ b.toNat := by omega
      show (b % a).toNat * a.toNat * 2 ^ (j + 1) ≤ a.toNat * b.toNat * 2 ^ j
      rw [Nat.pow_succ, ← Nat.mul_assoc, Nat.mul_right_comm _ _ 2]
      refine Nat.mul_le_mul_right _ ?_
      rw [Nat.mul_comm ((b % a).toNat * a.toNat) 2, ← Nat.mul_assoc, Nat.mul_comm (2 * (b % a).toNat)]
      exact Nat.mul_le_mul_left _ h2
theorem Eu.done {g P i : Nat} {a b : Int} (e : Eu g P i a b) (h : P < 2 ^ (i - 1)) : a = 0 := by
  obtain ⟨a0, b0, gc, pr, fall⟩ := e
  by_cases ha : a = 0
  · exact ha
  · exfalso
    have h1 : 1 ≤ a.toNat * b.toNat := Nat.mul_pos (by omega) (by omega)
    have h2 := Nat.mul_le_mul_right (2 ^ (i - 1)) h1
    omega
theorem Eu.zero {g P i : Nat} {a b : Int} (e : Eu g P i a b) (h : a = 0) : b = (g : Int) := by
  obtain ⟨a0, b0, gc, pr, fall⟩ := e
  subst h
  rw [Int.gcd_zero_left] at gc
  omega

/-! ### fractions as rationals -/
end Bo

/-! ### fractions: what their defs are worth -/
namespace Bo
open PySem L2
noncomputable section
end
end Bo

/-! ### an item of a list or a tuple -/
namespace Bo
open PySem L2
section
variable {K : PySem.W.Frag} {n : Nat} {C : Ct K n} {σ : L2.St} {H B : Hp} {S : SS}
def gIxQ : PyData → PyData → R PyData
  | .list ds, .int i => ixD ds i
  | .tuple ds, .int i => ixD ds i
  | _, _ => .bad
theorem w_gIxQL {ds : List PyData} {a : Int} {kD : PyData → Prop} (q : (ixD ds a).okTo kD) : (gIxQ (.list ds) (.int a)).okTo kD := q
theorem w_gIxQT {ds : List PyData} {a : Int} {kD : PyData → Prop} (q : (ixD ds a).okTo kD) : (gIxQ (.tuple ds) (.int a)).okTo kD := q
/-- the items of a list or a tuple of a policy -/
def IsPol (pd : PyData) (pol : List Int) : Prop := pd = .list (pol.map .int) ∨ pd = .tuple (pol.map .int)
theorem IsPol.ix {pd : PyData} {pol : List Int} (h : IsPol pd pol) {a : Int} : gIxQ pd (.int a) = ixD (pol.map .int) a := by
  rcases h with rfl | rfl <;> rfl
/-- a list or a tuple of these -/
def IsSeq (d : PyData) (ds : List PyData) : Prop := d = .list ds ∨ d = .tuple ds
theorem IsSeq.ix {d : PyData} {ds : List PyData} (h : IsSeq d ds) {a : Int} : gIxQ d (.int a) = ixD ds a := by
  rcases h with rfl | rfl <;> rfl
end
end Bo

/-! ### more rules: [*xs, y], reversed(xs) -/
namespace Bo
open PySem L2
section
variable {K : PySem.W.Frag} {n : Nat} {C : Ct K n} {B : Hp}
def smallI (i j : Int) : Prop := i.natAbs < 2 ^ 6000 ∧ j.natAbs < 2 ^ 6000
instance {i j : Int} : Decidable (smallI i j) := inferInstanceAs (Decidable (_ ∧ _))
open PySem.W in
/-! isinstance(x, T), T a built-in class -/
end
end Bo

/-! ### more rules: xs.index(x) -/
namespace Bo
open PySem L2
section
variable {K : PySem.W.Frag} {n : Nat} {C : Ct K n} {B : Hp}
/-! dict(xs), xs a list of pairs; d.get(k, x) -/
def valD (kvs : List (Key × PyData)) (k : Key) : Option PyData := (kvs.find? fun kv => decide (kv.1 = k)).map (·.2)
end
end Bo

/-! ### x, *ys = a list -/
namespace Bo
open PySem L2
section
variable {K : PySem.W.Frag} {n : Nat} {C : Ct K n}
end
end Bo

/-! ### slots that nobody reads any more are let go; is of bools; new dicts that a def tells -/
namespace Bo
open PySem L2
section
variable {K : PySem.W.Frag} {n : Nat} {C : Ct K n} {σ : L2.St} {H B : Hp} {S : SS}
theorem wipeS_out {i : Nat} : ∀ {vs : List Nat}, i ∉ vs → (wipeS S vs)[i]? = S[i]?
  | [], _ => rfl
  | u :: us, h => by
    unfold wipeS
    rw [List.getElem?_set_ne (fun e => h (by simp [e]))]
    exact wipeS_out fun z => h (List.mem_cons_of_mem _ z)
theorem Rep.killed (R : Rep C σ H B S) {vs : List Nat} (hv : ∀ v ∈ vs, n ≤ v) : Rep C σ H B (wipeS S vs) := by
  refine ⟨R.base, by rw [wipeS_len]; exact R.len, fun i s h => R.slot i s (wipeS_some h).2, fun i j s u a h1 h2 m1 m2 e1 e2 => R.dis i j s u a (wipeS_some h1).2 (wipeS_some h2).2 m1 m2 e1 e2, fun i s a h m e => R.ownf i s a (wipeS_some h).2 m e, fun i a h => ?_⟩
  have hn : i ∉ vs := fun z => by
    have := hv i z
    have := (List.getElem?_eq_some_iff.mp h).1
    have := C.hbx
    omega
  obtain ⟨q1, s, q2, q3⟩ := R.box i a h
  exact ⟨q1, s, by rw [wipeS_out hn]; exact q2, q3⟩
def vPre (vs : List Nat) (f : VS) : VS := fun S => f (wipeS S vs)
def thenF (vs : List Nat) : FL → FL
  | .nx S => .nx (wipeS S vs)
  | f => f
def vThen (vs : List Nat) (f : VS) : VS := fun S => (f S).bind fun fl => .ok (thenF vs fl)
theorem st_pre {t : TS} {f : VS} {vs : List Nat} (hv : vs.all (fun v => decide (n ≤ v)) = true) (h : SSt C t f) : SSt C t (vPre vs f) := by
  intro σ H B S D R q
  exact h σ H B _ D (R.killed fun v m => of_decide_eq_true (List.all_eq_true.mp hv v m)) q
theorem st_then {t : TS} {f : VS} {vs : List Nat} (hv : vs.all (fun v => decide (n ≤ v)) = true) (h : SSt C t f) : SSt C t (vThen vs f) := by
  intro σ H B S D R q
  refine h σ H B S D R ((post_bind.mp q).mono fun fl q => ?_)
  cases fl with
  | nx S1 => exact fun σ' H' B' R1 e1 => q σ' H' B' (R1.killed fun v m => of_decide_eq_true (List.all_eq_true.mp hv v m)) e1
  | rt d S1 => exact q
  | bk S1 => exact q
  | ct S1 => exact q
theorem w_pre {f : VS} {vs : List Nat} {kS : FL → Prop} (h : (f (wipeS S vs)).okTo kS) : (vPre vs f S).okTo kS := h
theorem w_then {f : VS} {vs : List Nat} {kS : FL → Prop} (h : (f S).okTo fun fl => match fl with
    | .nx S1 => kS (.nx (wipeS S1 vs))
    | fl => kS fl) : (vThen vs f S).okTo kS := by
  unfold vThen
  refine okTo_bind.mpr (h.mono fun fl q => ?_)
  cases fl <;> exact q
/-! is of bools -/
def gIsB (neg : Bool) : PyData → PyData → R PyData
  | .bool a, .bool b => .ok (.bool (if neg then !decide (a = b) else decide (a = b)))
  | _, _ => .bad
theorem w_gIsB {neg a b : Bool} {kD : PyData → Prop} (q : kD (.bool (if neg then !decide (a = b) else decide (a = b)))) : (gIsB neg (.bool a) (.bool b)).okTo kD := q
/-! == of bools and ints (True == 1) stays out; == of bools is eqF's -/
/-! a def of the script that tells a new dict -/
/-- a value that needs no step -/
def SPu (C : Ct K n) (t : TE) (f : SS → Option PyData) : Prop := ∀ (σ : L2.St) (H B : Hp) (S : SS) (d : PyData), Rep C σ H B S → f S = some d → ∃ v, Da K B v d ∧ ∀ (H' : Hp) (Q : VK), Q v H' → t σ H' Q
inductive Prs (C : Ct K n) : List (TE × TE) → List (Str × (SS → Option PyData)) → Prop
  | nil : Prs C [] []
  | cons {x : Str} {t : TE} {f : SS → Option PyData} {ts : List (TE × TE)} {fs : List (Str × (SS → Option PyData))} (h : SPu C t f) (r : Prs C ts fs) : Prs C ((tC (.str x), t) :: ts) ((x, f) :: fs)
def vNewS (i j : Nat) (den : List Int → R (List (Key × PyData))) : VS := fun S => match S[j]? with
  | some (some (.scr ns)) => ((den ns).noErr).bind fun kvs => .ok (.nx (S.set i (some (.dic kvs))))
  | _ => .bad
theorem w_newS {i j : Nat} {den : List Int → R (List (Key × PyData))} {ns : List Int} {kS : FL → Prop} (h : S[j]? = some (some (.scr ns))) (q : (den ns).okTo fun kvs => kS (.nx (S.set i (some (.dic kvs))))) : (vNewS i j den S).okTo kS := by
  unfold vNewS
  rw [h]
  exact okTo_bind.mpr (okTo_noErr.mpr q)
/-! d[k] -/
def vGetD (i : Nat) (fk : VE) : VE := fun S => (dicD S i).bind fun _ => (fk S).bind fun p => (keyD p.1).bind fun y => (dicD p.2 i).bind fun kvs => match valD kvs y with
  | some d => .ok (d, p.2)
  | none => .bad
theorem w_dic {i : Nat} {kvs : List (Key × PyData)} {k : List (Key × PyData) → Prop} (h : S[i]? = some (some (.dic kvs))) (q : k kvs) : (dicD S i).okTo k := by
  unfold dicD
  rw [h]
  exact q
theorem w_keyS {x : Str} {k : Key → Prop} (q : k (.inr x)) : (keyD (.str x)).okTo k := q
theorem w_keyI {x : Int} {k : Key → Prop} (q : k (.inl x)) : (keyD (.int x)).okTo k := q
theorem w_getD {i : Nat} {fk : VE} {kE : PyData × SS → Prop} (h : (dicD S i).okTo fun _ => (fk S).okTo fun p => (keyD p.1).okTo fun y => (dicD p.2 i).okTo fun kvs => ∃ d, valD kvs y = some d ∧ kE (d, p.2)) : (vGetD i fk S).okTo kE := by
  unfold vGetD
  refine okTo_bind.mpr (h.mono fun _ h => okTo_bind.mpr (h.mono fun p h => okTo_bind.mpr (h.mono fun y h => okTo_bind.mpr (h.mono fun kvs ⟨d, e, q⟩ => ?_))))
  rw [e]
  exact q
theorem w_putD {i : Nat} {fk fe : VE} {kS : FL → Prop} (h : (fe S).okTo fun p => (dicD p.2 i).okTo fun _ => (fk p.2).okTo fun q => (keyD q.1).okTo fun y => (dicD q.2 i).okTo fun kvs => kvs.length < 100000 ∧ kS (.nx (q.2.set i (some (.dic (putD kvs y p.1)))))) : (vPutD i fk fe S).okTo kS := by
  unfold vPutD
  simp only [okTo_bind, okTo_when]
  exact h
theorem w_callD {m i : Nat} {fr : VA} {g : List (Key × PyData) → List PyData → R (PyData × List (Key × PyData))} {kE : PyData × SS → Prop} (h : (dicD S i).okTo fun _ => (fr S).okTo fun p => (dicD p.2 i).okTo fun bs => p.1.length = m ∧ (g bs p.1).okTo fun z => kE (z.1, p.2.set i (some (.dic z.2)))) : (vCallD m g i fr S).okTo kE := by
  unfold vCallD
  simp only [okTo_bind, okTo_when, okTo_noErr]
  exact h
/-! x is None, x a slot's list at times -/
def vIsNO (neg : Bool) (i : Nat) : VE := fun S => match S[i]? with
  | some (some (.dat d)) => .ok (.bool (if neg then !isNone d else isNone d), S)
  | some (some (.own _)) => .ok (.bool neg, S)
  | _ => .bad
theorem w_isNOd {neg : Bool} {i : Nat} {d : PyData} {kE : PyData × SS → Prop} (h : S[i]? = some (some (.dat d))) (q : kE (.bool (if neg then !isNone d else isNone d), S)) : (vIsNO neg i S).okTo kE := by
  unfold vIsNO
  rw [h]
  exact q
theorem w_isNOo {neg : Bool} {i : Nat} {ds : List PyData} {kE : PyData × SS → Prop} (h : S[i]? = some (some (.own ds))) (q : kE (.bool neg, S)) : (vIsNO neg i S).okTo kE := by
  unfold vIsNO
  rw [h]
  exact q
/-! a slot's list is turned round -/
def vRevO (i : Nat) : VE := fun S => (ownD S i).bind fun ds => .ok (.none, S.set i (some (.own ds.reverse)))
theorem w_revO {i : Nat} {ds : List PyData} {kE : PyData × SS → Prop} (h : S[i]? = some (some (.own ds))) (q : kE (.none, S.set i (some (.own ds.reverse)))) : (vRevO i S).okTo kE := by
  unfold vRevO ownD
  rw [h]
  exact q
end
end Bo
namespace Bo
open PySem L2
end Bo

/-! ### defs that tell a new list, which the caller may change; their first argument is a dict or a list that they change -/
namespace Bo
open PySem L2
section
variable {K : PySem.W.Frag} {n : Nat} {C : Ct K n} {σ : L2.St} {H B : Hp} {S : SS}
/-- taken by a slot -/
def vOwnCallD (j : Nat) (m : Nat) (den : List (Key × PyData) → List PyData → R (List PyData × List (Key × PyData))) (i : Nat) (fa : VA) : VS := fun S => (dicD S i).bind fun _ => (fa S).bind fun p => (dicD p.2 i).bind fun bs => R.when (p.1.length = m) (((den bs p.1).noErr).bind fun z => .ok (.nx ((p.2.set i (some (.dic z.2))).set j (some (.own z.1)))))
/-- as a value -/
def vCallDF (m : Nat) (den : List (Key × PyData) → List PyData → R (List PyData × List (Key × PyData))) (i : Nat) (fa : VA) : VE := fun S => (dicD S i).bind fun _ => (fa S).bind fun p => (dicD p.2 i).bind fun bs => R.when (p.1.length = m) (((den bs p.1).noErr).bind fun z => .ok (.list z.1, p.2.set i (some (.dic z.2))))
theorem w_ownCallD {j m i : Nat} {den : List (Key × PyData) → List PyData → R (List PyData × List (Key × PyData))} {fa : VA} {kS : FL → Prop} (h : (dicD S i).okTo fun _ => (fa S).okTo fun p => (dicD p.2 i).okTo fun bs => p.1.length = m ∧ (den bs p.1).okTo fun z => kS (.nx ((p.2.set i (some (.dic z.2))).set j (some (.own z.1))))) : (vOwnCallD j m den i fa S).okTo kS := by
  unfold vOwnCallD
  simp only [okTo_bind, okTo_when, okTo_noErr]
  exact h
theorem w_callDF {m i : Nat} {den : List (Key × PyData) → List PyData → R (List PyData × List (Key × PyData))} {fa : VA} {kE : PyData × SS → Prop} (h : (dicD S i).okTo fun _ => (fa S).okTo fun p => (dicD p.2 i).okTo fun bs => p.1.length = m ∧ (den bs p.1).okTo fun z => kE (.list z.1, p.2.set i (some (.dic z.2)))) : (vCallDF m den i fa S).okTo kE := by
  unfold vCallDF
  simp only [okTo_bind, okTo_when, okTo_noErr]
  exact h
end
end Bo

set_option maxHeartbeats 1000000
/-! ### texts: cut at a sign, in two and in all parts -/
namespace Bo
open PySem PySem.StrLaws Builtin Builtin.Str L2
def sg (l : List Nat) : Str := ⟨l.toArray⟩
theorem sg_list (l : List Nat) : (sg l).cps.toList = l := rfl
theorem sg_len (l : List Nat) : (sg l).length = l.length := by
  show l.toArray.size = _
  simp
theorem sg_of (x : Str) : sg x.cps.toList = x := by
  obtain ⟨a⟩ := x
  show Str.mk a.toList.toArray = _
  rw [Array.toArray_toList]
theorem sub_sg (l : List Nat) (i j : Nat) : strSub (sg l) i j = sg ((l.drop i).take (j - i)) := by
  rw [← sg_of (strSub (sg l) i j), strSub_toList]
  rfl
theorem at_one (l : List Nat) (c k : Nat) : At (sg l) (sg [c]) (sg l).length k ↔ l[k]? = some c := by
  unfold At
  rw [subAt_eq, sg_list, sg_list, sg_len, sg_len]
  show k + 1 ≤ l.length ∧ ((l.drop k).take 1 == [c]) = true ↔ _
  constructor
  · rintro ⟨h1, h2⟩
    have h3 := beq_iff_eq.mp h2
    have h4 : ((l.drop k).take 1)[0]? = some c := by rw [h3]; rfl
    rw [List.getElem?_take_of_lt (by decide), List.getElem?_drop] at h4
    exact h4
  · intro h
    have hk := (List.getElem?_eq_some_iff.mp h).1
    refine ⟨hk, beq_iff_eq.mpr ?_⟩
    rw [List.drop_eq_getElem_cons hk, List.take_succ_cons, List.take_zero]
    have := (List.getElem?_eq_some_iff.mp h).2
    rw [this]
def splitL (c : Nat) : List Nat → List (List Nat)
  | [] => [[]]
  | x :: r => if x = c then [] :: splitL c r else match splitL c r with
    | [] => [[x]]
    | h :: t => (x :: h) :: t
theorem splitL_free {c : Nat} : ∀ {l : List Nat}, c ∉ l → splitL c l = [l]
  | [], _ => rfl
  | x :: r, h => by
    have e := splitL_free (c := c) (l := r) fun z => h (List.mem_cons_of_mem _ z)
    rw [splitL, if_neg fun z => h (by rw [z]; exact List.mem_cons_self ..), e]
theorem splitL_cut {c : Nat} {q : List Nat} : ∀ {p : List Nat}, c ∉ p → splitL c (p ++ c :: q) = p :: splitL c q
  | [], _ => by
    show splitL c (c :: q) = _
    rw [splitL, if_pos rfl]
  | x :: r, h => by
    have e := splitL_cut (c := c) (q := q) (p := r) fun z => h (List.mem_cons_of_mem _ z)
    show splitL c (x :: (r ++ c :: q)) = _
    rw [splitL, if_neg fun z => h (by rw [z]; exact List.mem_cons_self ..), e]
theorem free_of {c : Nat} {l : List Nat} {a b : Nat} (h : ∀ k, a ≤ k → k < b → l[k]? ≠ some c) : c ∉ (l.drop a).take (b - a) := fun hm => by
  obtain ⟨j, hj⟩ := List.getElem?_of_mem hm
  have hlt : j < b - a := by
    have h1 := (List.getElem?_eq_some_iff.mp hj).1
    rw [List.length_take] at h1
    omega
  rw [List.getElem?_take_of_lt hlt, List.getElem?_drop] at hj
  exact h (a + j) (by omega) (by omega) hj
theorem parts_sg (l : List Nat) (c : Nat) : ∀ (cuts : List Nat) (a f : Nat), ChainG (sg l) (sg [c]) (sg l).length a cuts f → (∀ k, f ≤ k → ¬ At (sg l) (sg [c]) (sg l).length k) → partsFrom (sg l) 1 a cuts = (splitL c (l.drop a)).map sg
  | [], a, f, h, hn => by
    have e : f = a := h
    subst e
    have fr : c ∉ l.drop f := fun hm => by
      obtain ⟨j, hj⟩ := List.getElem?_of_mem hm
      rw [List.getElem?_drop] at hj
      exact hn (f + j) (by omega) ((at_one l c _).mpr hj)
    rw [splitL_free fr, partsFrom, sub_sg, sg_len, List.take_of_length_le (by rw [List.length_drop]; omega)]
    rfl
  | i :: r, a, f, h, hn => by
    obtain ⟨h1, h2, h3, h4⟩ := h
    have e := parts_sg l c r (i + 1) f h4 hn
    have hi := (at_one l c i).mp h2
    have hk := (List.getElem?_eq_some_iff.mp hi)
    have fr : c ∉ (l.drop a).take (i - a) := free_of fun k k1 k2 z => h3 k k1 k2 ((at_one l c k).mpr z)
    have cut : l.drop a = (l.drop a).take (i - a) ++ c :: l.drop (i + 1) := by
      have e1 : l.drop i = c :: l.drop (i + 1) := by rw [List.drop_eq_getElem_cons hk.1, hk.2]
      have e2 : (l.drop a).drop (i - a) = l.drop i := by rw [List.drop_drop]; congr 1; omega
      rw [← e1, ← e2, List.take_append_drop]
    rw [partsFrom, e, sub_sg]
    conv => rhs; rw [cut, splitL_cut fr]
    rfl
/-- a sign of one byte stands in no text of a lower kind -/
theorem kind_one {c : Nat} (h : c < 256) : Builtin.Str.strKind (sg [c]) = 1 := by
  unfold Builtin.Str.strKind
  rw [if_pos]
  show ([c].toArray.all (· < 256)) = true
  simp [h]
theorem kind_pos (x : Str) : 1 ≤ Builtin.Str.strKind x := by
  unfold Builtin.Str.strKind
  split
  · exact Nat.le_refl _
  · split
    · decide
    · decide
theorem split_sg (l : List Nat) {c : Nat} (hc : c < 256) : Txt.split (sg l) (sg [c]) = (splitL c l).map sg := by
  have one : (sg [c]).length = 1 := sg_len _
  have hk : decide (Builtin.Str.strKind (sg l) < Builtin.Str.strKind (sg [c])) = false := decide_eq_false (by rw [kind_one hc]; have := kind_pos (sg l); omega)
  have key : (c ∉ l → occurrences (sg l) (sg [c]) 0 (sg l).length ((sg l).length + 1) = []) ∧ partsBetween (sg l) (occurrences (sg l) (sg [c]) 0 (sg l).length ((sg l).length + 1)) (sg [c]).length = (splitL c l).map sg := by
    obtain ⟨f, h1, h2⟩ := occ_tight (sg l) (sg [c]) (by rw [one]; exact Nat.le_refl _)
    refine ⟨fun hn => ?_, ?_⟩
    · cases e : occurrences (sg l) (sg [c]) 0 (sg l).length ((sg l).length + 1) with
      | nil => rfl
      | cons i r =>
        rw [e] at h1
        exact absurd (List.mem_of_getElem? ((at_one l c i).mp h1.2.1)) hn
    · rw [partsBetween_eq, one, parts_sg l c _ 0 f h1 h2]
      rfl
  unfold Txt.split
  rw [hk, Bool.or_false]
  by_cases hl : (sg l).length < (sg [c]).length
  · rw [if_pos (decide_eq_true hl)]
    rw [one, sg_len] at hl
    have e : l = [] := List.eq_nil_of_length_eq_zero (by omega)
    subst e
    rfl
  · rw [if_neg (by rw [decide_eq_false hl]; exact Bool.false_ne_true)]
    by_cases he : (occurrences (sg l) (sg [c]) 0 (sg l).length ((sg l).length + 1)).isEmpty = true
    · rw [if_pos he]
      have e := List.isEmpty_iff.mp he
      rw [e] at key
      rw [← key.2, partsBetween_eq, partsFrom, sub_sg, sg_len, List.drop_zero, Nat.sub_zero, List.take_length]
    · rw [if_neg he]
      exact key.2
/-- cut in two at the first c -/
def cut2 (c : Nat) : List Nat → Option (List Nat × List Nat)
  | [] => none
  | x :: r => if x = c then some ([], r) else (cut2 c r).map fun p => (x :: p.1, p.2)
theorem cut2_free {c : Nat} : ∀ {l : List Nat}, c ∉ l → cut2 c l = none
  | [], _ => rfl
  | x :: r, h => by
    rw [cut2, if_neg fun z => h (by rw [z]; exact List.mem_cons_self ..), cut2_free fun z => h (List.mem_cons_of_mem _ z)]
    rfl
theorem cut2_cut {c : Nat} {q : List Nat} : ∀ {p : List Nat}, c ∉ p → cut2 c (p ++ c :: q) = some (p, q)
  | [], _ => by
    show cut2 c (c :: q) = _
    rw [cut2, if_pos rfl]
  | x :: r, h => by
    show cut2 c (x :: (r ++ c :: q)) = _
    rw [cut2, if_neg fun z => h (by rw [z]; exact List.mem_cons_self ..), cut2_cut fun z => h (List.mem_cons_of_mem _ z)]
    rfl
theorem partition_sg (l : List Nat) (c : Nat) : Txt.partition (sg l) (sg [c]) = match cut2 c l with
    | some p => (sg p.1, sg [c], sg p.2)
    | none => (sg l, sg [], sg []) := by
  unfold Txt.partition
  rcases occ_head (sg l) (sg [c]) 1 (Nat.le_refl _) with ⟨e, hn⟩ | ⟨i, r, e, hi, hn⟩
  · rw [e, cut2_free fun hm => ?_]
    · rfl
    · obtain ⟨j, hj⟩ := List.getElem?_of_mem hm
      exact hn j ((at_one l c j).mpr hj)
  · have h1 := (at_one l c i).mp hi
    have hk := List.getElem?_eq_some_iff.mp h1
    have fr : c ∉ l.take i := by
      have := free_of (c := c) (l := l) (a := 0) (b := i) fun k _ k2 z => hn k k2 ((at_one l c k).mpr z)
      rw [List.drop_zero, Nat.sub_zero] at this
      exact this
    have cut : l = l.take i ++ c :: l.drop (i + 1) := by
      have e1 : l.drop i = c :: l.drop (i + 1) := by rw [List.drop_eq_getElem_cons hk.1, hk.2]
      rw [← e1, List.take_append_drop]
    have one : (sg [c]).length = 1 := sg_len _
    have e2 : cut2 c l = some (l.take i, l.drop (i + 1)) := (congrArg (cut2 c) cut).trans (cut2_cut fr)
    rw [e, one, e2]
    show (strSub (sg l) 0 i, sg [c], strSub (sg l) (i + 1) (sg l).length) = (sg (l.take i), sg [c], sg (l.drop (i + 1)))
    have e3 : (l.drop (i + 1)).take (l.length - (i + 1)) = l.drop (i + 1) := List.take_of_length_le (by rw [List.length_drop]; exact Nat.le_refl _)
    rw [sub_sg, sub_sg, sg_len, List.drop_zero, Nat.sub_zero, e3]
theorem cut2_some {c : Nat} : ∀ {l : List Nat} {p : List Nat × List Nat}, cut2 c l = some p → l = p.1 ++ c :: p.2 ∧ c ∉ p.1
  | [], _, h => by cases h
  | x :: r, p, h => by
    by_cases e : x = c
    · rw [cut2, if_pos e] at h
      cases h
      exact ⟨by rw [e]; rfl, by simp⟩
    · rw [cut2, if_neg e] at h
      obtain ⟨q, hq, rfl⟩ := Option.map_eq_some_iff.mp h
      obtain ⟨h1, h2⟩ := cut2_some hq
      refine ⟨by show x :: r = x :: (q.1 ++ c :: q.2); rw [← h1], fun z => ?_⟩
      rcases List.mem_cons.mp z with z | z
      · exact e z.symm
      · exact h2 z
theorem cut2_none {c : Nat} : ∀ {l : List Nat}, cut2 c l = none → c ∉ l
  | [], _ => by simp
  | x :: r, h => fun z => by
    by_cases e : x = c
    · rw [cut2, if_pos e] at h
      cases h
    · rw [cut2, if_neg e] at h
      rcases List.mem_cons.mp z with z | z
      · exact e z.symm
      · exact cut2_none (Option.map_eq_none_iff.mp h) z
/-! ### digits -/
def isD (c : Nat) : Bool := decide (48 ≤ c) && decide (c ≤ 57)
theorem uni_digit {c : Nat} (h : c < 128) : Unicode.isDigit c = isD c := by
  have k : ∀ n : _root_.Fin 128, Unicode.isDigit n.val = isD n.val := by decide +kernel
  exact k ⟨c, h⟩
theorem ascii_digits (l : List Nat) : (Txt.isascii (sg l) && Txt.isdigit (sg l)) = (decide (0 < l.length) && l.all isD) := by
  have e1 : Txt.isascii (sg l) = l.all (· < 128) := by
    unfold Txt.isascii
    show (l.toArray.all _) = _
    simp
  have e2 : Txt.isdigit (sg l) = (decide (0 < l.length) && l.all Unicode.isDigit) := by
    unfold Txt.isdigit
    rw [sg_len]
    show (_ && (l.toArray.all _)) = _
    simp
  rw [e1, e2]
  by_cases h : l.all (· < 128) = true
  · rw [h, Bool.true_and]
    congr 1
    rw [Bool.eq_iff_iff, List.all_eq_true, List.all_eq_true]
    have h' := List.all_eq_true.mp h
    exact ⟨fun z x hx => by rw [← uni_digit (of_decide_eq_true (h' x hx))]; exact z x hx, fun z x hx => by rw [uni_digit (of_decide_eq_true (h' x hx))]; exact z x hx⟩
  · rw [Bool.eq_false_iff.mpr h, Bool.false_and]
    symm
    rw [Bool.and_eq_false_iff]
    right
    refine Bool.eq_false_iff.mpr fun z => h (List.all_eq_true.mpr fun x hx => ?_)
    have := List.all_eq_true.mp z x hx
    unfold isD at this
    rw [Bool.and_eq_true] at this
    exact decide_eq_true (by have := of_decide_eq_true this.2; omega)
/-! ### a minus in front -/
/-! ### what a text says -/
def valL (l : List Nat) : Nat := l.foldl (fun n c => 10 * n + (c - 48)) 0
end Bo

namespace Bo
open PySem L2
noncomputable section
def body_is_number : VS :=
    (vSeq (vIfS (tNotF (tAndF (vTst (vM0 gIsascii (vVar 0))) (vTst (vM0 gIsdigit (vVar 0))))) (vRet (vC (.bool false))) vNext)
    (vRet (vAnd (vOp (gIB fun i j => decide (i ≤ j)) (vCall gLenS (vCons (vVar 0) vNil)) (vVar 1)) (vOr (vOp gEq (vVar 0) (vC (.str "0"))) (vOp gNe (vOp gIxS (vVar 0) (vC (.int 0))) (vC (.str "0")))))))
def den_is_number := denP 2 body_is_number
end
end Bo

namespace Bo
open PySem L2
noncomputable section
def body_are_ends : VS :=
    (vSeq (vIfS (tNotF (vTst (vChain (gIB fun i j => decide (i ≤ j)) (gIB fun i j => decide (i ≤ j)) (vC (.int 1)) (vCall gLen (vCons (vVar 1) vNil)) (vC (.int 6))))) (vRet (vC (.bool false))) vNext)
    (vSeq (vAsg (vUn gNeg (vC (.int 1))) (aName 2))
    (vSeq (vThen [2, 3, 4] (vFor (vIterT (vVar 1)) (aTup 2 (aCons (aName 3) (aCons (aName 4) aNil))) (vThen [3, 4] (vSeq (vIfS (tNotF (vTst (vChain (gIB fun i j => decide (i < j)) (gIB fun i j => decide (i < j)) (vVar 2) (vVar 3) (vVar 0)))) (vRet (vC (.bool false))) vNext)
    (vSeq (vIfS (tNotF (vTst (vChain (gIB fun i j => decide (i ≤ j)) (gIB fun i j => decide (i ≤ j)) (vC (.int 1)) (vVar 4) (vC (.int 1000))))) (vRet (vC (.bool false))) vNext)
    (vAsg (vVar 3) (aName 2)))))))
    (vRet (vC (.bool true))))))
def den_are_ends := denP 5 body_are_ends
def body_fault_in_state : VS :=
    (vSeq (vIfS (tNotF (vTst (vChain (gIB fun i j => decide (i ≤ j)) (gIB fun i j => decide (i ≤ j)) (vC (.int 1)) (vCall gLen (vCons (vVar 2) vNil)) (vC (.int 6))))) (vRet (vTup (vCons (vC (.str "choices")) (vCons (vVar 1) vNil)))) vNext)
    (vSeq (vThen [3, 4, 5] (vFor (vEnumK .T (vCons (vVar 2) vNil)) (aTup 2 (aCons (aName 3) (aCons (aTup 2 (aCons (aName 4) (aCons (aName 5) aNil))) aNil))) (vThen [3, 4, 5] (vSeq (vIfS (tNotF (vTst (vChain (gIB fun i j => decide (i ≤ j)) (gIB fun i j => decide (i ≤ j)) (vC (.int 0)) (vVar 4) (vC (.int 1000))))) (vRet (vTup (vCons (vC (.str "cost")) (vCons (vVar 1) (vCons (vVar 3) vNil))))) vNext)
    (vIfS (tNotF (vTst (vCallP 2 den_are_ends (vCons (vVar 0) (vCons (vVar 5) vNil))))) (vRet (vTup (vCons (vC (.str "ends")) (vCons (vVar 1) (vCons (vVar 3) vNil))))) vNext)))))
    (vRet (vC .none))))
def den_fault_in_state := denP 6 body_fault_in_state
def body_fault : VS :=
    (vSeq (vIfS (tNotF (vTst (vChain (gIB fun i j => decide (i ≤ j)) (gIB fun i j => decide (i ≤ j)) (vC (.int 1)) (vCall gLen (vCons (vVar 0) vNil)) (vC (.int 20))))) (vRet (vTup (vCons (vC (.str "states")) vNil))) vNext)
    (vSeq (vThen [1, 2, 3] (vFor (vEnumK .T (vCons (vVar 0) vNil)) (aTup 2 (aCons (aName 1) (aCons (aName 2) aNil))) (vThen [1, 2, 3] (vSeq (vAsg (vCallP 3 den_fault_in_state (vCons (vCall gLen (vCons (vVar 0) vNil)) (vCons (vVar 1) (vCons (vVar 2) vNil)))) (aName 3))
    (vIfS (vTst (vOp (fun d e => R.when (isNone e = true) (.ok (.bool (!isNone d)))) (vVar 3) (vC .none))) (vRet (vVar 3)) vNext)))))
    (vRet (vC .none))))
def den_fault := denP 4 body_fault
def body_parse_integer : VS :=
    (vSeq (vIfS (tNotF (vTst (vCallP 2 den_is_number (vCons (vVar 1) (vCons (vC (.int 4)) vNil))))) (vRaise "InvalidLine" (vCons (vVar 0) vNil)) vNext)
    (vRet (vCall gIntS (vCons (vVar 1) vNil))))
def den_parse_integer := denP 2 body_parse_integer
def body_parse_choice : VS :=
    (vSeq (vAsg (vM1 gSplit (vVar 1) (vC (.str " "))) (aName 2))
    (vSeq (vAsg (vCallX 2 den_parse_integer (vCons (vVar 0) (vCons (vOp gIxL (vVar 2) (vC (.int 0))) vNil))) (aName 3))
    (vSeq (vOwn 4 (vLstF vNil))
    (vSeq (vThen [5, 6, 7, 8] (vFor (vIter (vSl gSlL (vVar 2) (vPart (vC (.int 1))) vNoPart)) (aName 5) (vThen [5, 6, 7, 8] (vSeq (vAsg (vM1 gPartition (vVar 5) (vC (.str ":"))) (aTup 3 (aCons (aName 6) (aCons (aName 7) (aCons (aName 8) aNil)))))
    (vDrop (vApp 4 (vTup (vCons (vCallX 2 den_parse_integer (vCons (vVar 0) (vCons (vVar 6) vNil))) (vCons (vCallX 2 den_parse_integer (vCons (vVar 0) (vCons (vVar 8) vNil))) vNil)))))))))
    (vRet (vTup (vCons (vVar 3) (vCons (vTupleO 4) vNil))))))))
def den_parse_choice := denP 9 body_parse_choice
def body_parse_system : VS :=
    (vSeq (vPars 1 4 5 (vEnumK .L (vCons (vM1 gSplit (vVar 0) (vC (.str "\n"))) vNil)) den_parse_choice)
    (vSeq (vAsg (vCall gTuple (vCons (vFr (vLc [6] (vIter (vVar 1)) (aName 6) vYes (vCall gTuple (vCons (vVar 6) vNil)))) vNil)) (aName 2))
    (vSeq (vAsg (vCallP 1 den_fault (vCons (vVar 2) vNil)) (aName 3))
    (vSeq (vIfS (vTst (vOp (fun d e => R.when (isNone e = true) (.ok (.bool (!isNone d)))) (vVar 3) (vC .none))) (vRaise "InvalidSystem" (vCons (vVar 3) vNil)) vNext)
    (vRet (vVar 2))))))
def den_parse_system := denP 7 body_parse_system
def body_l_text : VS :=
    (vSeq (vOwn 1 (vLstF vNil))
    (vSeq (vThen [2, 3, 4, 5, 6, 7] (vFor (vIterT (vVar 0)) (aName 2) (vThen [2] (vSeq (vDrop (vApp 1 (vC (.str "state"))))
    (vPre [3, 4, 5, 6, 7] (vThen [3, 4, 5, 6, 7] (vFor (vIterT (vVar 2)) (aTup 2 (aCons (aName 3) (aCons (aName 4) aNil))) (vThen [3, 4, 5] (vSeq (vAsg (vCall gStrI (vCons (vVar 3) vNil)) (aName 5))
    (vSeq (vPre [2, 3, 6, 7] (vThen [6, 7] (vFor (vIterT (vVar 4)) (aTup 2 (aCons (aName 6) (aCons (aName 7) aNil))) (vThen [6, 7] (vAsg (vOp gCatS (vOp gCatS (vOp gCatS (vOp gCatS (vVar 5) (vC (.str " "))) (vCall gStrI (vCons (vVar 6) vNil))) (vC (.str ":"))) (vCall gStrI (vCons (vVar 7) vNil))) (aName 5))))))
    (vDrop (vApp 1 (vVar 5)))))))))))))
    (vRet (vJoinO (vC (.str "\n")) 1))))
def den_l_text := denP 8 body_l_text
end
end Bo

/-! ### walking defs that raise: loops, displays, calls within -/
namespace Bo
open PySem L2
section
variable {S : SS} {fa fb : VE} {fr : VA} {ff : VF} {fs fs' : VS} {ft : VT} {kE : PyData × SS → Prop} {kD : PyData → Prop} {kS : FL → Prop} {kA : List PyData × SS → Prop} {i m : Nat} {ds : List PyData} {ke : Exc → Prop}
theorem loop_ends {fg : PyData → SS → R SS} {fb : VS} {ds : List PyData} {k : FL → Prop} (I : Nat → SS → Prop)
    (step : ∀ i d S, ds[i]? = some d → I i S → (fg d S).okTo fun S1 => (fb S1).ends (fun fl => match fl with
      | .nx S2 => I (i + 1) S2
      | .ct S2 => I (i + 1) S2
      | .bk S2 => k (.nx S2)
      | .rt d S2 => k (.rt d S2)) ke)
    (done : ∀ S, I ds.length S → k (.nx S)) {S : SS} (h0 : I 0 S) : (loopF fg fb ds S).ends k ke := by
  have go : ∀ (m i : Nat) (S : SS), i + m = ds.length → I i S → (loopF fg fb (ds.drop i) S).ends k ke := by
    intro m
    induction m with
    | zero =>
      intro i S e h
      have e : i = ds.length := by omega
      subst e
      rw [List.drop_length]
      exact done S h
    | succ m ih =>
      intro i S e h
      have hl : i < ds.length := by omega
      rw [List.drop_eq_getElem_cons hl]
      unfold loopF
      refine endsBind.mpr (endsOk ((step i _ S (List.getElem?_eq_getElem hl) h).mono fun S1 h1 => endsBind.mpr (h1.mono (fun fl h2 => ?_) fun _ z => z)))
      cases fl with
      | nx S2 => exact ih (i + 1) S2 (by omega) h2
      | ct S2 => exact ih (i + 1) S2 (by omega) h2
      | bk S2 => exact h2
      | rt d S2 => exact h2
  exact go ds.length 0 S (by omega) h0
theorem e_for {fg : PyData → SS → R SS} (h : (ff S).okTo fun p => (loopF fg fs p.1 p.2).ends kS ke) : (vFor ff fg fs S).ends kS ke := by
  unfold vFor
  exact endsBind.mpr (endsOk h)
theorem e_then {vs : List Nat} (h : (fs S).ends (fun fl => kS (thenF vs fl)) ke) : (vThen vs fs S).ends kS ke := by
  unfold vThen
  exact endsBind.mpr (h.mono (fun fl q => q) fun _ z => z)
theorem e_app (h : (ownD S i).okTo fun _ => (fa S).ends (fun p => (ownD p.2 i).okTo fun ds => ds.length < 100000 ∧ kE (.none, p.2.set i (some (.own (ds ++ [p.1]))))) ke) : (vApp i fa S).ends kE ke := by
  unfold vApp
  exact endsBind.mpr (endsOk (h.mono fun _ h => endsBind.mpr (h.mono (fun p h => endsBind.mpr (endsOk (h.mono fun ds h => endsWhen (x := .ok _) h))) fun _ z => z)))
theorem e_tup (h : (fr S).ends (fun p => p.1.length ≤ 100000 ∧ kE (.tuple p.1, p.2)) ke) : (vTup fr S).ends kE ke := by
  unfold vTup
  exact endsBind.mpr (h.mono (fun p h => endsWhen (x := .ok _) h) fun _ z => z)
theorem e_cons (h : (fa S).ends (fun p => (fr p.2).ends (fun q => kA (p.1 :: q.1, q.2)) ke) ke) : (vCons fa fr S).ends kA ke := by
  unfold vCons
  exact endsBind.mpr (h.mono (fun p h => endsBind.mpr h) fun _ z => z)
theorem e_nil (h : kA ([], S)) : (vNil S).ends kA ke := h
end
end Bo

namespace Bo
open PySem L2
local macro_rules | `(tactic| walk_at "wv1") => `(tactic| (first
  | ((with_reducible refine w_var (d := ?wd) ?wh ?wq); (case wh => exact rfl))
  | with_reducible refine w_cons ?_
  | with_reducible refine w_nil ?_
  | with_reducible refine w_op ?_
  | with_reducible refine w_c ?_
  | with_reducible refine w_aName ?_
  | with_reducible refine w_seq ?_
  | with_reducible refine w_asg ?_
  | with_reducible refine w_toB ?_
  | with_reducible refine w_callP ?_
  | with_reducible refine w_tst ?_
  | with_reducible refine w_then ?_
  | with_reducible refine w_gIxT ?_
  | with_reducible refine w_call ?_
  | with_reducible refine w_ret ?_
  | with_reducible refine w_ifS ?_
  | with_reducible refine w_next ?_
  | ((with_reducible refine w_own (ds := ?wd) ?wh ?wq); (case wh => exact rfl))
  | with_reducible refine w_for ?_
  | with_reducible refine w_fr ?_
  | with_reducible refine w_lc ?_
  | with_reducible refine w_tup ?_
  | with_reducible refine w_iter ?_
  | with_reducible refine w_itFT ?_
  | with_reducible refine w_aCons ?_
  | with_reducible refine w_gIxL ?_
  | with_reducible refine w_tnot ?_
  | with_reducible refine w_pre ?_
  | ((with_reducible refine w_dic (kvs := ?wd) ?wh ?wq); (case wh => exact rfl))
  | with_reducible refine w_tor ?_
  | with_reducible refine w_range1 ?_
  | with_reducible refine w_yes ?_
  | with_reducible refine w_itTT ?_
  | with_reducible refine w_iterT ?_
  | with_reducible refine w_lst ?_
  | with_reducible refine w_toI ?_
  | with_reducible refine w_ownS ?_
  | with_reducible refine w_aTup rfl ?_
  | with_reducible refine w_aNil ?_
  | ((with_reducible refine w_frz (ds := ?wd) ?wh ?wq); (case wh => exact rfl))
  | with_reducible refine w_itT ?_
  | with_reducible refine w_callD ?_
  | with_reducible refine w_tand ?_
  | with_reducible refine w_gEqI ?_
  | with_reducible refine w_gNeI ?_
  | with_reducible refine w_gLenT ?_
  | with_reducible refine w_lstF ?_
  | with_reducible refine w_callB ?_
  | with_reducible refine w_app ?_
  | with_reducible refine w_setI ?_
  | with_reducible refine w_drop ?_
  | with_reducible refine w_gIB ?_
  | with_reducible refine w_gBools ?_
  | with_reducible refine w_and ?_
  | with_reducible refine w_isN ?_
  | with_reducible refine w_or ?_
  | with_reducible refine w_ixO ?_
  | with_reducible refine w_gI ?_
  | with_reducible refine w_gLenL ?_
  | with_reducible refine w_gTuple ?_
  | with_reducible refine w_gInts ?_
  | ((with_reducible refine w_newS (ns := ?wd) ?wh ?wq); (case wh => exact rfl))
  | with_reducible refine w_un ?_
  | with_reducible refine w_if ?_
  | with_reducible refine w_chain ?_
  | ((with_reducible refine w_callS (ns := ?wd) ?wh ?wq); (case wh => exact rfl))
  | with_reducible refine w_sl ?_
  | with_reducible refine w_noPart ?_
  | with_reducible refine w_part ?_
  | with_reducible refine w_listRg ?_
  | with_reducible refine w_enumK ?_
  | with_reducible refine w_repF ?_
  | with_reducible refine w_gIC ?_
  | with_reducible refine w_gCat ?_
  | with_reducible refine w_gCatT ?_
  | with_reducible refine w_notN ?_
  | with_reducible refine w_listF ?_
  | with_reducible refine w_neg ?_
  | with_reducible refine w_gIsB ?_
  | with_reducible refine w_not ?_
  | with_reducible refine w_tru ?_
  | with_reducible refine w_callL ?_
  | with_reducible refine w_consO ?_
  | with_reducible refine w_lenO ?_
  | with_reducible refine w_tupleO ?_
  | with_reducible refine w_listO ?_
  | with_reducible refine w_inO ?_
  | with_reducible refine w_truO ?_
  | with_reducible refine w_zipK ?_
  | with_reducible refine w_retN ?_
  | ((with_reducible refine w_aug (a := ?wd) ?wh ?wq); (case wh => exact rfl))
  | with_reducible refine w_gInL ?_
  | with_reducible refine w_gIntI ?_
  | with_reducible refine w_gRevL ?_
  | with_reducible refine w_gSlL ?_
  | with_reducible refine w_gSlT ?_
  | with_reducible refine w_itF ?_
  | with_reducible refine w_gList ?_
  | with_reducible refine w_gSortI ?_
  | with_reducible refine w_range2 ?_
  | ((with_reducible refine w_lcO (ds := ?wd) ?wh ?wq ?wr); (case wh => exact rfl); (case wq => exact rfl))
  | with_reducible refine w_aUnl rfl ?_
  | with_reducible refine w_brk ?_
  | with_reducible refine w_cnt ?_
  | with_reducible refine w_gIntB ?_
  | with_reducible refine w_getD ?_
  | with_reducible refine w_keyS ?_
  | with_reducible refine w_keyI ?_
  | with_reducible refine w_putD ?_
  | with_reducible refine w_ownCallD ?_
  | with_reducible refine w_callDF ?_
  | with_reducible refine w_gIxQL ?_
  | with_reducible refine w_gIxQT ?_
  | ((with_reducible refine w_revO (ds := ?wd) ?wh ?wq); (case wh => exact rfl))
  | ((with_reducible refine w_isNOd (d := ?wd) ?wh ?wq); (case wh => exact rfl))
  | ((with_reducible refine w_isNOo (ds := ?wd) ?wh ?wq); (case wh => exact rfl))
  | with_reducible refine w_toS ?_
  | with_reducible refine w_m0 ?_
  | with_reducible refine w_m1 ?_
  | with_reducible refine w_gIsdigit ?_
  | with_reducible refine w_gIsascii ?_
  | with_reducible refine w_gRemoveprefix ?_
  | with_reducible refine w_gPartition ?_
  | with_reducible refine w_gSplit ?_
  | with_reducible refine w_join ?_
  | with_reducible refine w_joinO ?_
  | with_reducible refine w_joinR ?_
  | with_reducible refine w_gInS ?_
  | with_reducible refine w_gIxS ?_
  | with_reducible refine w_gSlS ?_
  | with_reducible refine w_iterS ?_
  | with_reducible refine w_gRepS ?_
  | with_reducible refine w_gCatS ?_
  | with_reducible refine w_gLenS ?_
  | with_reducible refine w_gStrI ?_
  | with_reducible refine w_gIntS ?_
  | with_reducible refine w_fmt ?_
  | with_reducible refine w_toFmtS ?_
  | with_reducible refine w_toFmtI ?_
  | with_reducible refine w_joined ?_
  | with_reducible refine w_jsCons ?_
  | with_reducible refine w_jsNil ?_
  | with_reducible refine w_gMin2 ?_
  | with_reducible refine w_gEqS ?_
  | with_reducible refine w_gNeS ?_
  | simp only [wipeS, backS, List.set_cons_zero, List.set_cons_succ, List.getElem?_cons_zero, List.getElem?_cons_succ, Option.join_some, Option.join_none, Bool.not_true, Bool.not_false]))
local macro_rules | `(tactic| walk_at "wv") => `(tactic| ((repeat (walk_at "wv1"; try dsimp only)); try simp only [List.set_cons_zero, List.set_cons_succ]))
local macro_rules | `(tactic| walk_at "st") => `(tactic| simp only [startS, List.map_cons, List.map_nil, List.length_cons, List.length_nil, Nat.reduceAdd, Nat.reduceSub, List.replicate_succ, List.replicate_zero, List.cons_append, List.nil_append])

section
/-! ### written systems: what is read -/
open PySem L2 TL
theorem app_len (a b : Str) : (a ++ b).length = a.length + b.length := by
  show (a.cps ++ b.cps).size = a.cps.size + b.cps.size
  simp
theorem sg_app (a b : List Nat) : sg a ++ sg b = sg (a ++ b) := by
  show (⟨a.toArray ++ b.toArray⟩ : Str) = ⟨(a ++ b).toArray⟩
  simp
theorem sgi {a b : List Nat} : sg a = sg b ↔ a = b := ⟨fun h => by rw [← sg_list a, h, sg_list], fun h => by rw [h]⟩
theorem nought : Str.ofString "0" = sg [48] := by decide +kernel
/-- one to m figures, no nought in front -/
def dgB (m : Nat) (l : List Nat) : Bool := decide (1 ≤ l.length) && decide (l.length ≤ m) && l.all isD && (decide (l = [48]) || decide (l.head? ≠ some 48))
theorem dgB_yes {m : Nat} {l : List Nat} (h0 : (decide (0 < l.length) && l.all isD) = true) : dgB m l = (decide (l.length ≤ m) && (decide (l = [48]) || decide (l.head? ≠ some 48))) := by
  rw [Bool.and_eq_true] at h0
  have h1 := of_decide_eq_true h0.1
  unfold dgB
  rw [h0.2, decide_eq_true (show 1 ≤ l.length by omega), Bool.true_and, Bool.and_true]
theorem dgB_no {m : Nat} {l : List Nat} (h0 : (decide (0 < l.length) && l.all isD) = false) : dgB m l = false := by
  unfold dgB
  rw [Bool.and_eq_false_iff] at h0
  rcases h0 with h | h
  · have h1 := of_decide_eq_false h
    rw [decide_eq_false (show ¬ 1 ≤ l.length by omega), Bool.false_and, Bool.false_and, Bool.false_and]
  · rw [h, Bool.and_false, Bool.false_and]
theorem dgB_all {m : Nat} {l : List Nat} (h : dgB m l = true) : 1 ≤ l.length ∧ l.length ≤ m ∧ l.all isD = true ∧ (l = [48] ∨ l.head? ≠ some 48) := by
  unfold dgB at h
  rw [Bool.and_eq_true, Bool.and_eq_true, Bool.and_eq_true, Bool.or_eq_true] at h
  obtain ⟨⟨⟨h1, h2⟩, h3⟩, h4⟩ := h
  exact ⟨of_decide_eq_true h1, of_decide_eq_true h2, h3, h4.imp of_decide_eq_true of_decide_eq_true⟩
theorem atI_zero {α : Type} {c : α} {r : List α} : atI (c :: r) 0 = some c := by
  unfold atI ixN
  simp
theorem ixD_zero {d : PyData} {ds : List PyData} : ixD (d :: ds) 0 = .ok d := by
  unfold ixD
  rw [atI_zero]
theorem num_ok {m : Nat} {l : List Nat} {k : PyData → Prop} (hl : l.length ≤ 90000) (q : k (.bool (dgB m l))) : (den_is_number [.str (sg l), .int (m : Nat)]).okTo k := by
  unfold den_is_number body_is_number
  refine w_denP ?_
  walk_at "st"
  walk_at "wv"
  have ll : (sg l).length ≤ 100000 := by rw [sg_len]; omega
  have AD := ascii_digits l
  cases c1 : Txt.isascii (sg l) with
  | false =>
    rw [c1, Bool.false_and] at AD
    rw [dgB_no AD.symm] at q
    rw [if_neg Bool.false_ne_true, if_pos trivial]
    walk_at "wv"
    exact q
  | true =>
    rw [c1, Bool.true_and] at AD
    rw [if_pos rfl]
    walk_at "wv"
    cases c2 : Txt.isdigit (sg l) with
    | false =>
      rw [c2] at AD
      rw [dgB_no AD.symm] at q
      rw [if_pos (by rfl)]
      walk_at "wv"
      exact q
    | true =>
      rw [c2] at AD
      rw [dgB_yes AD.symm] at q
      rw [if_neg (by decide)]
      walk_at "wv"
      refine ⟨ll, ?_⟩
      walk_at "wv"
      rw [sg_len]
      by_cases c3 : ((l.length : Nat) : Int) ≤ (m : Nat)
      · rw [decide_eq_true (show l.length ≤ m by omega), Bool.true_and] at q
        rw [if_pos (decide_eq_true c3)]
        walk_at "wv"
        rw [nought]
        by_cases c4 : l = [48]
        · rw [if_pos (decide_eq_true (sgi.mpr c4))]
          rw [decide_eq_true c4, Bool.true_or] at q
          exact q
        · rw [if_neg (by rw [decide_eq_true_iff, sgi]; exact c4)]
          rw [decide_eq_false c4, Bool.false_or] at q
          walk_at "wv"
          refine ⟨ll, ?_⟩
          cases l with
          | nil => exact nomatch AD
          | cons c r =>
            rw [sg_list]
            refine ⟨c, atI_zero, ?_⟩
            walk_at "wv"
            rw [show (decide ((c :: r).head? ≠ some 48)) = !decide ((⟨#[c]⟩ : Str) = sg [48]) from ?_] at q
            · exact q
            · rw [List.head?_cons, Bool.eq_iff_iff]
              have z : ((⟨#[c]⟩ : Str) = sg [48]) ↔ c = 48 := by
                rw [show (⟨#[c]⟩ : Str) = sg [c] from rfl, sgi]
                simp
              simp [z]
      · rw [decide_eq_false (show ¬ l.length ≤ m by omega), Bool.false_and] at q
        rw [if_neg (by simpa using c3)]
        exact q
theorem val_fold (l : List Nat) : NumText.digitsVal l = valL l := by
  unfold NumText.digitsVal valL
  congr 1
  funext a c
  rw [Nat.mul_comm]
theorem dg_digits {m : Nat} {l : List Nat} (h : dgB m l = true) : NumText.AllDigits l := fun c hc => by
  have := List.all_eq_true.mp (dgB_all h).2.2.1 c hc
  unfold isD at this
  rw [Bool.and_eq_true, decide_eq_true_iff, decide_eq_true_iff] at this
  exact this
theorem dg_ne {m : Nat} {l : List Nat} (h : dgB m l = true) : l ≠ [] := fun e => by
  have := (dgB_all h).1
  rw [e] at this
  simp at this
theorem val_dg {m : Nat} {l : List Nat} (hm : m ≤ 640) (h : dgB m l = true) : PySem.intText? (sg l) = some ((valL l : Nat) : Int) := by
  have := PySem.intText_digits (x := sg l) (by rw [sg_list]; exact dg_digits h) (by rw [sg_list]; exact dg_ne h) (by rw [sg_len]; have := (dgB_all h).2.1; omega)
  rw [this, sg_list, val_fold]
/-- a whole number of at most four figures -/
def rdI (l : List Nat) : Option Int := if dgB 4 l = true then some ((valL l : Nat) : Int) else none
def inl_ (n : Int) : Exc := ⟨"InvalidLine", some (.int n)⟩
theorem int_ok {n : Int} {l : List Nat} (hl : l.length ≤ 90000) : (den_parse_integer [.int n, .str (sg l)]).ends (fun z => ∃ v, rdI l = some v ∧ z = .int v) (fun e => rdI l = none ∧ e = inl_ n) := by
  unfold den_parse_integer body_parse_integer
  refine e_denP ?_
  walk_at "st"
  refine e_seq (e_ifS ?_)
  walk_at "wv"
  refine ⟨rfl, num_ok (m := 4) hl ?_⟩
  walk_at "wv"
  unfold rdI
  cases c : dgB 4 l with
  | true =>
    rw [if_neg (by decide), if_pos rfl]
    refine endsOk ?_
    walk_at "wv"
    refine endsOk ?_
    walk_at "wv"
    refine ⟨_, val_dg (by decide) c, by rw [sg_len]; have := (dgB_all c).2.1; omega, ?_⟩
    walk_at "wv"
    exact ⟨_, rfl, rfl⟩
  | false =>
    rw [if_pos (by decide), if_neg Bool.false_ne_true]
    refine e_raise ?_
    walk_at "wv"
    exact ⟨_, rfl, by first | trivial | rfl, by first | trivial | rfl⟩
/-! a choice -/
def rdE (w : List Nat) : Option (Int × Int) := match cut2 58 w with
  | some p => (rdI p.1).bind fun a => (rdI p.2).map fun b => (a, b)
  | none => none
def rdEs : List (List Nat) → Option (List (Int × Int))
  | [] => some []
  | w :: ws => (rdE w).bind fun e => (rdEs ws).map (e :: ·)
def rdL (l : List Nat) : Option Cho := match splitL 32 l with
  | [] => none
  | w :: ws => (rdI w).bind fun c => (rdEs ws).map fun es => (c, es)
theorem rdEs_app : ∀ {ws vs : List (List Nat)}, rdEs (ws ++ vs) = (rdEs ws).bind fun es => (rdEs vs).map (es ++ ·)
  | [], vs => by
    show rdEs vs = (some []).bind _
    cases rdEs vs <;> rfl
  | w :: ws, vs => by
    show (rdE w).bind _ = _
    rw [show rdEs (w :: ws) = (rdE w).bind fun e => (rdEs ws).map (e :: ·) from rfl]
    cases rdE w with
    | none => rfl
    | some e =>
      show (rdEs (ws ++ vs)).map _ = _
      rw [rdEs_app]
      cases rdEs ws with
      | none => rfl
      | some es => cases rdEs vs <;> rfl
theorem rdEs_none {ws : List (List Nat)} {i : Nat} {w : List Nat} (h : ws[i]? = some w) (e : rdE w = none) : rdEs ws = none := by
  induction ws generalizing i with
  | nil => cases h
  | cons v r ih =>
    cases i with
    | zero =>
      have ev : v = w := Option.some.inj h
      show (rdE v).bind _ = none
      rw [ev, e]
      rfl
    | succ i =>
      show (rdE v).bind _ = none
      rw [ih (i := i) h]
      cases rdE v <;> rfl
theorem rdI_nil : rdI [] = none := rfl
theorem splitL_len {c : Nat} : ∀ {l : List Nat}, (splitL c l).length ≤ l.length + 1 ∧ ∀ p ∈ splitL c l, p.length ≤ l.length := by
  intro l
  induction hn : l.length using Nat.strongRecOn generalizing l with
  | ind n ih =>
    by_cases h : c ∈ l
    · cases e : cut2 c l with
      | none => exact absurd h (cut2_none e)
      | some p =>
        obtain ⟨e1, e2⟩ := cut2_some e
        have hl : l.length = p.1.length + (p.2.length + 1) := by
          have := congrArg List.length e1
          rw [List.length_append, List.length_cons] at this
          exact this
        obtain ⟨h1, h2⟩ := ih p.2.length (by omega) rfl
        rw [e1, splitL_cut e2]
        refine ⟨by rw [List.length_cons]; omega, fun q hq => ?_⟩
        rcases List.mem_cons.mp hq with rfl | hq
        · omega
        · have := h2 q hq
          omega
    · rw [splitL_free h]
      exact ⟨by simp, fun p hp => by rw [List.mem_singleton.mp hp]; omega⟩
theorem splitL_ne (c : Nat) (l : List Nat) : splitL c l ≠ [] := by
  by_cases h : c ∈ l
  · cases e : cut2 c l with
    | none => exact absurd h (cut2_none e)
    | some p =>
      obtain ⟨e1, e2⟩ := cut2_some e
      rw [e1, splitL_cut e2]
      simp
  · rw [splitL_free h]
    simp
theorem cut2_len {c : Nat} {l : List Nat} {p : List Nat × List Nat} (h : cut2 c l = some p) : p.1.length ≤ l.length ∧ p.2.length ≤ l.length := by
  have := (cut2_some h).1
  rw [this, List.length_append, List.length_cons]
  omega
theorem space_ : Str.ofString " " = sg [32] := by decide +kernel
theorem colon_ : Str.ofString ":" = sg [58] := by decide +kernel
theorem nl_ : Str.ofString "\n" = sg [10] := by decide +kernel
theorem cutD_one {d : PyData} {ds : List PyData} : cutD (d :: ds) (some 1) none = ds := by
  unfold cutD
  rw [show HT.sIx (d :: ds).length 0 (some 1) = 1 from by rw [show (1 : Int) = ((1 : Nat) : Int) from rfl, HT.sIx_nat]; simp, HT.sIx_none, List.length_cons, Nat.add_sub_cancel]
  show ds.take ds.length = ds
  exact List.take_length
theorem choice_ok {n : Int} {l : List Nat} (hl : l.length ≤ 80000) : (den_parse_choice [.int n, .str (sg l)]).ends (fun z => ∃ c, rdL l = some c ∧ z = dC c) (fun e => rdL l = none ∧ e = inl_ n) := by
  unfold den_parse_choice body_parse_choice
  refine e_denP ?_
  walk_at "st"
  have ll : (sg l).length ≤ 100000 := by rw [sg_len]; omega
  obtain ⟨p1, p2⟩ := splitL_len (c := 32) (l := l)
  have pn := splitL_ne 32 l
  generalize hps : splitL 32 l = ps at p1 p2 pn
  refine e_cut [some (.dat (.int n)), some (.dat (.str (sg l))), some (.dat (.list (ps.map fun p => .str (sg p)))), none, none, none, none, none, none] ?_ ?_
  · walk_at "wv"
    rw [space_]
    refine ⟨⟨by rw [sg_len]; rfl, ll⟩, ?_⟩
    rw [split_sg l (by decide), hps]
    walk_at "wv"
    rw [List.map_map]
    rfl
  cases ps with
  | nil => exact absurd rfl pn
  | cons w ws =>
    have rl : rdL l = (rdI w).bind fun c => (rdEs ws).map fun es => (c, es) := by
      unfold rdL
      rw [hps]
    have wl := p2 w List.mem_cons_self
    have p1' : ws.length ≤ l.length := by rw [List.length_cons] at p1; omega
    refine e_seq (e_asg (e_callX ?_))
    walk_at "wv"
    refine okTo_eq (a := .str (sg w)) (by rw [List.map_cons]; exact ixD_zero) ?_
    walk_at "wv"
    refine ⟨rfl, (int_ok (by omega)).mono ?_ ?_⟩
    · rintro z ⟨c, hc, rfl⟩
      walk_at "wv"
      refine e_cut [some (.dat (.int n)), some (.dat (.str (sg l))), some (.dat (.list ((w :: ws).map fun p => .str (sg p)))), some (.dat (.int c)), some (.own []), none, none, none, none] ?_ ?_
      · walk_at "wv"
        exact ⟨by simp, by first | trivial | rfl⟩
      refine e_seq (e_then (e_for ?_))
      walk_at "wv"
      refine ⟨ws.map fun p => .str (sg p), by rw [List.map_cons, cutD_one], ?_⟩
      refine loop_ends (fun t S => ∃ es : List (Int × Int), rdEs (ws.take t) = some es ∧ es.length = t ∧ S = [some (.dat (.int n)), some (.dat (.str (sg l))), some (.dat (.list ((w :: ws).map fun p => .str (sg p)))), some (.dat (.int c)), some (.own (es.map prD)), none, none, none, none]) ?_ ?_ ⟨[], rfl, rfl, rfl⟩
      · rintro t d S hd ⟨es, he, el, rfl⟩
        rw [List.getElem?_map] at hd
        obtain ⟨x, hx, rfl⟩ := Option.map_eq_some_iff.mp hd
        have xl := p2 x (List.mem_cons_of_mem _ (List.mem_of_getElem? hx))
        have tl : t < ws.length := (List.getElem?_eq_some_iff.mp hx).1
        have tk : ws.take (t + 1) = ws.take t ++ [x] := by rw [List.take_add_one, hx]; rfl
        walk_at "wv"
        refine e_then ?_
        -- state, _, weight
        obtain ⟨a, m, b, ep, er, la, lb⟩ : ∃ a m b : List Nat, Txt.partition (sg x) (sg [58]) = (sg a, sg m, sg b) ∧ rdE x = ((rdI a).bind fun u => (rdI b).map fun v => (u, v)) ∧ a.length ≤ x.length ∧ b.length ≤ x.length := by
          rw [partition_sg]
          unfold rdE
          cases e : cut2 58 x with
          | none =>
            refine ⟨x, [], [], rfl, ?_, Nat.le_refl _, by simp⟩
            rw [rdI_nil]
            cases rdI x <;> rfl
          | some p =>
            have := cut2_len e
            exact ⟨p.1, [58], p.2, rfl, rfl, this.1, this.2⟩
        refine e_seq (endsOk ?_)
        walk_at "wv"
        rw [colon_]
        refine ⟨⟨by rw [sg_len]; rfl, by rw [sg_len]; omega⟩, ?_⟩
        rw [ep]
        walk_at "wv"
        refine e_drop (e_app ?_)
        walk_at "wv"
        refine e_tup (e_cons (e_callX ?_))
        walk_at "wv"
        refine ⟨rfl, (int_ok (by omega)).mono ?_ ?_⟩
        · rintro z ⟨u, hu, rfl⟩
          refine e_cons (e_callX ?_)
          walk_at "wv"
          refine ⟨rfl, (int_ok (by omega)).mono ?_ ?_⟩
          · rintro z ⟨v, hv, rfl⟩
            refine e_nil ?_
            refine ⟨by simp, ?_⟩
            walk_at "wv"
            refine ⟨by rw [List.length_map]; omega, ?_⟩
            walk_at "wv"
            refine ⟨es ++ [(u, v)], ?_, by rw [List.length_append, el]; rfl, ?_⟩
            · rw [tk, rdEs_app, he]
              show (rdEs [x]).map _ = _
              show ((rdE x).bind _).map _ = _
              rw [er, hu]
              show ((((rdI b).map _).bind _).map _) = _
              rw [hv]
              rfl
            · show [_, _, _, _, _, _, _, _, _] = _
              rw [List.map_append]
              rfl
          · rintro e ⟨h1, rfl⟩
            refine ⟨?_, rfl⟩
            rw [rl, hc]
            show (rdEs ws).map _ = none
            rw [rdEs_none hx (by rw [er, hu]; show (rdI b).map _ = none; rw [h1]; rfl)]
            rfl
        · rintro e ⟨h1, rfl⟩
          refine ⟨?_, rfl⟩
          rw [rl, hc]
          show (rdEs ws).map _ = none
          rw [rdEs_none hx (by rw [er, h1]; rfl)]
          rfl
      · rintro S ⟨es, he, el, rfl⟩
        rw [List.length_map, List.take_length] at he
        refine endsOk ?_
        walk_at "wv"
        refine ⟨by simp, (c, es), ?_, rfl⟩
        rw [rl, hc]
        show (rdEs ws).map _ = _
        rw [he]
        rfl
    · rintro e ⟨h1, rfl⟩
      rw [rl, h1]
      exact ⟨rfl, rfl⟩
/-! the lines -/
def STATE : List Nat := [115, 116, 97, 116, 101]
theorem state_ : Str.ofString "state" = sg STATE := by decide +kernel
def addL (y : List (List Cho)) (c : Cho) : List (List Cho) := y.set (y.length - 1) (y.getD (y.length - 1) [] ++ [c])
/-- the number of the first line that can't be read, or the system -/
def rdP : Nat → List (List Nat) → List (List Cho) → Nat ⊕ List (List Cho)
  | _, [], y => .inr y
  | k, x :: r, y => if x = STATE then rdP (k + 1) r (y ++ [[]]) else if y = [] then .inl k else match rdL x with
    | none => .inl k
    | some c => rdP (k + 1) r (addL y c)
def lnD (k : Nat) (x : List Nat) : PyData := .tuple [.int (k : Nat), .str (sg x)]
def lnsD : Nat → List (List Nat) → List PyData
  | _, [] => []
  | k, x :: r => lnD k x :: lnsD (k + 1) r
theorem enum_lns : ∀ (ls : List (List Nat)) (k : Nat), ((ls.map fun x => PyData.str (sg x)).zipIdx k).map (fun p => PyData.tuple [.int (p.2 : Nat), p.1]) = lnsD k ls
  | [], _ => rfl
  | x :: r, k => by
    rw [List.map_cons, List.zipIdx_cons, List.map_cons, enum_lns r (k + 1)]
    rfl
theorem add_len {y : List (List Cho)} {c : Cho} : (addL y c).length = y.length := by
  unfold addL
  rw [List.length_set]
theorem add_map {y : List (List Cho)} {c : Cho} (h : y ≠ []) : lastAdd (y.map fun s => s.map dC) (dC c) = (addL y c).map fun s => s.map dC := by
  unfold lastAdd addL
  have hl : y.length - 1 < y.length := by
    have : y.length ≠ 0 := fun e => h (List.length_eq_zero_iff.mp e)
    omega
  rw [List.length_map, List.map_set, List.map_append]
  congr 1
  rw [List.getD_eq_getElem?_getD, List.getElem?_map, List.getD_eq_getElem?_getD, List.getElem?_eq_getElem hl]
  rfl
theorem pars_ok : ∀ (ls : List (List Nat)) (k : Nat) (y : List (List Cho)), (∀ x ∈ ls, x.length ≤ 80000) → y.length + ls.length ≤ 90000 → (∀ s ∈ y, s.length + ls.length ≤ 90000) →
    (parsD den_parse_choice (lnsD k ls) (y.map fun s => s.map dC)).ends (fun css => ∃ y', rdP k ls y = .inr y' ∧ css = y'.map fun s => s.map dC) (fun e => ∃ n : Nat, rdP k ls y = .inl n ∧ e = inl_ n)
  | [], k, y, _, _, _ => ⟨y, rfl, rfl⟩
  | x :: r, k, y, h1, h2, h3 => by
    rw [List.length_cons] at h2
    have h3' : ∀ s ∈ y, s.length + (r.length + 1) ≤ 90000 := fun s hs => by have := h3 s hs; rwa [List.length_cons] at this
    have h1r : ∀ z ∈ r, z.length ≤ 80000 := fun z hz => h1 z (List.mem_cons_of_mem _ hz)
    unfold lnsD lnD parsD rdP
    rw [state_]
    by_cases c : x = STATE
    · rw [if_pos (sgi.mpr c), if_pos c]
      have ih := pars_ok r (k + 1) (y ++ [[]]) h1r (by rw [List.length_append, List.length_singleton]; omega) fun s hs => by
        rcases List.mem_append.mp hs with q | q
        · have := h3' s q
          omega
        · rw [List.mem_singleton.mp q]
          show 0 + r.length ≤ 90000
          omega
      rw [List.map_append] at ih
      exact endsWhen ⟨by rw [List.length_map]; omega, ih⟩
    · rw [if_neg (fun z => c (sgi.mp z)), if_neg c]
      by_cases cy : y = []
      · rw [cy, if_pos (show List.map (fun s => List.map dC s) ([] : List (List Cho)) = [] from rfl), if_pos rfl]
        exact ⟨k, rfl, rfl⟩
      · rw [if_neg (by simpa using cy), if_neg cy]
        refine endsBind.mpr ((choice_ok (h1 x List.mem_cons_self)).mono ?_ ?_)
        · rintro z ⟨ch, hc, rfl⟩
          rw [hc, add_map cy]
          have hl : y.length - 1 < y.length := by
            have : y.length ≠ 0 := fun e => cy (List.length_eq_zero_iff.mp e)
            omega
          have gm : y.getD (y.length - 1) [] ∈ y := by
            rw [List.getD_eq_getElem?_getD, List.getElem?_eq_getElem hl]
            exact List.getElem_mem hl
          have gl := h3' _ gm
          refine endsWhen ⟨?_, pars_ok r (k + 1) (addL y ch) h1r (by rw [add_len]; omega) fun s hs => ?_⟩
          · rw [List.length_map, List.getD_eq_getElem?_getD, List.getElem?_map]
            rw [List.getD_eq_getElem?_getD, List.getElem?_eq_getElem hl] at gl
            rw [List.getElem?_eq_getElem hl]
            show (List.map dC _).length < 100000
            rw [List.length_map]
            have gl' : (y[y.length - 1]).length + (r.length + 1) ≤ 90000 := gl
            omega
          · unfold addL at hs
            rcases List.mem_or_eq_of_mem_set hs with q | q
            · have := h3' s q
              omega
            · rw [q, List.length_append, List.length_singleton]
              omega
        · rintro e ⟨hc, rfl⟩
          rw [hc]
          exact ⟨k, rfl, rfl⟩
/-! the fault of a system -/
def endsG (m : Int) : Int → List (Int × Int) → Bool
  | _, [] => true
  | b, e :: r => decide (b < e.1) && decide (e.1 < m) && decide (1 ≤ e.2) && decide (e.2 ≤ 1000) && endsG m e.1 r
def endsB (m : Int) (es : List (Int × Int)) : Bool := decide (1 ≤ es.length) && decide (es.length ≤ 6) && endsG m (-1) es
def fltC (m st : Int) : Nat → List Cho → PyData
  | _, [] => .none
  | k, c :: r => if (decide (0 ≤ c.1) && decide (c.1 ≤ 1000)) = true then if endsB m c.2 = true then fltC m st (k + 1) r else .tuple [.str (Str.ofString "ends"), .int st, .int (k : Nat)] else .tuple [.str (Str.ofString "cost"), .int st, .int (k : Nat)]
def fltS (m st : Int) (s : List Cho) : PyData := if (decide (1 ≤ s.length) && decide (s.length ≤ 6)) = true then fltC m st 0 s else .tuple [.str (Str.ofString "choices"), .int st]
def fltY (m : Int) : Nat → List (List Cho) → PyData
  | _, [] => .none
  | k, s :: r => match fltS m (k : Nat) s with
    | .none => fltY m (k + 1) r
    | d => d
def flt (y : List (List Cho)) : PyData := if (decide (1 ≤ y.length) && decide (y.length ≤ 20)) = true then fltY (y.length : Nat) 0 y else .tuple [.str (Str.ofString "states")]
/-- a <= x <= b, a < x < b, not -/
theorem not_le3 {S : SS} {fa fb fc : VE} {a x b : Int} (ha : (fa S).okTo fun p => p = (.int a, S)) (hb : (fb S).okTo fun p => p = (.int x, S)) (hc : (fc S).okTo fun p => p = (.int b, S)) :
    (tNotF (vTst (vChain (gIB fun i j => decide (i ≤ j)) (gIB fun i j => decide (i ≤ j)) fa fb fc)) S).okTo fun p => p = (!(decide (a ≤ x) && decide (x ≤ b)), S) := by
  refine w_tnot (w_tst (w_chain (R.okTo.mono ha fun p e => ?_)))
  subst e
  refine R.okTo.mono hb fun p e => ?_
  subst e
  walk_at "wv"
  by_cases c : a ≤ x
  · rw [if_pos (decide_eq_true c), decide_eq_true c, Bool.true_and]
    refine R.okTo.mono hc fun p e => ?_
    subst e
    walk_at "wv"
  · rw [if_neg (by simpa using c), decide_eq_false c]
    rfl
theorem not_lt3 {S : SS} {fa fb fc : VE} {a x b : Int} (ha : (fa S).okTo fun p => p = (.int a, S)) (hb : (fb S).okTo fun p => p = (.int x, S)) (hc : (fc S).okTo fun p => p = (.int b, S)) :
    (tNotF (vTst (vChain (gIB fun i j => decide (i < j)) (gIB fun i j => decide (i < j)) fa fb fc)) S).okTo fun p => p = (!(decide (a < x) && decide (x < b)), S) := by
  refine w_tnot (w_tst (w_chain (R.okTo.mono ha fun p e => ?_)))
  subst e
  refine R.okTo.mono hb fun p e => ?_
  subst e
  walk_at "wv"
  by_cases c : a < x
  · rw [if_pos (decide_eq_true c), decide_eq_true c, Bool.true_and]
    refine R.okTo.mono hc fun p e => ?_
    subst e
    walk_at "wv"
  · rw [if_neg (by simpa using c), decide_eq_false c]
    rfl
theorem ends_ok5 {m : Nat} {es : List (Int × Int)} {k : PyData → Prop} (q : k (.bool (endsB (m : Nat) es))) : (den_are_ends [.int (m : Nat), .tuple (es.map prD)]).okTo k := by
  unfold den_are_ends body_are_ends
  refine w_denP ?_
  walk_at "st"
  have c1 : ∀ S : SS, S = [some (.dat (.int (m : Nat))), some (.dat (.tuple (es.map prD))), none, none, none] → (vCall gLen (vCons (vVar 1) vNil) S).okTo fun p => p = (.int (es.length : Nat), S) := by
    rintro S rfl
    walk_at "wv"
    rw [List.length_map]
  refine w_seq (w_ifS (R.okTo.mono (not_le3 (a := 1) (b := 6) (by walk_at "wv") (c1 _ rfl) (by walk_at "wv")) fun p e => ?_))
  subst e
  dsimp only
  by_cases c : (decide (1 ≤ es.length) && decide (es.length ≤ 6)) = true
  · have c' : (decide ((1 : Int) ≤ (es.length : Nat)) && decide (((es.length : Nat) : Int) ≤ 6)) = true := by
      rw [Bool.and_eq_true, decide_eq_true_iff, decide_eq_true_iff] at c ⊢
      omega
    have eb : endsB (m : Nat) es = endsG (m : Nat) (-1) es := by
      unfold endsB
      rw [c, Bool.true_and]
    rw [eb] at q
    rw [c', if_neg (by decide)]
    walk_at "wv"
    refine okTo_eq (a := .int (-1)) rfl ?_
    walk_at "wv"
    refine ⟨_, rfl, ?_⟩
    refine loop_ok (fun t S => ∃ b : Int, endsG (m : Nat) (-1) es = endsG (m : Nat) b (es.drop t) ∧ S = [some (.dat (.int (m : Nat))), some (.dat (.tuple (es.map prD))), some (.dat (.int b)), none, none]) ?_ ?_ ⟨-1, rfl, rfl⟩
    · rintro t d S hd ⟨b, hb, rfl⟩
      rw [List.getElem?_map] at hd
      obtain ⟨e, he, rfl⟩ := Option.map_eq_some_iff.mp hd
      have hdr : es.drop t = e :: es.drop (t + 1) := by
        obtain ⟨hlt, z⟩ := List.getElem?_eq_some_iff.mp he
        rw [List.drop_eq_getElem_cons hlt, z]
      rw [hdr] at hb
      unfold prD
      refine w_aTup rfl (w_aCons (w_aName (w_aCons (w_aName (w_aNil ?_)))))
      refine w_then ?_
      refine w_seq (w_ifS (R.okTo.mono (not_lt3 (a := b) (x := e.1) (b := (m : Nat)) ?_ ?_ ?_) fun p z => ?_))
      · walk_at "wv"
      · walk_at "wv"
      · walk_at "wv"
      subst z
      dsimp only
      have hb' : endsG (m : Nat) (-1) es = (decide (b < e.1) && decide (e.1 < (m : Nat)) && decide (1 ≤ e.2) && decide (e.2 ≤ 1000) && endsG (m : Nat) e.1 (es.drop (t + 1))) := hb
      cases c1 : (decide (b < e.1) && decide (e.1 < (m : Nat))) with
      | false =>
        rw [if_pos (by decide)]
        rw [c1, Bool.false_and, Bool.false_and, Bool.false_and] at hb'
        walk_at "wv"
        rw [hb'] at q
        exact q
      | true =>
        rw [if_neg (by decide)]
        rw [c1, Bool.true_and] at hb'
        refine w_next ?_
        dsimp only
        refine w_seq (w_ifS (R.okTo.mono (not_le3 (a := 1) (x := e.2) (b := 1000) ?_ ?_ ?_) fun p z => ?_))
        · walk_at "wv"
        · walk_at "wv"
        · walk_at "wv"
        subst z
        dsimp only
        cases c2 : (decide (1 ≤ e.2) && decide (e.2 ≤ 1000)) with
        | false =>
          rw [if_pos (by decide)]
          rw [c2, Bool.false_and] at hb'
          walk_at "wv"
          rw [hb'] at q
          exact q
        | true =>
          rw [if_neg (by decide)]
          rw [c2, Bool.true_and] at hb'
          walk_at "wv"
          exact ⟨e.1, hb', rfl⟩
    · rintro S ⟨b, hb, rfl⟩
      rw [List.length_map, List.drop_length] at hb
      walk_at "wv"
      rw [hb] at q
      exact q
  · have c' : (decide ((1 : Int) ≤ (es.length : Nat)) && decide (((es.length : Nat) : Int) ≤ 6)) = false := by
      rw [Bool.and_eq_true, decide_eq_true_iff, decide_eq_true_iff] at c
      refine Bool.eq_false_iff.mpr fun z => c ?_
      rw [Bool.and_eq_true, decide_eq_true_iff, decide_eq_true_iff] at z
      omega
    have eb : endsB (m : Nat) es = false := by
      unfold endsB
      rw [Bool.eq_false_iff.mpr c, Bool.false_and]
    rw [c', if_pos (by decide)]
    walk_at "wv"
    rw [eb] at q
    exact q
theorem enumD_map {α : Type} (f : α → PyData) : ∀ (l : List α) (k : Nat) (t : Nat) (d : PyData), ((l.map f).zipIdx k |>.map fun p => PyData.tuple [.int (p.2 : Nat), p.1])[t]? = some d → ∃ x, l[t]? = some x ∧ d = .tuple [.int ((k + t : Nat) : Int), f x] := by
  intro l
  induction l with
  | nil => intro k t d h; cases h
  | cons x r ih =>
    intro k t d h
    rw [List.map_cons, List.zipIdx_cons, List.map_cons] at h
    cases t with
    | zero =>
      have e := (Option.some.inj h).symm
      exact ⟨x, rfl, e⟩
    | succ t =>
      obtain ⟨y, h1, h2⟩ := ih (k + 1) t d h
      exact ⟨y, h1, by rw [h2]; congr 4; omega⟩
theorem fst_ok {m st : Int} {mN : Nat} (hm : m = (mN : Nat)) {s : List Cho} {k : PyData → Prop} (q : k (fltS m st s)) : (den_fault_in_state [.int m, .int st, dS s]).okTo k := by
  subst hm
  unfold den_fault_in_state body_fault_in_state
  refine w_denP ?_
  walk_at "st"
  have c1 : ∀ S : SS, S = [some (.dat (.int (mN : Nat))), some (.dat (.int st)), some (.dat (dS s)), none, none, none] → (vCall gLen (vCons (vVar 2) vNil) S).okTo fun p => p = (.int (s.length : Nat), S) := by
    rintro S rfl
    unfold dS
    walk_at "wv"
    rw [List.length_map]
  refine w_seq (w_ifS (R.okTo.mono (not_le3 (a := 1) (b := 6) (by walk_at "wv") (c1 _ rfl) (by walk_at "wv")) fun p e => ?_))
  subst e
  dsimp only
  have ce : (decide ((1 : Int) ≤ (s.length : Nat)) && decide (((s.length : Nat) : Int) ≤ 6)) = (decide (1 ≤ s.length) && decide (s.length ≤ 6)) := by
    rw [Bool.eq_iff_iff, Bool.and_eq_true, Bool.and_eq_true, decide_eq_true_iff, decide_eq_true_iff, decide_eq_true_iff, decide_eq_true_iff]
    omega
  rw [ce]
  unfold fltS at q
  cases c : (decide (1 ≤ s.length) && decide (s.length ≤ 6)) with
  | false =>
    rw [if_pos (by decide)]
    rw [c, if_neg Bool.false_ne_true] at q
    walk_at "wv"
    exact ⟨by simp, q⟩
  | true =>
    rw [if_neg (by decide)]
    rw [c, if_pos rfl] at q
    walk_at "wv"
    refine ⟨dS s, s.map dC, rfl, rfl, ?_⟩
    refine loop_ok (fun t S => fltC (mN : Nat) st 0 s = fltC (mN : Nat) st t (s.drop t) ∧ S = [some (.dat (.int (mN : Nat))), some (.dat (.int st)), some (.dat (dS s)), none, none, none]) ?_ ?_ ⟨rfl, rfl⟩
    · rintro t d S hd ⟨hb, rfl⟩
      obtain ⟨x, hx, rfl⟩ := enumD_map dC s 0 t d hd
      rw [Nat.zero_add]
      have hdr : s.drop t = x :: s.drop (t + 1) := by
        obtain ⟨hlt, z⟩ := List.getElem?_eq_some_iff.mp hx
        rw [List.drop_eq_getElem_cons hlt, z]
      rw [hdr] at hb
      have hb' : fltC (mN : Nat) st 0 s = if (decide (0 ≤ x.1) && decide (x.1 ≤ 1000)) = true then if endsB (mN : Nat) x.2 = true then fltC (mN : Nat) st (t + 1) (s.drop (t + 1)) else .tuple [.str (Str.ofString "ends"), .int st, .int (t : Nat)] else .tuple [.str (Str.ofString "cost"), .int st, .int (t : Nat)] := hb
      unfold dC
      refine w_aTup rfl (w_aCons (w_aName (w_aCons (w_aTup rfl (w_aCons (w_aName (w_aCons (w_aName (w_aNil (w_aNil ?_)))))))))) 
      refine w_then ?_
      refine w_seq (w_ifS (R.okTo.mono (not_le3 (a := 0) (x := x.1) (b := 1000) ?_ ?_ ?_) fun p z => ?_))
      · walk_at "wv"
      · walk_at "wv"
      · walk_at "wv"
      subst z
      dsimp only
      cases c2 : (decide (0 ≤ x.1) && decide (x.1 ≤ 1000)) with
      | false =>
        rw [if_pos (by decide)]
        rw [c2, if_neg Bool.false_ne_true] at hb'
        walk_at "wv"
        rw [hb'] at q
        exact ⟨by simp, q⟩
      | true =>
        rw [if_neg (by decide)]
        rw [c2, if_pos rfl] at hb'
        walk_at "wv"
        refine ⟨rfl, ends_ok5 ?_⟩
        walk_at "wv"
        cases c3 : endsB (mN : Nat) x.2 with
        | false =>
          rw [if_pos (by decide)]
          rw [c3, if_neg Bool.false_ne_true] at hb'
          walk_at "wv"
          rw [hb'] at q
          exact ⟨by simp, q⟩
        | true =>
          rw [if_neg (by decide)]
          rw [c3, if_pos rfl] at hb'
          walk_at "wv"
          exact ⟨hb', by first | trivial | rfl⟩
    · rintro S ⟨hb, rfl⟩
      rw [enumD_len, List.length_map, List.drop_length] at hb
      walk_at "wv"
      rw [hb] at q
      exact q
theorem fltS_form (m st : Int) (s : List Cho) : fltS m st s = .none ∨ isNone (fltS m st s) = false := by
  have go : ∀ (l : List Cho) (k : Nat), fltC m st k l = .none ∨ isNone (fltC m st k l) = false := by
    intro l
    induction l with
    | nil => intro k; exact .inl rfl
    | cons c r ih =>
      intro k
      unfold fltC
      split
      · split
        · exact ih (k + 1)
        · exact .inr rfl
      · exact .inr rfl
  unfold fltS
  split
  · exact go s 0
  · exact .inr rfl
theorem fltY_cons {m : Int} {k : Nat} {s : List Cho} {r : List (List Cho)} : fltY m k (s :: r) = if isNone (fltS m (k : Nat) s) = true then fltY m (k + 1) r else fltS m (k : Nat) s := by
  show (match fltS m (k : Nat) s with
    | .none => fltY m (k + 1) r
    | d => d) = _
  rcases fltS_form m (k : Nat) s with h | h
  · rw [h]
    rfl
  · rw [h, if_neg Bool.false_ne_true]
    cases e : fltS m (k : Nat) s <;> first | rfl | (rw [e] at h; cases h)
theorem fault_ok {y : List (List Cho)} {k : PyData → Prop} (q : k (flt y)) : (den_fault [dY y]).okTo k := by
  unfold den_fault body_fault
  refine w_denP ?_
  walk_at "st"
  have c1 : ∀ S : SS, S = [some (.dat (dY y)), none, none, none] → (vCall gLen (vCons (vVar 0) vNil) S).okTo fun p => p = (.int (y.length : Nat), S) := by
    rintro S rfl
    unfold dY
    walk_at "wv"
    rw [List.length_map]
  refine w_seq (w_ifS (R.okTo.mono (not_le3 (a := 1) (b := 20) (by walk_at "wv") (c1 _ rfl) (by walk_at "wv")) fun p e => ?_))
  subst e
  dsimp only
  have ce : (decide ((1 : Int) ≤ (y.length : Nat)) && decide (((y.length : Nat) : Int) ≤ 20)) = (decide (1 ≤ y.length) && decide (y.length ≤ 20)) := by
    rw [Bool.eq_iff_iff, Bool.and_eq_true, Bool.and_eq_true, decide_eq_true_iff, decide_eq_true_iff, decide_eq_true_iff, decide_eq_true_iff]
    omega
  rw [ce]
  unfold flt at q
  cases c : (decide (1 ≤ y.length) && decide (y.length ≤ 20)) with
  | false =>
    rw [if_pos (by decide)]
    rw [c, if_neg Bool.false_ne_true] at q
    walk_at "wv"
    exact ⟨by simp, q⟩
  | true =>
    rw [if_neg (by decide)]
    rw [c, if_pos rfl] at q
    walk_at "wv"
    refine ⟨dY y, y.map dS, rfl, rfl, ?_⟩
    refine loop_ok (fun t S => fltY (y.length : Nat) 0 y = fltY (y.length : Nat) t (y.drop t) ∧ S = [some (.dat (dY y)), none, none, none]) ?_ ?_ ⟨rfl, rfl⟩
    · rintro t d S hd ⟨hb, rfl⟩
      obtain ⟨x, hx, rfl⟩ := enumD_map dS y 0 t d hd
      rw [Nat.zero_add]
      have hdr : y.drop t = x :: y.drop (t + 1) := by
        obtain ⟨hlt, z⟩ := List.getElem?_eq_some_iff.mp hx
        rw [List.drop_eq_getElem_cons hlt, z]
      rw [hdr, fltY_cons] at hb
      have gl : gLen [dY y] = .ok (.int (y.length : Nat)) := by
        unfold dY gLen
        simp
      walk_at "wv"
      refine okTo_eq gl ?_
      walk_at "wv"
      refine ⟨rfl, fst_ok rfl ?_⟩
      walk_at "wv"
      rcases fltS_form (y.length : Nat) (t : Nat) x with h | h
      · rw [h] at hb ⊢
        rw [show isNone PyData.none = true from rfl, if_pos rfl] at hb
        rw [if_neg (by decide)]
        walk_at "wv"
        exact ⟨hb, by first | trivial | rfl⟩
      · rw [h, if_neg Bool.false_ne_true] at hb
        rw [h, if_pos (by decide)]
        walk_at "wv"
        rw [hb] at q
        exact q
    · rintro S ⟨hb, rfl⟩
      rw [enumD_len, List.length_map, List.drop_length] at hb
      walk_at "wv"
      rw [hb] at q
      exact q

end
section
/-! ### written systems: a text read -/
open PySem L2 TL
theorem rdP_len : ∀ {ls : List (List Nat)} {k : Nat} {y y' : List (List Cho)}, rdP k ls y = .inr y' → y'.length ≤ y.length + ls.length
  | [], k, y, y', h => by
    unfold rdP at h
    injection h with h
    rw [h]
    omega
  | x :: r, k, y, y', h => by
    unfold rdP at h
    rw [List.length_cons]
    split at h
    · have := rdP_len h
      rw [List.length_append, List.length_singleton] at this
      omega
    · split at h
      · cases h
      · split at h
        · cases h
        · have := rdP_len h
          rw [add_len] at this
          omega
theorem sys_ok {l : List Nat} (hl : l.length ≤ 80000) : (den_parse_system [.str (sg l)]).ends (fun z => ∃ y, rdP 0 (splitL 10 l) [] = .inr y ∧ flt y = .none ∧ z = dY y) (fun e => (∃ n : Nat, rdP 0 (splitL 10 l) [] = .inl n ∧ e = inl_ n) ∨ ∃ y, rdP 0 (splitL 10 l) [] = .inr y ∧ flt y ≠ .none ∧ e = ⟨"InvalidSystem", some (flt y)⟩) := by
  unfold den_parse_system body_parse_system
  refine e_denP ?_
  walk_at "st"
  have ll : (sg l).length ≤ 100000 := by rw [sg_len]; omega
  obtain ⟨p1, p2⟩ := splitL_len (c := 10) (l := l)
  generalize hps : splitL 10 l = ps at p1 p2
  refine e_seq ?_
  unfold vPars
  refine endsWhen ⟨⟨rfl, by simp, by simp, by simp⟩, ?_⟩
  refine endsBind.mpr (endsOk ?_)
  walk_at "wv"
  rw [nl_]
  refine ⟨⟨by rw [sg_len]; rfl, ll⟩, ?_⟩
  rw [split_sg l (by decide), hps]
  walk_at "wv"
  rw [show List.map PyData.str (List.map sg ps) = ps.map fun p => PyData.str (sg p) from by rw [List.map_map]; rfl]
  refine ⟨_, _, rfl, rfl, ?_⟩
  refine endsWhen ⟨rfl, ?_⟩
  rw [show enumD (ps.map fun p => PyData.str (sg p)) = lnsD 0 ps from enum_lns ps 0]
  refine endsBind.mpr ((pars_ok ps 0 [] (fun x hx => by have := p2 x hx; omega) (by show 0 + ps.length ≤ 90000; omega) (fun s hs => nomatch hs)).mono ?_ ?_)
  · rintro css ⟨y, hy, rfl⟩
    refine e_cut [some (.dat (.str (sg l))), some (.dat (.list ((y.map fun s => s.map dC).map PyData.list))), some (.dat (dY y)), none, none, none, none] ?_ ?_
    · walk_at "wv"
      refine ⟨_, rfl, ?_⟩
      refine ⟨⟨rfl, by rw [List.length_map, List.length_map]; have := rdP_len hy; rw [List.length_nil] at this; omega⟩, ?_⟩
      refine lc_ok (fun p acc Z => acc = (y.take p).map dS ∧ Z = [some (.dat (.str (sg l))), some (.dat (.list ((y.map fun s => s.map dC).map PyData.list))), none, none, none, none, none]) ?_ ?_ ⟨rfl, rfl⟩
      · rintro t d acc Z hd ⟨rfl, rfl⟩
        rw [List.map_map, List.getElem?_map] at hd
        obtain ⟨x, hx, rfl⟩ := Option.map_eq_some_iff.mp hd
        walk_at "wv"
        refine okTo_eq (a := dS x) rfl ?_
        walk_at "wv"
        refine ⟨?_, by first | trivial | rfl⟩
        rw [List.take_add_one, hx, List.map_append]
        rfl
      · rintro acc Z ⟨rfl, rfl⟩
        walk_at "wv"
        rw [List.length_map, List.length_map, List.take_length]
        rfl
    · refine e_seq (endsOk ?_)
      walk_at "wv"
      refine ⟨rfl, fault_ok ?_⟩
      walk_at "wv"
      refine e_seq (e_ifS ?_)
      walk_at "wv"
      by_cases h : isNone (flt y) = true
      · have hn : flt y = .none := by cases e : flt y <;> first | rfl | (rw [e] at h; cases h)
        rw [if_neg (by rw [h]; decide)]
        refine endsOk ?_
        walk_at "wv"
        refine endsOk ?_
        walk_at "wv"
        exact ⟨y, hy, hn, rfl⟩
      · rw [if_pos (by rw [Bool.eq_false_iff.mpr h]; rfl)]
        refine e_raise ?_
        walk_at "wv"
        exact ⟨_, rfl, .inr ⟨y, hy, fun z => h (by rw [z]; rfl), rfl⟩⟩
  · rintro e ⟨n, h, rfl⟩
    exact .inl ⟨n, h, rfl⟩

end
section
/-! ### written systems: a text written -/
open PySem L2 TL
def numI (z : Int) : List Nat := numL z.toNat
def endW (e : Int × Int) : List Nat := numI e.1 ++ 58 :: numI e.2
def lineC (c : Cho) : List Nat := numI c.1 ++ c.2.flatMap fun e => 32 :: endW e
def lines (y : List (List Cho)) : List (List Nat) := y.flatMap fun s => STATE :: s.map lineC
def txt (y : List (List Cho)) : List Nat := joinL [10] (lines y)
theorem str_num {z : Int} (h : 0 ≤ z) : (toString z : String) = toString ((z.toNat : Nat) : Int) := by rw [Int.toNat_of_nonneg h]
theorem text_num {z : Int} (h : 0 ≤ z) : Str.ofString (toString z) = sg (numI z) := by
  rw [str_num h, ← sg_of (Str.ofString _)]
  exact congrArg sg (tl_num z.toNat)
structure Num (z : Int) : Prop where
  lo : 0 ≤ z
  hi : z ≤ 1000
theorem Num.len {z : Int} (h : Num z) : (numI z).length ≤ 4 := numL_len (by decide) (by have := h.hi; omega)
theorem Num.small {z : Int} (h : Num z) : z.natAbs < 2 ^ 1900 := Nat.lt_of_lt_of_le (show z.natAbs < 2 ^ 10 from by have := h.lo; have := h.hi; omega) (Nat.pow_le_pow_right (by decide) (by decide))
structure EndN (e : Int × Int) : Prop where
  g : Num e.1
  w : Num e.2
theorem endW_len {e : Int × Int} (h : EndN e) : (endW e).length ≤ 9 := by
  have := h.g.len
  have := h.w.len
  unfold endW
  rw [List.length_append, List.length_cons]
  omega
theorem join_flat {c : Nat} : ∀ (a : List Nat) (ws : List (List Nat)), joinL [c] (a :: ws) = a ++ ws.flatMap fun w => c :: w
  | a, [] => by show a = a ++ []; rw [List.append_nil]
  | a, w :: ws => by
    show a ++ ([c] ++ joinL [c] (w :: ws)) = _
    rw [join_flat w ws]
    rfl
structure ChoN (c : Cho) : Prop where
  cost : Num c.1
  ends : ∀ e ∈ c.2, EndN e
  len : c.2.length ≤ 6
theorem lineC_join (c : Cho) : lineC c = joinL [32] (numI c.1 :: c.2.map endW) := by
  rw [join_flat, List.flatMap_map]
  rfl
structure SysN (y : List (List Cho)) : Prop where
  ne : 1 ≤ y.length
  len : y.length ≤ 20
  st : ∀ s ∈ y, 1 ≤ s.length ∧ s.length ≤ 6
  cho : ∀ s ∈ y, ∀ c ∈ s, ChoOk y.length 6 c
theorem SysN.num {y : List (List Cho)} (h : SysN y) : ∀ s ∈ y, ∀ c ∈ s, ChoN c := fun s hs c hc => by
  have q := h.cho s hs c hc
  refine ⟨⟨q.cost.1, q.cost.2⟩, fun e he => ?_, q.len⟩
  have := q.ends e he
  have := h.len
  exact ⟨⟨by omega, by omega⟩, ⟨by omega, by omega⟩⟩
def wD (x : List Nat) : PyData := .str (sg x)
theorem strs_wD : ∀ xs : List (List Nat), strsD (xs.map wD) = some (xs.map sg)
  | [] => rfl
  | x :: r => by
    show (strsD (r.map wD)).map _ = _
    rw [strs_wD r]
    rfl
theorem join_sg (S : List Nat) (xs : List (List Nat)) : Txt.join (sg S) (xs.map sg) = sg (joinL S xs) := by
  refine ext_tl ?_
  rw [join_eq, tl_join, List.map_map]
  have e : (tl ∘ sg) = id := funext fun x => sg_list x
  rw [e, List.map_id]
  show joinL (tl (sg S)) xs = tl (sg _)
  rw [show tl (sg S) = S from sg_list S, show tl (sg (joinL S xs)) = joinL S xs from sg_list _]
theorem sum_len {c : Nat} : ∀ {ps : List (List Nat)}, (joinL [c] ps).length ≤ (ps.map fun p => p.length + 1).sum
  | [] => Nat.zero_le _
  | [p] => by
    show p.length ≤ p.length + 1 + 0
    omega
  | p :: q :: r => by
    have ih := sum_len (c := c) (ps := q :: r)
    show (p ++ ([c] ++ joinL [c] (q :: r))).length ≤ p.length + 1 + ((q :: r).map fun p => p.length + 1).sum
    rw [List.length_append, List.length_append, List.length_singleton]
    omega
theorem sum_le {b : Nat} : ∀ {ps : List (List Nat)}, (∀ p ∈ ps, p.length ≤ b) → (ps.map fun p => p.length + 1).sum ≤ ps.length * (b + 1)
  | [], _ => by simp
  | p :: ps, h => by
    have ih := sum_le (b := b) fun x hx => h x (List.mem_cons_of_mem _ hx)
    have := h p List.mem_cons_self
    rw [List.map_cons, List.sum_cons, List.length_cons, Nat.succ_mul]
    omega
theorem lineC_len {c : Cho} (h : ChoN c) : (lineC c).length ≤ 100 := by
  rw [lineC_join]
  refine Nat.le_trans sum_len (Nat.le_trans (sum_le (b := 9) fun p hp => ?_) ?_)
  · rcases List.mem_cons.mp hp with rfl | hp
    · have := h.cost.len
      omega
    · obtain ⟨e, he, rfl⟩ := List.mem_map.mp hp
      exact endW_len (h.ends e he)
  · have := h.len
    rw [List.length_cons, List.length_map]
    omega
theorem lines_len {y : List (List Cho)} (h : SysN y) : (lines y).length ≤ 140 := by
  have go : ∀ ss : List (List Cho), (∀ s ∈ ss, s.length ≤ 6) → (lines ss).length ≤ 7 * ss.length := by
    intro ss
    induction ss with
    | nil => intro _; exact Nat.zero_le _
    | cons s r ih =>
      intro q
      have := ih fun x hx => q x (List.mem_cons_of_mem _ hx)
      have := q s List.mem_cons_self
      show (STATE :: s.map lineC ++ lines r).length ≤ _
      rw [List.length_append, List.length_cons, List.length_map, List.length_cons]
      omega
  have := go y fun s hs => (h.st s hs).2
  have := h.len
  omega
theorem lines_sum {y : List (List Cho)} (h : SysN y) : ((lines y).map fun p => p.length + 1).sum ≤ 20000 := by
  refine Nat.le_trans (sum_le (b := 100) fun p hp => ?_) ?_
  · obtain ⟨s, hs, hp⟩ := List.mem_flatMap.mp hp
    rcases List.mem_cons.mp hp with rfl | hp
    · decide
    · obtain ⟨c, hc, rfl⟩ := List.mem_map.mp hp
      exact lineC_len (h.num s hs c hc)
  · have := lines_len h
    omega
theorem sum_sg {c : Nat} : ∀ xs : List (List Nat), ((xs.map sg).map (·.length)).sum + (xs.map sg).length * (sg [c]).length = (xs.map fun p => p.length + 1).sum
  | [] => by simp
  | x :: r => by
    have ih := sum_sg (c := c) r
    rw [sg_len, List.length_singleton, Nat.mul_one] at ih ⊢
    rw [List.map_cons, List.map_cons, List.sum_cons, List.length_cons, List.map_cons, List.sum_cons, sg_len, ← ih]
    omega
theorem joinW {c : Nat} {xs : List (List Nat)} {k : PyData → Prop} (hb : (xs.map fun p => p.length + 1).sum ≤ 100000) (q : k (.str (sg (joinL [c] xs)))) : (joinD (sg [c]) (xs.map wD)).okTo k := by
  unfold joinD
  rw [strs_wD]
  refine okTo_when.mpr ⟨?_, ?_⟩
  · rw [sum_sg]
    exact hb
  · rw [join_sg]
    exact q
theorem lines_take {y : List (List Cho)} {t : Nat} {s : List Cho} (h : y[t]? = some s) : lines (y.take (t + 1)) = lines (y.take t) ++ STATE :: s.map lineC := by
  rw [List.take_add_one, h]
  unfold lines
  rw [List.flatMap_append]
  show _ ++ ([s].flatMap _) = _
  rw [List.flatMap_singleton]
theorem lines_pre {y : List (List Cho)} (t : Nat) : (lines (y.take t)).length ≤ (lines y).length := by
  have e : lines y = lines (y.take t) ++ lines (y.drop t) := by
    unfold lines
    rw [← List.flatMap_append, List.take_append_drop]
  rw [e, List.length_append]
  omega
theorem lines_at {y : List (List Cho)} {t u : Nat} {s : List Cho} (h : y[t]? = some s) (hu : u ≤ s.length) : (lines (y.take t)).length + 1 + u ≤ (lines y).length := by
  have := lines_pre (y := y) (t + 1)
  rw [lines_take h, List.length_append, List.length_cons, List.length_map] at this
  omega
theorem ltext_ok {y : List (List Cho)} (h : SysN y) {k : PyData → Prop} (q : k (.str (sg (txt y)))) : (den_l_text [dY y]).okTo k := by
  unfold den_l_text body_l_text
  refine w_denP ?_
  walk_at "st"
  walk_at "wv"
  refine ⟨by simp, ?_⟩
  walk_at "wv"
  refine ⟨y.map dS, rfl, ?_⟩
  have LL := lines_len h
  refine loop_ok (fun t S => S = [some (.dat (dY y)), some (.own ((lines (y.take t)).map wD)), none, none, none, none, none, none]) ?_ ?_ rfl
  · rintro t d S hd rfl
    rw [List.getElem?_map] at hd
    obtain ⟨s, hs, rfl⟩ := Option.map_eq_some_iff.mp hd
    have sm := List.mem_of_getElem? hs
    have lp := lines_at hs (Nat.zero_le _)
    walk_at "wv"
    refine ⟨by rw [List.length_map]; omega, ?_⟩
    walk_at "wv"
    refine ⟨s.map dC, rfl, ?_⟩
    refine loop_ok (fun u S => ∃ g : Option SV, S = [some (.dat (dY y)), some (.own ((lines (y.take t) ++ STATE :: (s.take u).map lineC).map wD)), g, none, none, none, none, none]) ?_ ?_ ?_
    · rintro u d S hd ⟨g, rfl⟩
      rw [List.getElem?_map] at hd
      obtain ⟨c, hc, rfl⟩ := Option.map_eq_some_iff.mp hd
      have cn := h.num s sm c (List.mem_of_getElem? hc)
      have lu := lines_at hs (Nat.le_of_lt (List.getElem?_eq_some_iff.mp hc).1)
      have cl := cn.len
      have c4 := cn.cost.len
      rw [show dC c = .tuple [.int c.1, .tuple (c.2.map prD)] from rfl]
      refine w_aTup rfl (w_aCons (w_aName (w_aCons (w_aName (w_aNil ?_)))))
      walk_at "wv"
      refine ⟨cn.cost.small, ?_⟩
      walk_at "wv"
      refine ⟨c.2.map prD, rfl, ?_⟩
      rw [text_num cn.cost.lo]
      refine loop_ok (fun v S => S = [some (.dat (dY y)), some (.own ((lines (y.take t) ++ STATE :: (s.take u).map lineC).map wD)), none, none, some (.dat (.tuple (c.2.map prD))), some (.dat (.str (sg (numI c.1 ++ (c.2.take v).flatMap fun e => 32 :: endW e)))), none, none]) ?_ ?_ ?_
      · rintro v d S hd rfl
        rw [List.getElem?_map] at hd
        obtain ⟨x, hx, rfl⟩ := Option.map_eq_some_iff.mp hd
        have xn := cn.ends x (List.mem_of_getElem? hx)
        have l1 := xn.g.len
        have l2 := xn.w.len
        rw [show prD x = .tuple [.int x.1, .int x.2] from rfl]
        refine w_aTup rfl (w_aCons (w_aName (w_aCons (w_aName (w_aNil ?_)))))
        have fl : (numI c.1 ++ (c.2.take v).flatMap fun e => 32 :: endW e).length ≤ 100 := by
          have h1 := lineC_len (c := (c.1, c.2.take v)) ⟨cn.cost, fun e he => cn.ends e (List.mem_of_mem_take he), by rw [List.length_take]; omega⟩
          exact h1
        generalize hz : (numI c.1 ++ (c.2.take v).flatMap fun e => 32 :: endW e) = z at fl
        walk_at "wv"
        rw [space_, sg_app]
        refine ⟨by rw [sg_len, sg_len, List.length_singleton]; omega, ?_⟩
        walk_at "wv"
        refine ⟨xn.g.small, ?_⟩
        rw [text_num xn.g.lo]
        walk_at "wv"
        rw [sg_app]
        refine ⟨by rw [sg_len, sg_len, List.length_append, List.length_singleton]; omega, ?_⟩
        walk_at "wv"
        rw [colon_, sg_app]
        refine ⟨by rw [sg_len, sg_len, List.length_append, List.length_append, List.length_singleton, List.length_singleton]; omega, ?_⟩
        walk_at "wv"
        refine ⟨xn.w.small, ?_⟩
        rw [text_num xn.w.lo]
        walk_at "wv"
        rw [sg_app]
        refine ⟨by rw [sg_len, sg_len, List.length_append, List.length_append, List.length_append, List.length_singleton, List.length_singleton]; omega, ?_⟩
        rw [List.take_add_one, hx]
        have e : numI c.1 ++ ((c.2.take v ++ (some x).toList).flatMap fun e => 32 :: endW e) = z ++ [32] ++ numI x.1 ++ [58] ++ numI x.2 := by
          rw [List.flatMap_append, ← List.append_assoc, hz]
          show z ++ ([x].flatMap _) = _
          rw [List.flatMap_singleton, List.append_assoc, List.append_assoc, List.append_assoc]
          rfl
        rw [e]
        rfl
      · rintro S rfl
        rw [List.length_map, List.take_length]
        walk_at "wv"
        refine ⟨by rw [List.length_map, List.length_append, List.length_cons, List.length_map, List.length_take]; omega, none, ?_⟩
        rw [List.take_add_one, hc]
        show [_, some (SV.own _), none, none, none, none, none, none] = _
        rw [List.map_append (f := lineC), ← List.cons_append, ← List.append_assoc, List.map_append (f := wD) (l₂ := List.map lineC _)]
        rfl
      · show _ = _
        rw [List.take_zero, List.flatMap_nil, List.append_nil]
    · rintro S ⟨g, rfl⟩
      rw [List.length_map, List.take_length]
      rw [lines_take hs]
      rfl
    · refine ⟨some (.dat (dS s)), ?_⟩
      rw [List.map_append]
      rw [state_]
      rfl
  · rintro S rfl
    rw [List.length_map, List.take_length]
    walk_at "wv"
    rw [nl_]
    exact joinW (Nat.le_trans (lines_sum h) (by decide)) q

theorem dn_pr {n : Nat} (e : Int × Int) : Dn (n + 1) (prD e) := .tup (by simp) fun d hd => by
  simp only [List.mem_cons, List.not_mem_nil, or_false] at hd
  rcases hd with rfl | rfl <;> exact .int _ _
theorem sysN_small {y : List (List Cho)} (h : SysOk 3 y.length y) (hl : y.length ≤ 6) : SysN y := ⟨h.ne, h.len, fun s hs => by have := h.st s hs; omega, fun s hs c hc => by
  have q := h.cho s hs c hc
  exact ⟨q.cost, q.ne, by have := q.len; omega, q.ends, q.rise⟩⟩
theorem ite_joinB {α : Type} {c : Prop} [Decidable c] {x y : R α} {k P : α → Prop} (h : ∀ fl, P fl → k fl) (h1 : c → x.okTo P) (h2 : ¬ c → y.okTo P) : if c then x.okTo k else y.okTo k := by
  by_cases q : c
  · rw [if_pos q]
    exact (h1 q).mono h
  · rw [if_neg q]
    exact (h2 q).mono h

end
end Bo
namespace Bo
open PySem L2
noncomputable section
def body_l_changed : VS :=
    (vSeq (vAsg (vM1 gSplit (vVar 1) (vC (.str "\n"))) (aName 2))
    (vSeq (vAsg (vCallB 1 den_l_take 0 (vCons (vCall gLen (vCons (vVar 2) vNil)) vNil)) (aName 3))
    (vSeq (vAsg (vCallB 1 den_l_take 0 (vCons (vC (.int 10)) vNil)) (aName 4))
    (vSeq (vIfS (vTst (vOp gEq (vVar 4) (vC (.int 0)))) (vRet (vJoin (vC (.str "\n")) (vOp gCat (vSl gSlL (vVar 2) vNoPart (vPart (vVar 3))) (vSl gSlL (vVar 2) (vPart (vOp (gI fun i j => i + j) (vVar 3) (vC (.int 1)))) vNoPart)))) vNext)
    (vSeq (vIfS (vTst (vOp gEq (vVar 4) (vC (.int 1)))) (vRet (vJoin (vC (.str "\n")) (vOp gCat (vOp gCat (vSl gSlL (vVar 2) vNoPart (vPart (vVar 3))) (vLst (vCons (vOp gIxL (vVar 2) (vVar 3)) (vCons (vOp gIxL (vVar 2) (vVar 3)) vNil)))) (vSl gSlL (vVar 2) (vPart (vOp (gI fun i j => i + j) (vVar 3) (vC (.int 1)))) vNoPart)))) vNext)
    (vSeq (vIfS (vTst (vOp gEq (vVar 4) (vC (.int 2)))) (vRet (vJoin (vC (.str "\n")) (vOp gCat (vOp gCat (vSl gSlL (vVar 2) vNoPart (vPart (vVar 3))) (vLst (vCons (vOp gIxL (vLst (vCons (vC (.str "")) (vCons (vC (.str "state ")) (vCons (vC (.str "State")) (vCons (vC (.str "0")) vNil))))) (vCallB 1 den_l_take 0 (vCons (vC (.int 4)) vNil))) vNil))) (vSl gSlL (vVar 2) (vPart (vOp (gI fun i j => i + j) (vVar 3) (vC (.int 1)))) vNoPart)))) vNext)
    (vSeq (vThen [6] (vIfS (vTst (vOp gEq (vVar 4) (vC (.int 3)))) (vSeq (vAsg (vCallB 1 den_l_take 0 (vCons (vOp (gI fun i j => i + j) (vCall gLenS (vCons (vVar 1) vNil)) (vC (.int 1))) vNil)) (aName 6))
    (vRet (vOp gCatS (vOp gCatS (vSl gSlS (vVar 1) vNoPart (vPart (vVar 6))) (vOp gIxL (vLst (vCons (vC (.str " ")) (vCons (vC (.str ":")) (vCons (vC (.str "0")) (vCons (vC (.str "-")) (vCons (vC (.str "\n")) (vCons (vC (.str "5")) vNil))))))) (vCallB 1 den_l_take 0 (vCons (vC (.int 6)) vNil)))) (vSl gSlS (vVar 1) (vPart (vVar 6)) vNoPart)))) vNext))
    (vSeq (vThen [6] (vIfS (vTst (vOp gEq (vVar 4) (vC (.int 4)))) (vSeq (vAsg (vCallB 1 den_l_take 0 (vCons (vOp (gI fun i j => i + j) (vCall gLenS (vCons (vVar 1) vNil)) (vC (.int 1))) vNil)) (aName 6))
    (vRet (vOp gCatS (vSl gSlS (vVar 1) vNoPart (vPart (vVar 6))) (vSl gSlS (vVar 1) (vPart (vOp (gI fun i j => i + j) (vVar 6) (vC (.int 1)))) vNoPart)))) vNext))
    (vSeq (vAsg (vM1 gSplit (vOp gIxL (vVar 2) (vVar 3)) (vC (.str " "))) (aName 5))
    (vSeq (vAsg (vCallB 1 den_l_take 0 (vCons (vCall gLen (vCons (vVar 5) vNil)) vNil)) (aName 6))
    (vSeq (vAsg (vLst (vCons (vC (.str "0")) (vCons (vC (.str "1000")) (vCons (vC (.str "1001")) (vCons (vC (.str "10000")) (vCons (vC (.str "01")) (vCons (vC (.str "-1")) (vCons (vC (.str "")) (vCons (vC (.str "state")) vNil))))))))) (aName 7))
    (vSeq (vAsg (vOp gCat (vVar 7) (vLst (vCons (vC (.str "0:1")) (vCons (vC (.str "0:0")) (vCons (vC (.str "1:1")) (vCons (vC (.str "0:1:1")) (vCons (vC (.str "0:")) (vCons (vC (.str ":1")) (vCons (vC (.str "0:01")) (vCons (vC (.str "19:9999")) vNil)))))))))) (aName 7))
    (vSeq (vAsg (vOp gIxL (vVar 7) (vCallB 1 den_l_take 0 (vCons (vC (.int 16)) vNil))) (aName 8))
    (vSeq (vIfS (vTst (vOp (gIB fun i j => decide (i < j)) (vVar 4) (vC (.int 7)))) (vAsg (vOp gCat (vOp gCat (vSl gSlL (vVar 5) vNoPart (vPart (vVar 6))) (vLst (vCons (vVar 8) vNil))) (vSl gSlL (vVar 5) (vPart (vOp (gI fun i j => i + j) (vVar 6) (vC (.int 1)))) vNoPart)) (aName 5)) (vIfS (vTst (vOp gEq (vVar 4) (vC (.int 7)))) (vAsg (vOp gCat (vSl gSlL (vVar 5) vNoPart (vPart (vVar 6))) (vSl gSlL (vVar 5) (vPart (vOp (gI fun i j => i + j) (vVar 6) (vC (.int 1)))) vNoPart)) (aName 5)) (vAsg (vOp gCat (vOp gCat (vSl gSlL (vVar 5) vNoPart (vPart (vVar 6))) (vLst (vCons (vVar 8) vNil))) (vSl gSlL (vVar 5) (vPart (vVar 6)) vNoPart)) (aName 5))))
    (vRet (vJoin (vC (.str "\n")) (vOp gCat (vOp gCat (vSl gSlL (vVar 2) vNoPart (vPart (vVar 3))) (vLst (vCons (vJoin (vC (.str " ")) (vVar 5)) vNil))) (vSl gSlL (vVar 2) (vPart (vOp (gI fun i j => i + j) (vVar 3) (vC (.int 1)))) vNoPart))))))))))))))))))
def den_l_changed := denB 9 body_l_changed
def body_l_fits : VS :=
    (vSeq (vIfS (tOrF (vTst (vOp (gIB fun i j => decide (i < j)) (vCall gLen (vCons (vVar 0) vNil)) (vC (.int 1)))) (vTst (vOp (gIB fun i j => decide (j < i)) (vCall gLen (vCons (vVar 0) vNil)) (vC (.int 6))))) (vRet (vC (.bool false))) vNext)
    (vSeq (vThen [2] (vFor (vRange1 (vCons (vCall gLen (vCons (vVar 0) vNil)) vNil)) (aName 2) (vThen [2] (vSeq (vIfS (tOrF (vTst (vOp (gIB fun i j => decide (i < j)) (vOp gIxT (vOp gIxT (vVar 0) (vVar 2)) (vC (.int 0))) (vC (.int 0)))) (tOrF (vTst (vOp (gIB fun i j => decide (j ≤ i)) (vOp gIxT (vOp gIxT (vVar 0) (vVar 2)) (vC (.int 0))) (vVar 1))) (tOrF (vTst (vOp (gIB fun i j => decide (i < j)) (vOp gIxT (vOp gIxT (vVar 0) (vVar 2)) (vC (.int 1))) (vC (.int 1)))) (vTst (vOp (gIB fun i j => decide (j < i)) (vOp gIxT (vOp gIxT (vVar 0) (vVar 2)) (vC (.int 1))) (vC (.int 1000))))))) (vRet (vC (.bool false))) vNext)
    (vIfS (tAndF (vTst (vOp (gIB fun i j => decide (j < i)) (vVar 2) (vC (.int 0)))) (vTst (vOp (gIB fun i j => decide (i ≤ j)) (vOp gIxT (vOp gIxT (vVar 0) (vVar 2)) (vC (.int 0))) (vOp gIxT (vOp gIxT (vVar 0) (vOp (gI fun i j => i - j) (vVar 2) (vC (.int 1)))) (vC (.int 0)))))) (vRet (vC (.bool false))) vNext)))))
    (vRet (vC (.bool true)))))
def den_l_fits := denP 3 body_l_fits
def body_l_due : VS :=
    (vSeq (vIfS (tOrF (vTst (vOp (gIB fun i j => decide (i < j)) (vCall gLen (vCons (vVar 0) vNil)) (vC (.int 1)))) (vTst (vOp (gIB fun i j => decide (j < i)) (vCall gLen (vCons (vVar 0) vNil)) (vC (.int 20))))) (vRet (vTup (vCons (vC (.str "states")) vNil))) vNext)
    (vSeq (vThen [1, 2, 3, 4] (vFor (vRange1 (vCons (vCall gLen (vCons (vVar 0) vNil)) vNil)) (aName 1) (vThen [1] (vSeq (vIfS (tOrF (vTst (vOp (gIB fun i j => decide (i < j)) (vCall gLen (vCons (vOp gIxT (vVar 0) (vVar 1)) vNil)) (vC (.int 1)))) (vTst (vOp (gIB fun i j => decide (j < i)) (vCall gLen (vCons (vOp gIxT (vVar 0) (vVar 1)) vNil)) (vC (.int 6))))) (vRet (vTup (vCons (vC (.str "choices")) (vCons (vVar 1) vNil)))) vNext)
    (vPre [2, 3, 4] (vThen [2, 3, 4] (vFor (vRange1 (vCons (vCall gLen (vCons (vOp gIxT (vVar 0) (vVar 1)) vNil)) vNil)) (aName 2) (vThen [2, 3, 4] (vSeq (vAsg (vOp gIxT (vOp gIxT (vVar 0) (vVar 1)) (vVar 2)) (aTup 2 (aCons (aName 3) (aCons (aName 4) aNil))))
    (vSeq (vIfS (tOrF (vTst (vOp (gIB fun i j => decide (i < j)) (vVar 3) (vC (.int 0)))) (vTst (vOp (gIB fun i j => decide (j < i)) (vVar 3) (vC (.int 1000))))) (vRet (vTup (vCons (vC (.str "cost")) (vCons (vVar 1) (vCons (vVar 2) vNil))))) vNext)
    (vIfS (tNotF (vTst (vCallP 2 den_l_fits (vCons (vVar 4) (vCons (vCall gLen (vCons (vVar 0) vNil)) vNil))))) (vRet (vTup (vCons (vC (.str "ends")) (vCons (vVar 1) (vCons (vVar 2) vNil))))) vNext)))))))))))
    (vRet (vC .none))))
def den_l_due := denP 5 body_l_due
def body_l_number : VS :=
    (vSeq (vIfS (tOrF (vTst (vOp (gIB fun i j => decide (i < j)) (vCall gLenS (vCons (vVar 0) vNil)) (vC (.int 1)))) (tOrF (vTst (vOp (gIB fun i j => decide (j < i)) (vCall gLenS (vCons (vVar 0) vNil)) (vC (.int 4)))) (tAndF (vTst (vOp (gIB fun i j => decide (j < i)) (vCall gLenS (vCons (vVar 0) vNil)) (vC (.int 1)))) (vTst (vOp gEq (vOp gIxS (vVar 0) (vC (.int 0))) (vC (.str "0"))))))) (vRet (vC .none)) vNext)
    (vSeq (vThen [1] (vFor (vIterS (vVar 0)) (aName 1) (vThen [1] (vIfS (vTst (vOp (gInS true) (vVar 1) (vC (.str "0123456789")))) (vRet (vC .none)) vNext))))
    (vRet (vCall gIntS (vCons (vVar 0) vNil)))))
def den_l_number := denP 2 body_l_number
def body_l_line : VS :=
    (vSeq (vAsg (vM1 gSplit (vVar 0) (vC (.str " "))) (aName 1))
    (vSeq (vAsg (vCallP 1 den_l_number (vCons (vOp gIxL (vVar 1) (vC (.int 0))) vNil)) (aName 2))
    (vSeq (vIfS (vTst (vOp (fun d e => R.when (isNone e = true) (.ok (.bool (isNone d)))) (vVar 2) (vC .none))) (vRet (vC .none)) vNext)
    (vSeq (vOwn 3 (vLstF vNil))
    (vSeq (vThen [4, 5] (vFor (vIter (vSl gSlL (vVar 1) (vPart (vC (.int 1))) vNoPart)) (aName 4) (vThen [4, 5] (vSeq (vAsg (vM1 gSplit (vVar 4) (vC (.str ":"))) (aName 5))
    (vSeq (vIfS (tOrF (vTst (vOp gNe (vCall gLen (vCons (vVar 5) vNil)) (vC (.int 2)))) (tOrF (vTst (vOp (fun d e => R.when (isNone e = true) (.ok (.bool (isNone d)))) (vCallP 1 den_l_number (vCons (vOp gIxL (vVar 5) (vC (.int 0))) vNil)) (vC .none))) (vTst (vOp (fun d e => R.when (isNone e = true) (.ok (.bool (isNone d)))) (vCallP 1 den_l_number (vCons (vOp gIxL (vVar 5) (vC (.int 1))) vNil)) (vC .none))))) (vRet (vC .none)) vNext)
    (vDrop (vApp 3 (vTup (vCons (vCall gIntS (vCons (vOp gIxL (vVar 5) (vC (.int 0))) vNil)) (vCons (vCall gIntS (vCons (vOp gIxL (vVar 5) (vC (.int 1))) vNil)) vNil))))))))))
    (vRet (vTup (vCons (vVar 2) (vCons (vTupleO 3) vNil)))))))))
def den_l_line := denP 6 body_l_line
def body_l_read : VS :=
    (vSeq (vAsg (vM1 gSplit (vVar 0) (vC (.str "\n"))) (aName 1))
    (vSeq (vOwn 2 (vLstF vNil))
    (vSeq (vThen [3, 5] (vFor (vRange1 (vCons (vCall gLen (vCons (vVar 1) vNil)) vNil)) (aName 3) (vThen [3] (vThen [5] (vIfS (vTst (vOp gEq (vOp gIxL (vVar 1) (vVar 3)) (vC (.str "state")))) (vDrop (vApp 2 (vTup vNil))) (vSeq (vAsg (vCallP 1 den_l_line (vCons (vOp gIxL (vVar 1) (vVar 3)) vNil)) (aName 5))
    (vSeq (vIfS (tOrF (vTst (vOp gEq (vLenO 2) (vC (.int 0)))) (vTst (vOp (fun d e => R.when (isNone e = true) (.ok (.bool (isNone d)))) (vVar 5) (vC .none)))) (vRet (vTup (vCons (vC (.str "line")) (vCons (vVar 3) vNil)))) vNext)
    (vSetI 2 (vUn gNeg (vC (.int 1))) (vOp gCatT (vIxO 2 (vUn gNeg (vC (.int 1)))) (vTup (vCons (vVar 5) vNil)))))))))))
    (vSeq (vAsg (vCallP 1 den_l_due (vCons (vTupleO 2) vNil)) (aName 4))
    (vSeq (vIfS (vTst (vOp (fun d e => R.when (isNone e = true) (.ok (.bool (!isNone d)))) (vVar 4) (vC .none))) (vRet (vTup (vCons (vC (.str "fault")) (vCons (vVar 4) vNil)))) vNext)
    (vRet (vTup (vCons (vC (.str "system")) (vCons (vTupleO 2) vNil)))))))))
def den_l_read := denP 6 body_l_read
def den_l_told (ds : List PyData) : R PyData := match den_parse_system ds with
  | .ok z => .ok (.tuple [.str "system", z])
  | .err e => match e.arg with
    | some d => if e.cls = "InvalidLine" then .ok (.tuple [.str "line", d]) else if e.cls = "InvalidSystem" then .ok (.tuple [.str "fault", d]) else .bad
    | none => .bad
  | .bad => .bad
def body_law : VS :=
    (vSeq (vOwn 1 (vLstF (vCons (vCallS den_l_tape 0) (vCons (vC (.int 0)) vNil))))
    (vSeq (vAsg (vCallP 1 den_l_text (vCons (vCallB 1 den_l_system 1 (vCons (vC (.int 4)) vNil)) vNil)) (aName 2))
    (vSeq (vThen [3, 4, 5] (vFor (vRange1 (vCons (vC (.int 5)) vNil)) (aName 3) (vThen [3, 4] (vSeq (vAsg (vVar 2) (aName 4))
    (vSeq (vPre [3, 5] (vThen [5] (vFor (vRange1 (vCons (vOp (gI fun i j => i + j) (vC (.int 1)) (vCallB 1 den_l_take 1 (vCons (vC (.int 3)) vNil))) vNil)) (aName 5) (vThen [5] (vAsg (vCallB 1 den_l_changed 1 (vCons (vVar 4) vNil)) (aName 4))))))
    (vIfS (tNotF (vTst (vCallP 2 (denEq 6) (vCons (vCallP 1 den_l_told (vCons (vVar 4) vNil)) (vCons (vCallP 1 den_l_read (vCons (vVar 4) vNil)) vNil))))) (vRet (vC (.bool false))) vNext))))))
    (vRet (vCallP 2 (denEq 6) (vCons (vCallP 1 den_l_told (vCons (vC (.str "")) vNil)) (vCons (vTup (vCons (vC (.str "line")) (vCons (vC (.int 0)) vNil))) vNil)))))))
def den_law := denS 6 body_law
end
end Bo

namespace Bo
open PySem L2
local macro_rules | `(tactic| walk_at "wv1") => `(tactic| (first
  | ((with_reducible refine w_var (d := ?wd) ?wh ?wq); (case wh => exact rfl))
  | with_reducible refine w_cons ?_
  | with_reducible refine w_nil ?_
  | with_reducible refine w_op ?_
  | with_reducible refine w_c ?_
  | with_reducible refine w_aName ?_
  | with_reducible refine w_seq ?_
  | with_reducible refine w_asg ?_
  | with_reducible refine w_toB ?_
  | with_reducible refine w_callP ?_
  | with_reducible refine w_tst ?_
  | with_reducible refine w_then ?_
  | with_reducible refine w_gIxT ?_
  | with_reducible refine w_call ?_
  | with_reducible refine w_ret ?_
  | with_reducible refine w_ifS ?_
  | with_reducible refine w_next ?_
  | ((with_reducible refine w_own (ds := ?wd) ?wh ?wq); (case wh => exact rfl))
  | with_reducible refine w_for ?_
  | with_reducible refine w_fr ?_
  | with_reducible refine w_lc ?_
  | with_reducible refine w_tup ?_
  | with_reducible refine w_iter ?_
  | with_reducible refine w_itFT ?_
  | with_reducible refine w_aCons ?_
  | with_reducible refine w_gIxL ?_
  | with_reducible refine w_tnot ?_
  | with_reducible refine w_pre ?_
  | ((with_reducible refine w_dic (kvs := ?wd) ?wh ?wq); (case wh => exact rfl))
  | with_reducible refine w_tor ?_
  | with_reducible refine w_range1 ?_
  | with_reducible refine w_yes ?_
  | with_reducible refine w_itTT ?_
  | with_reducible refine w_iterT ?_
  | with_reducible refine w_lst ?_
  | with_reducible refine w_toI ?_
  | with_reducible refine w_ownS ?_
  | with_reducible refine w_aTup rfl ?_
  | with_reducible refine w_aNil ?_
  | ((with_reducible refine w_frz (ds := ?wd) ?wh ?wq); (case wh => exact rfl))
  | with_reducible refine w_itT ?_
  | with_reducible refine w_callD ?_
  | with_reducible refine w_tand ?_
  | with_reducible refine w_gEqI ?_
  | with_reducible refine w_gNeI ?_
  | with_reducible refine w_gLenT ?_
  | with_reducible refine w_lstF ?_
  | with_reducible refine w_callB ?_
  | with_reducible refine w_app ?_
  | with_reducible refine w_setI ?_
  | with_reducible refine w_drop ?_
  | with_reducible refine w_gIB ?_
  | with_reducible refine w_gBools ?_
  | with_reducible refine w_and ?_
  | with_reducible refine w_isN ?_
  | with_reducible refine w_or ?_
  | with_reducible refine w_ixO ?_
  | with_reducible refine w_gI ?_
  | with_reducible refine w_gLenL ?_
  | with_reducible refine w_gTuple ?_
  | with_reducible refine w_gInts ?_
  | ((with_reducible refine w_newS (ns := ?wd) ?wh ?wq); (case wh => exact rfl))
  | with_reducible refine w_un ?_
  | with_reducible refine w_if ?_
  | with_reducible refine w_chain ?_
  | ((with_reducible refine w_callS (ns := ?wd) ?wh ?wq); (case wh => exact rfl))
  | with_reducible refine w_sl ?_
  | with_reducible refine w_noPart ?_
  | with_reducible refine w_part ?_
  | with_reducible refine w_listRg ?_
  | with_reducible refine w_enumK ?_
  | with_reducible refine w_repF ?_
  | with_reducible refine w_gIC ?_
  | with_reducible refine w_gCat ?_
  | with_reducible refine w_gCatT ?_
  | with_reducible refine w_notN ?_
  | with_reducible refine w_listF ?_
  | with_reducible refine w_neg ?_
  | with_reducible refine w_gIsB ?_
  | with_reducible refine w_not ?_
  | with_reducible refine w_tru ?_
  | with_reducible refine w_callL ?_
  | with_reducible refine w_consO ?_
  | with_reducible refine w_lenO ?_
  | with_reducible refine w_tupleO ?_
  | with_reducible refine w_listO ?_
  | with_reducible refine w_inO ?_
  | with_reducible refine w_truO ?_
  | with_reducible refine w_zipK ?_
  | with_reducible refine w_retN ?_
  | ((with_reducible refine w_aug (a := ?wd) ?wh ?wq); (case wh => exact rfl))
  | with_reducible refine w_gInL ?_
  | with_reducible refine w_gIntI ?_
  | with_reducible refine w_gRevL ?_
  | with_reducible refine w_gSlL ?_
  | with_reducible refine w_gSlT ?_
  | with_reducible refine w_itF ?_
  | with_reducible refine w_gList ?_
  | with_reducible refine w_gSortI ?_
  | with_reducible refine w_range2 ?_
  | ((with_reducible refine w_lcO (ds := ?wd) ?wh ?wq ?wr); (case wh => exact rfl); (case wq => exact rfl))
  | with_reducible refine w_aUnl rfl ?_
  | with_reducible refine w_brk ?_
  | with_reducible refine w_cnt ?_
  | with_reducible refine w_gIntB ?_
  | with_reducible refine w_getD ?_
  | with_reducible refine w_keyS ?_
  | with_reducible refine w_keyI ?_
  | with_reducible refine w_putD ?_
  | with_reducible refine w_ownCallD ?_
  | with_reducible refine w_callDF ?_
  | with_reducible refine w_gIxQL ?_
  | with_reducible refine w_gIxQT ?_
  | ((with_reducible refine w_revO (ds := ?wd) ?wh ?wq); (case wh => exact rfl))
  | ((with_reducible refine w_isNOd (d := ?wd) ?wh ?wq); (case wh => exact rfl))
  | ((with_reducible refine w_isNOo (ds := ?wd) ?wh ?wq); (case wh => exact rfl))
  | with_reducible refine w_toS ?_
  | with_reducible refine w_m0 ?_
  | with_reducible refine w_m1 ?_
  | with_reducible refine w_gIsdigit ?_
  | with_reducible refine w_gIsascii ?_
  | with_reducible refine w_gRemoveprefix ?_
  | with_reducible refine w_gPartition ?_
  | with_reducible refine w_gSplit ?_
  | with_reducible refine w_join ?_
  | with_reducible refine w_joinO ?_
  | with_reducible refine w_joinR ?_
  | with_reducible refine w_gInS ?_
  | with_reducible refine w_gIxS ?_
  | with_reducible refine w_gSlS ?_
  | with_reducible refine w_iterS ?_
  | with_reducible refine w_gRepS ?_
  | with_reducible refine w_gCatS ?_
  | with_reducible refine w_gLenS ?_
  | with_reducible refine w_gStrI ?_
  | with_reducible refine w_gIntS ?_
  | with_reducible refine w_fmt ?_
  | with_reducible refine w_toFmtS ?_
  | with_reducible refine w_toFmtI ?_
  | with_reducible refine w_joined ?_
  | with_reducible refine w_jsCons ?_
  | with_reducible refine w_jsNil ?_
  | with_reducible refine w_gMin2 ?_
  | with_reducible refine w_gEqS ?_
  | with_reducible refine w_gNeS ?_
  | simp only [wipeS, backS, List.set_cons_zero, List.set_cons_succ, List.getElem?_cons_zero, List.getElem?_cons_succ, Option.join_some, Option.join_none, Bool.not_true, Bool.not_false]))
local macro_rules | `(tactic| walk_at "wv") => `(tactic| ((repeat (walk_at "wv1"; try dsimp only)); try simp only [List.set_cons_zero, List.set_cons_succ]))
local macro_rules | `(tactic| walk_at "st") => `(tactic| simp only [startS, List.map_cons, List.map_nil, List.length_cons, List.length_nil, Nat.reduceAdd, Nat.reduceSub, List.replicate_succ, List.replicate_zero, List.cons_append, List.nil_append])

section
/-! ### written systems: the law's own reading -/
open PySem L2 TL
theorem mem10 (c : Nat) : decide (c ∈ (Str.ofString "0123456789").cps.toList) = isD c := by
  have e : (Str.ofString "0123456789").cps.toList = [48, 49, 50, 51, 52, 53, 54, 55, 56, 57] := by decide +kernel
  rw [e]
  unfold isD
  rw [Bool.eq_iff_iff, decide_eq_true_iff, Bool.and_eq_true, decide_eq_true_iff, decide_eq_true_iff]
  simp only [List.mem_cons, List.not_mem_nil, or_false]
  omega
theorem ifP {c p q : Prop} [Decidable c] (h : c) (x : p) : if c then p else q := by
  rw [if_pos h]
  exact x
theorem ifN {c p q : Prop} [Decidable c] (h : ¬ c) (x : q) : if c then p else q := by
  rw [if_neg h]
  exact x
def dOI : Option Int → PyData
  | some v => .int v
  | none => .none
theorem lnum_ok {l : List Nat} {k : PyData → Prop} (hl : l.length ≤ 90000) (q : k (dOI (rdI l))) : (den_l_number [.str (sg l)]).okTo k := by
  unfold den_l_number body_l_number
  refine w_denP ?_
  walk_at "st"
  have ll : (sg l).length ≤ 100000 := by rw [sg_len]; omega
  refine w_seq (w_ifS (R.okTo.mono (k := fun p => p = (decide (l.length < 1 ∨ 4 < l.length ∨ (1 < l.length ∧ l.head? = some 48)), [some (.dat (.str (sg l))), none])) ?_ fun p e => ?_))
  · walk_at "wv"
    refine ⟨ll, ?_⟩
    walk_at "wv"
    rw [sg_len]
    by_cases c1 : ((l.length : Nat) : Int) < 1
    · rw [if_pos (decide_eq_true c1)]
      rw [decide_eq_true (Or.inl (by omega))]
    · rw [if_neg (by simpa using c1)]
      walk_at "wv"
      refine ⟨ll, ?_⟩
      walk_at "wv"
      rw [sg_len]
      by_cases c2 : 4 < ((l.length : Nat) : Int)
      · rw [if_pos (decide_eq_true c2)]
        rw [decide_eq_true (Or.inr (Or.inl (by omega)))]
      · rw [if_neg (by simpa using c2)]
        walk_at "wv"
        refine ⟨ll, ?_⟩
        walk_at "wv"
        rw [sg_len]
        by_cases c3 : 1 < ((l.length : Nat) : Int)
        · rw [if_pos (decide_eq_true c3)]
          walk_at "wv"
          refine ⟨ll, ?_⟩
          cases l with
          | nil => simp at c1
          | cons c r =>
            rw [sg_list]
            refine ⟨c, atI_zero, ?_⟩
            walk_at "wv"
            rw [nought]
            refine Prod.ext (?_ : decide _ = decide _) rfl
            have z : ((⟨#[c]⟩ : Str) = sg [48]) ↔ c = 48 := by
              rw [show (⟨#[c]⟩ : Str) = sg [c] from rfl, sgi]
              simp
            rw [decide_eq_decide, z, List.head?_cons, Option.some.injEq]
            constructor
            · exact fun e => Or.inr (Or.inr ⟨by omega, e⟩)
            · rintro (h | h | h)
              · omega
              · omega
              · exact h.2
        · rw [if_neg (by simpa using c3)]
          rw [decide_eq_false]
          rintro (h | h | h)
          · omega
          · omega
          · omega
  · subst e
    dsimp only
    have rn : dgB 4 l = false → rdI l = none := fun e => by
      unfold rdI
      rw [e, if_neg Bool.false_ne_true]
    by_cases c : l.length < 1 ∨ 4 < l.length ∨ (1 < l.length ∧ l.head? = some 48)
    · rw [if_pos (decide_eq_true c)]
      walk_at "wv"
      have : dgB 4 l = false := Bool.eq_false_iff.mpr fun z => by
        obtain ⟨h1, h2, h3, h4⟩ := dgB_all z
        rcases c with c | c | ⟨c, d⟩
        · omega
        · omega
        · rcases h4 with h4 | h4
          · rw [h4] at c
            simp at c
          · exact h4 d
      rw [rn this] at q
      exact q
    · rw [if_neg (by simpa using c)]
      have c1 : ¬ l.length < 1 := fun z => c (.inl z)
      have c2 : ¬ 4 < l.length := fun z => c (.inr (.inl z))
      walk_at "wv"
      refine loop_ok (fun t S => (l.take t).all isD = true ∧ S = [some (.dat (.str (sg l))), none]) ?_ ?_ ⟨rfl, rfl⟩
      · rintro t d S hd ⟨ht, rfl⟩
        unfold signsD at hd
        rw [sg_list, List.getElem?_map] at hd
        obtain ⟨x, hx, rfl⟩ := Option.map_eq_some_iff.mp hd
        walk_at "wv"
        rw [if_pos trivial, mem10]
        cases e : isD x with
        | true =>
          rw [if_neg (by decide)]
          walk_at "wv"
          refine ⟨?_, by first | trivial | rfl⟩
          rw [List.take_add_one, hx, List.all_append, ht]
          show (true && ([x].all isD)) = true
          simp [e]
        | false =>
          rw [if_pos (by decide)]
          walk_at "wv"
          have : dgB 4 l = false := Bool.eq_false_iff.mpr fun z => by
            have := List.all_eq_true.mp (dgB_all z).2.2.1 x (List.mem_of_getElem? hx)
            rw [e] at this
            cases this
          rw [rn this] at q
          exact q
      · rintro S ⟨ht, rfl⟩
        unfold signsD at ht
        rw [List.length_map, sg_list, List.take_length] at ht
        walk_at "wv"
        have g : dgB 4 l = true := by
          rw [dgB_yes (by rw [ht, decide_eq_true (show 0 < l.length by omega)]; rfl), decide_eq_true (show l.length ≤ 4 by omega), Bool.true_and, Bool.or_eq_true, decide_eq_true_iff, decide_eq_true_iff]
          by_cases e : l.head? = some 48
          · left
            have c3 : ¬ 1 < l.length := fun z => c (.inr (.inr ⟨z, e⟩))
            match l, e, c1, c3 with
            | [x], e, _, _ => simpa using e
            | [], e, _, _ => cases e
            | _ :: _ :: _, _, _, c3 => exact absurd (by simp) c3
          · exact .inr e
        refine ⟨_, val_dg (by decide) g, by rw [sg_len]; omega, ?_⟩
        walk_at "wv"
        have e : rdI l = some ((valL l : Nat) : Int) := by
          unfold rdI
          rw [if_pos g]
        rw [e] at q
        exact q
/-! a line -/
theorem cut2_parts {w : List Nat} : rdE w = match splitL 58 w with
    | [a, b] => (rdI a).bind fun u => (rdI b).map fun v => (u, v)
    | _ => none := by
  unfold rdE
  cases e : cut2 58 w with
  | none => 
    have : 58 ∉ w := cut2_none e
    rw [splitL_free this]
  | some p =>
    obtain ⟨e1, e2⟩ := cut2_some e
    rw [e1, splitL_cut e2]
    by_cases h : 58 ∈ p.2
    · have n : rdI p.2 = none := by
        unfold rdI
        rw [if_neg]
        intro z
        have := List.all_eq_true.mp (dgB_all z).2.2.1 58 h
        cases this
      dsimp only
      rw [n]
      cases e3 : cut2 58 p.2 with
      | none => exact absurd h (cut2_none e3)
      | some r =>
        obtain ⟨e4, e5⟩ := cut2_some e3
        rw [e4, splitL_cut e5]
        have ne := splitL_ne 58 r.2
        cases e6 : splitL 58 r.2 with
        | nil => exact absurd e6 ne
        | cons x y =>
          dsimp only
          cases rdI p.1 <;> rfl
    · rw [splitL_free h]
theorem rdI_val {l : List Nat} {v : Int} (h : rdI l = some v) : PySem.intText? (sg l) = some v ∧ (sg l).length ≤ 640 := by
  unfold rdI at h
  split at h
  · rename_i g
    injection h with h
    exact ⟨by rw [← h]; exact val_dg (by decide) g, by rw [sg_len]; have := (dgB_all g).2.1; omega⟩
  · cases h
def dOC : Option Cho → PyData
  | some c => dC c
  | none => .none
theorem lline_ok {l : List Nat} {k : PyData → Prop} (hl : l.length ≤ 80000) (q : k (dOC (rdL l))) : (den_l_line [.str (sg l)]).okTo k := by
  unfold den_l_line body_l_line
  refine w_denP ?_
  walk_at "st"
  walk_at "wv"
  have ll : (sg l).length ≤ 100000 := by rw [sg_len]; omega
  obtain ⟨p1, p2⟩ := splitL_len (c := 32) (l := l)
  have pn := splitL_ne 32 l
  rw [space_]
  refine ⟨⟨by rw [sg_len]; rfl, ll⟩, ?_⟩
  rw [split_sg l (by decide)]
  generalize hps : splitL 32 l = ps at p1 p2 pn
  cases ps with
  | nil => exact absurd rfl pn
  | cons w ws =>
    have rl : rdL l = (rdI w).bind fun c => (rdEs ws).map fun es => (c, es) := by
      unfold rdL
      rw [hps]
    have wl := p2 w List.mem_cons_self
    have p1' : ws.length ≤ l.length := by rw [List.length_cons] at p1; omega
    walk_at "wv"
    rw [show List.map PyData.str (List.map sg (w :: ws)) = (w :: ws).map fun p => PyData.str (sg p) from by rw [List.map_map]; rfl]
    refine okTo_eq (a := .str (sg w)) (by rw [List.map_cons]; exact ixD_zero) ?_
    walk_at "wv"
    refine ⟨rfl, lnum_ok (by omega) ?_⟩
    walk_at "wv"
    cases hw : rdI w with
    | none =>
      rw [rl, hw] at q
      refine ifP rfl ?_
      walk_at "wv"
      exact q
    | some c =>
      refine ifN (show ¬ isNone (.int c) = true from Bool.false_ne_true) ?_
      rw [hw] at rl
      walk_at "wv"
      refine ⟨by simp, ?_⟩
      walk_at "wv"
      refine ⟨ws.map fun p => .str (sg p), by rw [List.map_cons, cutD_one], ?_⟩
      refine loop_ok (fun t S => ∃ es : List (Int × Int), rdEs (ws.take t) = some es ∧ es.length = t ∧ S = [some (.dat (.str (sg l))), some (.dat (.list ((w :: ws).map fun p => .str (sg p)))), some (.dat (.int c)), some (.own (es.map prD)), none, none]) ?_ ?_ ⟨[], rfl, rfl, rfl⟩
      · rintro t d S hd ⟨es, he, el, rfl⟩
        rw [List.getElem?_map] at hd
        obtain ⟨x, hx, rfl⟩ := Option.map_eq_some_iff.mp hd
        have xl := p2 x (List.mem_cons_of_mem _ (List.mem_of_getElem? hx))
        have tl : t < ws.length := (List.getElem?_eq_some_iff.mp hx).1
        have tk : ws.take (t + 1) = ws.take t ++ [x] := by rw [List.take_add_one, hx]; rfl
        have bad : rdE x = none → rdL l = none := fun e => by
          rw [rl]
          show (rdEs ws).map _ = none
          rw [rdEs_none hx e]
          rfl
        have cp := cut2_parts (w := x)
        obtain ⟨q1, q2⟩ := splitL_len (c := 58) (l := x)
        walk_at "wv"
        rw [colon_]
        refine ⟨⟨by rw [sg_len]; rfl, by rw [sg_len]; omega⟩, ?_⟩
        rw [split_sg x (by decide)]
        generalize splitL 58 x = ys at cp q1 q2
        walk_at "wv"
        by_cases c2 : ys.length = 2
        · match ys, c2, cp, q2 with
          | [a, b], _, cp, q2 =>
            have la := q2 a List.mem_cons_self
            have lb := q2 b (by simp)
            dsimp only at cp
            refine ifN (show ¬ ((!decide (((2 : Nat) : Int) = 2)) = true) from by decide) ?_
            walk_at "wv"
            refine okTo_eq (a := .str (sg a)) (by exact ixD_zero) ?_
            walk_at "wv"
            refine ⟨rfl, lnum_ok (by omega) ?_⟩
            walk_at "wv"
            cases ha : rdI a with
            | none =>
              rw [bad (by rw [cp, ha]; rfl)] at q
              refine ifP rfl ?_
              refine ifP trivial ?_
              walk_at "wv"
              exact q
            | some u =>
              refine ifN (show ¬ isNone (.int u) = true from Bool.false_ne_true) ?_
              walk_at "wv"
              refine okTo_eq (a := .str (sg b)) rfl ?_
              walk_at "wv"
              refine ⟨rfl, lnum_ok (by omega) ?_⟩
              walk_at "wv"
              cases hb : rdI b with
              | none =>
                rw [bad (by rw [cp, ha, hb]; rfl)] at q
                refine ifP rfl ?_
                walk_at "wv"
                exact q
              | some v =>
                refine ifN (show ¬ isNone (.int v) = true from Bool.false_ne_true) ?_
                walk_at "wv"
                have va := rdI_val ha
                have vb := rdI_val hb
                refine okTo_eq (a := .str (sg a)) rfl ?_
                walk_at "wv"
                refine ⟨_, va.1, va.2, ?_⟩
                walk_at "wv"
                refine okTo_eq (a := .str (sg b)) rfl ?_
                walk_at "wv"
                refine ⟨_, vb.1, vb.2, ?_⟩
                walk_at "wv"
                refine ⟨by simp, ?_⟩
                walk_at "wv"
                refine ⟨by rw [List.length_map]; omega, es ++ [(u, v)], ?_, by rw [List.length_append, el]; rfl, ?_⟩
                · rw [tk, rdEs_app, he]
                  show (rdEs [x]).map _ = _
                  show ((rdE x).bind _).map _ = _
                  rw [cp, ha, hb]
                  rfl
                · show [_, _, _, _, _, _] = _
                  rw [List.map_append]
                  rfl
        · refine ifP (by rw [List.length_map, List.length_map]; simpa using fun z => c2 (by omega)) ?_
          refine ifP trivial ?_
          walk_at "wv"
          rw [bad] at q
          · exact q
          · rw [cp]
            match ys, c2 with
            | [], _ => rfl
            | [_], _ => rfl
            | [_, _], z => exact absurd rfl z
            | _ :: _ :: _ :: _, _ => rfl
      · rintro S ⟨es, he, el, rfl⟩
        rw [List.length_map, List.take_length] at he
        walk_at "wv"
        rw [rl] at q
        rw [show ((some c).bind fun c => (rdEs ws).map fun es => (c, es)) = some (c, es) from by rw [he]; rfl] at q
        exact ⟨by simp, q⟩
/-! the fault -/
theorem lfits_ok {m : Nat} {es : List (Int × Int)} {k : PyData → Prop} (hl : es.length ≤ 90000) (q : k (.bool (endsB (m : Nat) es))) : (den_l_fits [.tuple (es.map prD), .int (m : Nat)]).okTo k := by
  unfold den_l_fits body_l_fits
  refine w_denP ?_
  walk_at "st"
  refine w_seq (w_ifS (w_tor ?_))
  walk_at "wv"
  rw [List.length_map]
  by_cases c1 : es.length < 1
  · refine ifP (decide_eq_true (by omega)) (ifP trivial ?_)
    walk_at "wv"
    rw [show endsB (m : Nat) es = false from by unfold endsB; rw [decide_eq_false (show ¬ 1 ≤ es.length by omega)]; rfl] at q
    exact q
  refine ifN (by rw [decide_eq_true_iff]; omega) ?_
  walk_at "wv"
  rw [List.length_map]
  by_cases c2 : 6 < es.length
  · refine ifP (decide_eq_true (by omega)) ?_
    walk_at "wv"
    rw [show endsB (m : Nat) es = false from by unfold endsB; rw [decide_eq_false (show ¬ es.length ≤ 6 by omega), Bool.and_false]; rfl] at q
    exact q
  refine ifN (by rw [decide_eq_true_iff]; omega) ?_
  have eb : endsB (m : Nat) es = endsG (m : Nat) (-1) es := by
    unfold endsB
    rw [decide_eq_true (show 1 ≤ es.length by omega), decide_eq_true (show es.length ≤ 6 by omega)]
    rfl
  rw [eb] at q
  walk_at "wv"
  rw [List.length_map]
  refine ⟨_, rfl, ⟨by omega, by omega⟩, ?_⟩
  refine loop_ok (fun t S => ∃ b : Int, endsG (m : Nat) (-1) es = endsG (m : Nat) b (es.drop t) ∧ -1 ≤ b ∧ (t = 0 → b = -1) ∧ (∀ e, 0 < t → es[t - 1]? = some e → b = e.1) ∧ S = [some (.dat (.tuple (es.map prD))), some (.dat (.int (m : Nat))), none]) ?_ ?_ ⟨-1, rfl, Int.le_refl _, fun _ => rfl, fun _ h => absurd h (by decide), rfl⟩
  · rintro t d S hd ⟨b, hb, hbm, hb0, hb1, rfl⟩
    obtain ⟨ht, rfl⟩ := rangeD_get hd
    have htl : t < es.length := by omega
    have hx : es[t]? = some es[t] := List.getElem?_eq_getElem htl
    generalize es[t] = e at hx
    have hdr : es.drop t = e :: es.drop (t + 1) := by
      obtain ⟨hlt, z⟩ := List.getElem?_eq_some_iff.mp hx
      rw [List.drop_eq_getElem_cons hlt, z]
    rw [hdr] at hb
    have hb' : endsG (m : Nat) (-1) es = (decide (b < e.1) && decide (e.1 < (m : Nat)) && decide (1 ≤ e.2) && decide (e.2 ≤ 1000) && endsG (m : Nat) e.1 (es.drop (t + 1))) := hb
    have ixt : ixD (es.map prD) (0 + (t : Nat)) = .ok (prD e) := by
      rw [Int.zero_add]
      exact ixD_nat (by rw [List.getElem?_map, hx]; rfl)
    have no : ¬ (b < e.1 ∧ e.1 < (m : Nat) ∧ 1 ≤ e.2 ∧ e.2 ≤ 1000) → k (.bool false) := fun z => by
      have : endsG (m : Nat) (-1) es = false := by
        rw [hb']
        by_cases z1 : b < e.1
        · by_cases z2 : e.1 < (m : Nat)
          · by_cases z3 : 1 ≤ e.2
            · rw [decide_eq_false (show ¬ e.2 ≤ 1000 from fun z4 => z ⟨z1, z2, z3, z4⟩), Bool.and_false]
              rfl
            · rw [decide_eq_false z3, Bool.and_false]
              rfl
          · rw [decide_eq_false z2, Bool.and_false]
            rfl
        · rw [decide_eq_false z1]
          rfl
      rw [this] at q
      exact q
    have yes : b < e.1 ∧ e.1 < (m : Nat) ∧ 1 ≤ e.2 ∧ e.2 ≤ 1000 → endsG (m : Nat) (-1) es = endsG (m : Nat) e.1 (es.drop (t + 1)) := fun z => by
      rw [hb', decide_eq_true z.1, decide_eq_true z.2.1, decide_eq_true z.2.2.1, decide_eq_true z.2.2.2]
      rfl
    walk_at "wv"
    refine okTo_eq ixt ?_
    walk_at "wv"
    refine okTo_eq (a := .int e.1) rfl ?_
    walk_at "wv"
    by_cases c1 : e.1 < 0
    · refine ifP (decide_eq_true c1) (ifP trivial ?_)
      walk_at "wv"
      exact no fun z => by omega
    refine ifN (by rw [decide_eq_true_iff]; exact c1) ?_
    walk_at "wv"
    refine okTo_eq ixt ?_
    walk_at "wv"
    refine okTo_eq (a := .int e.1) rfl ?_
    walk_at "wv"
    by_cases c2 : ((m : Nat) : Int) ≤ e.1
    · refine ifP (decide_eq_true c2) (ifP trivial ?_)
      walk_at "wv"
      exact no fun z => by omega
    refine ifN (by rw [decide_eq_true_iff]; exact c2) ?_
    walk_at "wv"
    refine okTo_eq ixt ?_
    walk_at "wv"
    refine okTo_eq (a := .int e.2) rfl ?_
    walk_at "wv"
    by_cases c3 : e.2 < 1
    · refine ifP (decide_eq_true c3) (ifP trivial ?_)
      walk_at "wv"
      exact no fun z => by omega
    refine ifN (by rw [decide_eq_true_iff]; exact c3) ?_
    walk_at "wv"
    refine okTo_eq ixt ?_
    walk_at "wv"
    refine okTo_eq (a := .int e.2) rfl ?_
    walk_at "wv"
    by_cases c4 : 1000 < e.2
    · refine ifP (decide_eq_true c4) ?_
      walk_at "wv"
      exact no fun z => by omega
    refine ifN (by rw [decide_eq_true_iff]; exact c4) ?_
    walk_at "wv"
    have fin : b < e.1 → ∃ b, endsG (m : Nat) (-1) es = endsG (m : Nat) b (es.drop (t + 1)) ∧ -1 ≤ b ∧ (t + 1 = 0 → b = -1) ∧ (∀ e, 0 < t + 1 → es[t + 1 - 1]? = some e → b = e.1) ∧ True := fun z =>
      ⟨e.1, yes ⟨z, by omega⟩, by omega, fun z => absurd z (by omega), fun e' _ h' => by
        rw [Nat.add_sub_cancel, hx] at h'
        rw [Option.some.inj h'], trivial⟩
    by_cases c5 : 0 < t
    · obtain ⟨u, rfl⟩ : ∃ u, t = u + 1 := ⟨t - 1, by omega⟩
      have hy : es[u]? = some es[u] := List.getElem?_eq_getElem (by omega)
      generalize es[u] = f at hy
      have bf := hb1 f c5 (by rw [Nat.add_sub_cancel]; exact hy)
      have ixf : ixD (es.map prD) (0 + ((u + 1 : Nat) : Int) - 1) = .ok (prD f) := by
        rw [show (0 : Int) + ((u + 1 : Nat) : Int) - 1 = (u : Nat) from by omega]
        exact ixD_nat (by rw [List.getElem?_map, hy]; rfl)
      refine ifP (decide_eq_true (by omega)) ?_
      walk_at "wv"
      refine okTo_eq ixt ?_
      walk_at "wv"
      refine okTo_eq (a := .int e.1) rfl ?_
      walk_at "wv"
      refine okTo_eq ixf ?_
      walk_at "wv"
      refine okTo_eq (a := .int f.1) rfl ?_
      walk_at "wv"
      by_cases c6 : e.1 ≤ f.1
      · refine ifP (decide_eq_true c6) ?_
        walk_at "wv"
        exact no fun z => by omega
      · refine ifN (by rw [decide_eq_true_iff]; exact c6) ?_
        walk_at "wv"
        exact fin (by omega)
    · refine ifN (by rw [decide_eq_true_iff]; omega) ?_
      refine ifN Bool.false_ne_true ?_
      walk_at "wv"
      exact fin (by have := hb0 (by omega); omega)
  · rintro S ⟨b, hb, hbm, hb0, hb1, rfl⟩
    rw [rangeD_len, show ((es.length : Nat) : Int).toNat = es.length from Int.toNat_natCast _, List.drop_length] at hb
    walk_at "wv"
    rw [hb] at q
    exact q
theorem ldue_ok {y : List (List Cho)} {k : PyData → Prop} (hl : y.length ≤ 90000) (hs : ∀ s ∈ y, s.length ≤ 90000) (hc : ∀ s ∈ y, ∀ c ∈ s, c.2.length ≤ 90000) (q : k (flt y)) : (den_l_due [dY y]).okTo k := by
  unfold den_l_due body_l_due
  refine w_denP ?_
  walk_at "st"
  have gl : gLen [dY y] = .ok (.int (y.length : Nat)) := by
    unfold dY gLen
    simp
  refine w_seq (w_ifS (w_tor ?_))
  walk_at "wv"
  refine okTo_eq gl ?_
  walk_at "wv"
  by_cases c1 : y.length < 1
  · refine ifP (decide_eq_true (by omega)) (ifP trivial ?_)
    walk_at "wv"
    refine ⟨by simp, ?_⟩
    unfold flt at q
    rw [decide_eq_false (show ¬ 1 ≤ y.length by omega), Bool.false_and, if_neg Bool.false_ne_true] at q
    exact q
  refine ifN (by rw [decide_eq_true_iff]; omega) ?_
  walk_at "wv"
  refine okTo_eq gl ?_
  walk_at "wv"
  by_cases c2 : 20 < y.length
  · refine ifP (decide_eq_true (by omega)) ?_
    walk_at "wv"
    refine ⟨by simp, ?_⟩
    unfold flt at q
    rw [decide_eq_false (show ¬ y.length ≤ 20 by omega), Bool.and_false, if_neg Bool.false_ne_true] at q
    exact q
  refine ifN (by rw [decide_eq_true_iff]; omega) ?_
  unfold flt at q
  rw [decide_eq_true (show 1 ≤ y.length by omega), decide_eq_true (show y.length ≤ 20 by omega), Bool.true_and, if_pos rfl] at q
  walk_at "wv"
  refine okTo_eq gl ?_
  walk_at "wv"
  refine ⟨_, rfl, ⟨by omega, by omega⟩, ?_⟩
  refine loop_ok (fun t S => fltY (y.length : Nat) 0 y = fltY (y.length : Nat) t (y.drop t) ∧ S = [some (.dat (dY y)), none, none, none, none]) ?_ ?_ ⟨rfl, rfl⟩
  · rintro t d S hd ⟨hb, rfl⟩
    obtain ⟨ht, rfl⟩ := rangeD_get hd
    have htl : t < y.length := by omega
    have hx : y[t]? = some y[t] := List.getElem?_eq_getElem htl
    generalize y[t] = s at hx
    have sm := List.mem_of_getElem? hx
    have hdr : y.drop t = s :: y.drop (t + 1) := by
      obtain ⟨hlt, z⟩ := List.getElem?_eq_some_iff.mp hx
      rw [List.drop_eq_getElem_cons hlt, z]
    rw [hdr, fltY_cons] at hb
    have ixt : gIxT (dY y) (.int (0 + (t : Nat))) = .ok (dS s) := by
      show ixD (y.map dS) (0 + (t : Nat)) = _
      rw [Int.zero_add]
      exact ixD_nat (by rw [List.getElem?_map, hx]; rfl)
    have gs : gLen [dS s] = .ok (.int (s.length : Nat)) := by
      unfold dS gLen
      simp
    rw [show gIxT (dY y) (.int (0 + (t : Nat))) = gIxT (dY y) (.int (t : Nat)) from by rw [Int.zero_add]] at ixt
    rw [Int.zero_add]
    walk_at "wv"
    refine okTo_eq ixt ?_
    walk_at "wv"
    refine okTo_eq gs ?_
    walk_at "wv"
    have out : ∀ d, isNone d = false → fltS (y.length : Nat) (t : Nat) s = d → k d := fun d nd e => by
      rw [e, nd, if_neg Bool.false_ne_true] at hb
      rw [hb] at q
      exact q
    by_cases c3 : s.length < 1
    · refine ifP (decide_eq_true (by omega)) (ifP trivial ?_)
      walk_at "wv"
      exact ⟨by simp, out _ rfl (by unfold fltS; rw [decide_eq_false (show ¬ 1 ≤ s.length by omega), Bool.false_and, if_neg Bool.false_ne_true])⟩
    refine ifN (by rw [decide_eq_true_iff]; omega) ?_
    walk_at "wv"
    refine okTo_eq ixt ?_
    walk_at "wv"
    refine okTo_eq gs ?_
    walk_at "wv"
    by_cases c4 : 6 < s.length
    · refine ifP (decide_eq_true (by omega)) ?_
      walk_at "wv"
      exact ⟨by simp, out _ rfl (by unfold fltS; rw [decide_eq_false (show ¬ s.length ≤ 6 by omega), Bool.and_false, if_neg Bool.false_ne_true])⟩
    refine ifN (by rw [decide_eq_true_iff]; omega) ?_
    have fs : fltS (y.length : Nat) (t : Nat) s = fltC (y.length : Nat) (t : Nat) 0 s := by
      unfold fltS
      rw [decide_eq_true (show 1 ≤ s.length by omega), decide_eq_true (show s.length ≤ 6 by omega), Bool.true_and, if_pos rfl]
    rw [fs] at out hb
    walk_at "wv"
    refine okTo_eq ixt ?_
    walk_at "wv"
    refine okTo_eq gs ?_
    walk_at "wv"
    refine ⟨_, rfl, ⟨by omega, by omega⟩, ?_⟩
    refine loop_ok (fun u S => fltC (y.length : Nat) (t : Nat) 0 s = fltC (y.length : Nat) (t : Nat) u (s.drop u) ∧ S = [some (.dat (dY y)), some (.dat (.int (t : Nat))), none, none, none]) ?_ ?_ ⟨rfl, rfl⟩
    · rintro u d S hd ⟨hb2, rfl⟩
      obtain ⟨hu, rfl⟩ := rangeD_get hd
      have hul : u < s.length := by omega
      have hx2 : s[u]? = some s[u] := List.getElem?_eq_getElem hul
      generalize s[u] = c at hx2
      have cm := List.mem_of_getElem? hx2
      have cl := hc s sm c cm
      have hdr2 : s.drop u = c :: s.drop (u + 1) := by
        obtain ⟨hlt, z⟩ := List.getElem?_eq_some_iff.mp hx2
        rw [List.drop_eq_getElem_cons hlt, z]
      rw [hdr2] at hb2
      have hb' : fltC (y.length : Nat) (t : Nat) 0 s = if (decide (0 ≤ c.1) && decide (c.1 ≤ 1000)) = true then if endsB (y.length : Nat) c.2 = true then fltC (y.length : Nat) (t : Nat) (u + 1) (s.drop (u + 1)) else .tuple [.str (Str.ofString "ends"), .int (t : Nat), .int (u : Nat)] else .tuple [.str (Str.ofString "cost"), .int (t : Nat), .int (u : Nat)] := hb2
      have ixu : gIxT (dS s) (.int (u : Nat)) = .ok (dC c) := by
        show ixD (s.map dC) (u : Nat) = _
        exact ixD_nat (by rw [List.getElem?_map, hx2]; rfl)
      rw [Int.zero_add]
      walk_at "wv"
      refine okTo_eq ixt ?_
      walk_at "wv"
      refine okTo_eq ixu ?_
      rw [show dC c = .tuple [.int c.1, .tuple (c.2.map prD)] from rfl]
      refine w_aTup rfl (w_aCons (w_aName (w_aCons (w_aName (w_aNil ?_)))))
      walk_at "wv"
      have cost : ¬ (0 ≤ c.1 ∧ c.1 ≤ 1000) → k (.tuple [.str (Str.ofString "cost"), .int (t : Nat), .int (u : Nat)]) := fun z => out _ rfl (by
        rw [hb', if_neg]
        rw [Bool.and_eq_true, decide_eq_true_iff, decide_eq_true_iff]
        exact z)
      by_cases c5 : c.1 < 0
      · refine ifP (decide_eq_true c5) (ifP trivial ?_)
        walk_at "wv"
        exact ⟨by simp, cost fun z => by omega⟩
      refine ifN (by rw [decide_eq_true_iff]; exact c5) ?_
      walk_at "wv"
      by_cases c6 : 1000 < c.1
      · refine ifP (decide_eq_true c6) ?_
        walk_at "wv"
        exact ⟨by simp, cost fun z => by omega⟩
      refine ifN (by rw [decide_eq_true_iff]; exact c6) ?_
      rw [decide_eq_true (show 0 ≤ c.1 by omega), decide_eq_true (show c.1 ≤ 1000 by omega), Bool.true_and, if_pos rfl] at hb'
      walk_at "wv"
      refine okTo_eq gl ?_
      walk_at "wv"
      refine ⟨rfl, lfits_ok cl ?_⟩
      walk_at "wv"
      cases c7 : endsB (y.length : Nat) c.2 with
      | false =>
        rw [c7, if_neg Bool.false_ne_true] at hb'
        refine ifP rfl ?_
        walk_at "wv"
        exact ⟨by simp, out _ rfl hb'⟩
      | true =>
        rw [c7, if_pos rfl] at hb'
        refine ifN (by decide) ?_
        walk_at "wv"
        exact ⟨hb', by first | trivial | rfl⟩
    · rintro S ⟨hb2, rfl⟩
      rw [rangeD_len, show ((s.length : Nat) : Int).toNat = s.length from Int.toNat_natCast _, List.drop_length] at hb2
      rw [hb2] at hb
      walk_at "wv"
      exact ⟨hb, by first | trivial | rfl⟩
  · rintro S ⟨hb, rfl⟩
    rw [rangeD_len, show ((y.length : Nat) : Int).toNat = y.length from Int.toNat_natCast _, List.drop_length] at hb
    walk_at "wv"
    rw [hb] at q
    exact q
/-! the whole text -/
def readT (l : List Nat) : PyData := match rdP 0 (splitL 10 l) [] with
  | .inl n => .tuple [.str (Str.ofString "line"), .int (n : Nat)]
  | .inr y => if isNone (flt y) = true then .tuple [.str (Str.ofString "system"), dY y] else .tuple [.str (Str.ofString "fault"), flt y]
theorem told_ok {l : List Nat} {k : PyData → Prop} (hl : l.length ≤ 80000) (q : k (readT l)) : (den_l_told [.str (sg l)]).okTo k := by
  have h := sys_ok hl
  unfold den_l_told
  unfold readT at q
  cases e : den_parse_system [.str (sg l)] with
  | bad =>
    rw [e] at h
    exact h.elim
  | ok z =>
    rw [e] at h
    obtain ⟨y, h1, h2, rfl⟩ := h
    rw [h1] at q
    dsimp only at q
    rw [h2, if_pos (show isNone PyData.none = true from rfl)] at q
    exact q
  | err x =>
    rw [e] at h
    rcases h with ⟨n, h1, rfl⟩ | ⟨y, h1, h2, rfl⟩
    · rw [h1] at q
      unfold inl_
      dsimp only
      rw [if_pos rfl]
      exact q
    · rw [h1] at q
      dsimp only at q ⊢
      rw [if_neg (by intro z; exact h2 (by cases e : flt y <;> first | rfl | (rw [e] at z; cases z)))] at q
      rw [if_neg (by decide), if_pos rfl]
      exact q
theorem rdEs_len : ∀ {ws : List (List Nat)} {es : List (Int × Int)}, rdEs ws = some es → es.length = ws.length
  | [], es, h => by
    have : es = [] := (Option.some.inj h).symm
    rw [this]
    rfl
  | w :: ws, es, h => by
    have h' : ((rdE w).bind fun e => (rdEs ws).map (e :: ·)) = some es := h
    cases e1 : rdE w with
    | none =>
      rw [e1] at h'
      cases h'
    | some e =>
      rw [e1] at h'
      have h2 : (rdEs ws).map (e :: ·) = some es := h'
      cases e2 : rdEs ws with
      | none =>
        rw [e2] at h2
        cases h2
      | some es' =>
        rw [e2] at h2
        have := (Option.some.inj h2).symm
        rw [this, List.length_cons, List.length_cons, rdEs_len e2]
theorem rdL_len {l : List Nat} {c : Cho} (h : rdL l = some c) : c.2.length ≤ l.length := by
  unfold rdL at h
  have p1 := (splitL_len (c := 32) (l := l)).1
  cases e : splitL 32 l with
  | nil =>
    rw [e] at h
    cases h
  | cons w ws =>
    rw [e] at h p1
    dsimp only at h
    rw [List.length_cons] at p1
    cases e1 : rdI w with
    | none =>
      rw [e1] at h
      cases h
    | some v =>
      rw [e1] at h
      have h2 : (rdEs ws).map (fun es => (v, es)) = some c := h
      cases e2 : rdEs ws with
      | none =>
        rw [e2] at h2
        cases h2
      | some es =>
        rw [e2] at h2
        have := (Option.some.inj h2).symm
        have := rdEs_len e2
        subst_vars
        show es.length ≤ _
        omega
/-- how large what is read may be -/
structure Big (b t : Nat) (y : List (List Cho)) : Prop where
  n : y.length ≤ t
  s : ∀ s ∈ y, s.length ≤ t
  c : ∀ s ∈ y, ∀ c ∈ s, c.2.length ≤ b
theorem Big.new {b t : Nat} {y : List (List Cho)} (h : Big b t y) : Big b (t + 1) (y ++ [[]]) := ⟨by rw [List.length_append, List.length_singleton]; have := h.n; omega,
  fun s hs => by
    rcases List.mem_append.mp hs with q | q
    · have := h.s s q
      omega
    · rw [List.mem_singleton.mp q]
      simp,
  fun s hs c hc => by
    rcases List.mem_append.mp hs with q | q
    · exact h.c s q c hc
    · rw [List.mem_singleton.mp q] at hc
      cases hc⟩
theorem Big.add {b t : Nat} {y : List (List Cho)} {c : Cho} (h : Big b t y) (hc : c.2.length ≤ b) (hy : y ≠ []) : Big b (t + 1) (addL y c) := by
  have hl : y.length - 1 < y.length := by
    have : y.length ≠ 0 := fun e => hy (List.length_eq_zero_iff.mp e)
    omega
  have gm : y.getD (y.length - 1) [] ∈ y := by
    rw [List.getD_eq_getElem?_getD, List.getElem?_eq_getElem hl]
    exact List.getElem_mem hl
  refine ⟨by rw [add_len]; have := h.n; omega, fun s hs => ?_, fun s hs d hd => ?_⟩
  · unfold addL at hs
    rcases List.mem_or_eq_of_mem_set hs with q | q
    · have := h.s s q
      omega
    · rw [q, List.length_append, List.length_singleton]
      have := h.s _ gm
      omega
  · unfold addL at hs
    rcases List.mem_or_eq_of_mem_set hs with q | q
    · exact h.c s q d hd
    · rw [q] at hd
      rcases List.mem_append.mp hd with z | z
      · exact h.c _ gm d z
      · rw [List.mem_singleton.mp z]
        exact hc
theorem lread_ok {l : List Nat} {k : PyData → Prop} (hl : l.length ≤ 80000) (q : k (readT l)) : (den_l_read [.str (sg l)]).okTo k := by
  unfold den_l_read body_l_read
  refine w_denP ?_
  walk_at "st"
  walk_at "wv"
  have ll : (sg l).length ≤ 100000 := by rw [sg_len]; omega
  obtain ⟨p1, p2⟩ := splitL_len (c := 10) (l := l)
  unfold readT at q
  rw [nl_]
  refine ⟨⟨by rw [sg_len]; rfl, ll⟩, ?_⟩
  rw [split_sg l (by decide)]
  generalize hps : splitL 10 l = ps at p1 p2 q
  walk_at "wv"
  rw [show List.map PyData.str (List.map sg ps) = ps.map fun p => PyData.str (sg p) from by rw [List.map_map]; rfl]
  refine ⟨by simp, ?_⟩
  walk_at "wv"
  rw [List.length_map]
  refine ⟨_, rfl, ⟨by omega, by omega⟩, ?_⟩
  refine loop_ok (fun t S => ∃ y, rdP 0 ps [] = rdP t (ps.drop t) y ∧ Big 80000 t y ∧ S = [some (.dat (.str (sg l))), some (.dat (.list (ps.map fun p => .str (sg p)))), some (.own (y.map dS)), none, none, none]) ?_ ?_ ⟨[], rfl, ⟨Nat.le_refl _, (fun _ h => nomatch h), (fun _ h => nomatch h)⟩, rfl⟩
  · rintro t d S hd ⟨y, hy, hb, rfl⟩
    obtain ⟨ht, rfl⟩ := rangeD_get hd
    have htl : t < ps.length := by omega
    have hx : ps[t]? = some ps[t] := List.getElem?_eq_getElem htl
    generalize ps[t] = x at hx
    have xl := p2 x (List.mem_of_getElem? hx)
    have hdr : ps.drop t = x :: ps.drop (t + 1) := by
      obtain ⟨hlt, z⟩ := List.getElem?_eq_some_iff.mp hx
      rw [List.drop_eq_getElem_cons hlt, z]
    have ixt : ixD (ps.map fun p => .str (sg p)) (t : Nat) = .ok (.str (sg x)) := ixD_nat (by rw [List.getElem?_map, hx]; rfl)
    have hy' : rdP 0 ps [] = if x = STATE then rdP (t + 1) (ps.drop (t + 1)) (y ++ [[]]) else if y = [] then .inl t else match rdL x with
      | none => .inl t
      | some c => rdP (t + 1) (ps.drop (t + 1)) (addL y c) := by
      rw [hy, hdr]
      rfl
    have bn := hb.n
    rw [Int.zero_add]
    walk_at "wv"
    refine okTo_eq ixt ?_
    walk_at "wv"
    rw [state_]
    by_cases c : x = STATE
    · refine ifP (decide_eq_true (sgi.mpr c)) ?_
      rw [if_pos c] at hy'
      walk_at "wv"
      refine ⟨by simp, ?_⟩
      walk_at "wv"
      refine ⟨by rw [List.length_map]; omega, y ++ [[]], hy', hb.new, ?_⟩
      show [_, _, _, _, _, _] = _
      rw [List.map_append]
      rfl
    · refine ifN (by rw [decide_eq_true_iff]; exact fun z => c (sgi.mp z)) ?_
      rw [if_neg c] at hy'
      walk_at "wv"
      refine okTo_eq ixt ?_
      walk_at "wv"
      refine ⟨rfl, lline_ok (by omega) ?_⟩
      walk_at "wv"
      by_cases cy : y = []
      · rw [if_pos cy] at hy'
        rw [hy'] at q
        refine ifP (by rw [cy]; rfl) (ifP trivial ?_)
        walk_at "wv"
        exact ⟨by simp, q⟩
      have yl : 0 < y.length := List.length_pos_iff.mpr cy
      rw [if_neg cy] at hy'
      refine ifN (by rw [decide_eq_true_iff, List.length_map]; omega) ?_
      walk_at "wv"
      cases hx2 : rdL x with
      | none =>
        rw [hx2] at hy'
        dsimp only at hy'
        rw [hy'] at q
        refine ifP rfl ?_
        walk_at "wv"
        exact ⟨by simp, q⟩
      | some c =>
        rw [hx2] at hy'
        dsimp only at hy'
        refine ifN (show ¬ isNone (dC c) = true from Bool.false_ne_true) ?_
        walk_at "wv"
        refine okTo_eq (a := .int (-1)) rfl ?_
        walk_at "wv"
        have ix : ixN (y.map dS).length (-1) = some (y.length - 1) := by
          unfold ixN
          rw [List.length_map, if_neg (by decide), if_pos (by omega)]
          congr 1
          omega
        have hl : y.length - 1 < y.length := by omega
        have il : ixD (y.map dS) (-1) = .ok (dS (y.getD (y.length - 1) [])) := by
          unfold ixD atI
          rw [ix]
          show (match (y.map dS)[y.length - 1]? with
            | some d => R.ok d
            | none => .bad) = _
          rw [List.getElem?_map, List.getD_eq_getElem?_getD, List.getElem?_eq_getElem hl]
          rfl
        refine okTo_eq il ?_
        walk_at "wv"
        refine ⟨by simp, ?_⟩
        have gm : y.getD (y.length - 1) [] ∈ y := by
          rw [List.getD_eq_getElem?_getD, List.getElem?_eq_getElem hl]
          exact List.getElem_mem hl
        have gb := hb.s _ gm
        have gc : gCatT (dS (y.getD (y.length - 1) [])) (.tuple [dOC (some c)]) = .ok (dS (y.getD (y.length - 1) [] ++ [c])) := by
          unfold dS gCatT
          refine (if_pos ?_).trans ?_
          · rw [List.length_map, List.length_singleton]
            omega
          · rw [List.map_append]
            rfl
        refine okTo_eq gc ?_
        walk_at "wv"
        refine okTo_eq (a := .int (-1)) rfl ?_
        walk_at "wv"
        refine ⟨y.length - 1, ix, addL y c, hy', hb.add (by have := rdL_len hx2; omega) cy, ?_⟩
        unfold addL
        rw [List.map_set]
  · rintro S ⟨y, hy, hb, rfl⟩
    rw [rangeD_len, show ((ps.length : Nat) : Int).toNat = ps.length from Int.toNat_natCast _] at hy hb
    rw [List.drop_length] at hy
    rw [show rdP 0 ps [] = .inr y from hy] at q
    dsimp only at q
    walk_at "wv"
    refine ⟨rfl, ldue_ok (by have := hb.n; omega) (fun s hs => by have := hb.s s hs; omega) (fun s hs c hc => by have := hb.c s hs c hc; omega) ?_⟩
    walk_at "wv"
    cases e : isNone (flt y) with
    | true =>
      rw [e, if_pos rfl] at q
      refine ifN (by decide) ?_
      walk_at "wv"
      exact ⟨by simp, q⟩
    | false =>
      rw [e, if_neg Bool.false_ne_true] at q
      refine ifP rfl ?_
      walk_at "wv"
      exact ⟨by simp, q⟩

end
section
/-! ### written systems: a text changed -/
open PySem L2 TL
def tot (ys : List Str) : Nat := (ys.map fun y => y.length + 1).sum
theorem tot_app (xs ys : List Str) : tot (xs ++ ys) = tot xs + tot ys := by
  unfold tot
  rw [List.map_append, List.sum_append]
theorem tot_one (x : Str) : tot [x] = x.length + 1 := rfl
theorem tot_cons (x : Str) (ys : List Str) : tot (x :: ys) = x.length + 1 + tot ys := rfl
theorem tot_len (ys : List Str) : ys.length ≤ tot ys := by
  induction ys with
  | nil => exact Nat.zero_le _
  | cons y r ih =>
    rw [tot_cons, List.length_cons]
    omega
theorem cut_map {α β : Type} (f : α → β) (ys : List α) (a b : Option Int) : cutD (ys.map f) a b = (cutD ys a b).map f := by
  unfold cutD
  rw [List.length_map, ← List.map_drop, ← List.map_take]
theorem tot_split {c : Nat} : ∀ {l : List Nat}, tot ((splitL c l).map sg) = l.length + 1 := by
  intro l
  induction hn : l.length using Nat.strongRecOn generalizing l with
  | ind n ih =>
    by_cases h : c ∈ l
    · cases e : cut2 c l with
      | none => exact absurd h (cut2_none e)
      | some p =>
        obtain ⟨e1, e2⟩ := cut2_some e
        have hl : l.length = p.1.length + (p.2.length + 1) := by
          have := congrArg List.length e1
          rw [List.length_append, List.length_cons] at this
          exact this
        have := ih p.2.length (by omega) rfl
        rw [e1, splitL_cut e2, List.map_cons, tot_cons, sg_len, this]
        omega
    · rw [splitL_free h, List.map_singleton, tot_one, sg_len]
      omega
theorem join_len {c : Nat} {ys : List Str} : (Txt.join (sg [c]) ys).length ≤ tot ys := by
  have e : ys = (ys.map fun y => y.cps.toList).map sg := by
    rw [List.map_map]
    exact (List.map_id ys).symm.trans (List.map_congr_left fun y _ => (sg_of y).symm)
  have e2 : tot ys = ((ys.map fun y => y.cps.toList).map fun p => p.length + 1).sum := by
    unfold tot
    rw [List.map_map]
    rfl
  rw [e2]
  generalize ys.map (fun y => y.cps.toList) = xs at e
  rw [e, join_sg, sg_len]
  exact sum_len
theorem joinT {c : Nat} {ys : List Str} {k : PyData → Prop} (hb : tot ys ≤ 100000) (q : ∀ x : Str, x.length ≤ tot ys → k (.str x)) : (joinD (sg [c]) (ys.map PyData.str)).okTo k := by
  refine w_joinD ⟨?_, q _ join_len⟩
  rw [sg_len, List.length_singleton, Nat.mul_one]
  refine Nat.le_trans (Nat.le_of_eq ?_) hb
  unfold tot
  induction ys with
  | nil => rfl
  | cons y r ih =>
    have ih' := ih (by rw [tot_cons] at hb; omega) fun x hx => q x (by rw [tot_cons]; omega)
    rw [List.map_cons, List.sum_cons, List.length_cons, List.map_cons, List.sum_cons, ← ih']
    omega
theorem w_denB6 {N : Nat} {fs : VS} {bs ds : List PyData} {k : PyData × List PyData → Prop} (h : (fs (some (.own bs) :: startS (N - 1) ds)).okTo fun fl => match fl with
    | .nx S => ∃ cs, S.head? = some (some (.own cs)) ∧ k (.none, cs)
    | .rt d S => ∃ cs, S.head? = some (some (.own cs)) ∧ k (d, cs)
    | _ => False) : (denB N fs bs ds).okTo k := by
  unfold denB endB
  refine okTo_bind.mpr (h.mono fun fl q => ?_)
  cases fl with
  | nx S =>
    obtain ⟨cs, e, q⟩ := q
    refine okTo_bind.mpr ?_
    unfold ownD
    rw [← List.head?_eq_getElem?, e]
    exact q
  | rt d S =>
    obtain ⟨cs, e, q⟩ := q
    refine okTo_bind.mpr ?_
    unfold ownD
    rw [← List.head?_eq_getElem?, e]
    exact q
  | bk S => exact q.elim
  | ct S => exact q.elim
theorem pickD {ds : List PyData} {r : Int} {k : PyData → Prop} (h0 : 0 ≤ r) (h1 : r < (ds.length : Int)) (h : ∀ d ∈ ds, k d) : (ixD ds r).okTo k := by
  obtain ⟨t, rfl⟩ : ∃ t : Nat, r = (t : Nat) := ⟨r.toNat, by omega⟩
  have ht : t < ds.length := by omega
  exact okTo_eq (ixD_nat (List.getElem?_eq_getElem ht)) (h _ (List.getElem_mem ht))
theorem cut_lo (ys : List Str) (t : Nat) (h : t ≤ ys.length) : cutD ys none (some (t : Nat)) = ys.take t := by
  unfold cutD
  rw [HT.sIx_none, HT.sIx_nat, Nat.min_eq_left h, Nat.sub_zero, List.drop_zero]
theorem cut_hi (ys : List Str) (t : Nat) (h : t ≤ ys.length) : cutD ys (some (t : Nat)) none = ys.drop t := by
  unfold cutD
  rw [HT.sIx_none, HT.sIx_nat, Nat.min_eq_left h]
  exact List.take_of_length_le (by rw [List.length_drop]; omega)
/-- a list of texts, cut at a place -/
structure Cut (ys : List Str) (a : Int) (y : Str) : Prop where
  m : y ∈ ys
  ix : ixD (ys.map PyData.str) a = .ok (.str y)
  t : tot (cutD ys none (some a)) + (y.length + 1) + tot (cutD ys (some (a + 1)) none) = tot ys
  l : (cutD ys none (some a)).length + 1 + (cutD ys (some (a + 1)) none).length = ys.length
  t2 : tot (cutD ys none (some a)) + tot (cutD ys (some a) none) = tot ys
  l2 : (cutD ys none (some a)).length + (cutD ys (some a) none).length = ys.length
theorem cut_at {ys : List Str} {a : Int} (h0 : 0 ≤ a) (h1 : a < (ys.length : Int)) : ∃ y, Cut ys a y := by
  obtain ⟨t, rfl⟩ : ∃ t : Nat, a = (t : Nat) := ⟨a.toNat, by omega⟩
  have ht : t < ys.length := by omega
  have e : ys.drop t = ys[t] :: ys.drop (t + 1) := List.drop_eq_getElem_cons ht
  have e2 : ys.take t ++ ys.drop t = ys := List.take_append_drop t ys
  have lo := cut_lo ys t (by omega)
  have hi := cut_hi ys t (by omega)
  have hi2 := cut_hi ys (t + 1) (by omega)
  have f := tot_app (ys.take t) (ys.drop t)
  rw [e2] at f
  refine ⟨ys[t], List.getElem_mem ht, ixD_nat (by rw [List.getElem?_map, List.getElem?_eq_getElem ht]; rfl), ?_, ?_, ?_, ?_⟩
  · rw [show ((t : Nat) : Int) + 1 = ((t + 1 : Nat) : Int) from by omega, lo, hi2, f, e, tot_cons]
    omega
  · rw [show ((t : Nat) : Int) + 1 = ((t + 1 : Nat) : Int) from by omega, lo, hi2, List.length_take, List.length_drop]
    omega
  · rw [lo, hi, f]
  · rw [lo, hi, List.length_take, List.length_drop]
    omega
theorem changed_ok {ts : List Int} {n : Int} {bs : List PyData} {l : List Nat} {N : Nat} {k : PyData × List PyData → Prop} (b : Box ts n bs) (hn : n ≤ 2 ^ 37) (hl : l.length ≤ N) (hN : N ≤ 20000)
    (h : ∀ (x : Str) bs', x.length ≤ 2 * N + 40 → Box ts (n + 10) bs' → k (.str x, bs')) : (den_l_changed bs [.str (sg l)]).okTo k := by
  unfold den_l_changed body_l_changed
  refine w_denB6 ?_
  walk_at "st"
  have ll : (sg l).length ≤ 100000 := by rw [sg_len]; omega
  walk_at "wv"
  rw [nl_]
  refine ⟨⟨by rw [sg_len]; rfl, ll⟩, ?_⟩
  rw [split_sg l (by decide)]
  have t1 := tot_split (c := 10) (l := l)
  have pn : ((splitL 10 l).map sg) ≠ [] := by simpa using splitL_ne 10 l
  generalize (splitL 10 l).map sg = ys at t1 pn
  have yl := List.length_pos_iff.mpr pn
  have yt := tot_len ys
  generalize hx : sg l = x at ll
  have xl : x.length = l.length := by rw [← hx, sg_len]
  have end_ : ∀ {m : Nat} {bs' : List PyData} {zs : List Str}, m ≤ 10 → Box ts (n + (m : Nat)) bs' → tot zs ≤ 2 * N + 40 → (joinD (sg [10]) (zs.map PyData.str)).okTo fun z => ∃ cs, (some (some (SV.own bs'))) = some (some (SV.own cs)) ∧ k (z, cs) := fun {m bs' zs} hm b' hz =>
    joinT (by omega) fun x hx => ⟨bs', rfl, h x bs' (by omega) (b'.up (by omega))⟩
  walk_at "wv"
  refine ⟨rfl, take_ok b (by omega) (by rw [List.length_map]; omega) fun a bs1 a0 a1 b1 => ?_⟩
  rw [List.length_map] at a1
  walk_at "wv"
  refine ⟨rfl, take_ok b1 (by omega) (by decide) fun way bs2 w0 w1 b2 => ?_⟩
  walk_at "wv"
  obtain ⟨y, C⟩ := cut_at a0 a1
  have ea := C.ix
  have ct := C.t
  have cl := C.l
  generalize hA : cutD ys none (some a) = A at ct cl
  generalize hZ : cutD ys (some (a + 1)) none = Z at ct cl
  have lA := tot_len A
  have lZ := tot_len Z
  by_cases q0 : way = 0
  · refine ifP (decide_eq_true q0) ?_
    walk_at "wv"
    rw [cut_map, cut_map, hA, hZ]
    refine ⟨by rw [List.length_map, List.length_map]; omega, ?_⟩
    walk_at "wv"
    refine ⟨(A ++ Z).map PyData.str, by rw [List.map_append]; rfl, end_ (m := 2) (by decide) (b2.up (by omega)) (by rw [tot_app]; omega)⟩
  refine ifN (by rw [decide_eq_true_iff]; exact q0) ?_
  walk_at "wv"
  by_cases q1 : way = 1
  · refine ifP (decide_eq_true q1) ?_
    walk_at "wv"
    rw [cut_map, hA]
    refine okTo_eq ea ?_
    walk_at "wv"
    refine okTo_eq ea ?_
    walk_at "wv"
    refine ⟨by simp, ?_⟩
    walk_at "wv"
    refine ⟨by rw [List.length_map]; show A.length + 2 ≤ _; omega, ?_⟩
    walk_at "wv"
    rw [cut_map, hZ]
    refine ⟨by rw [List.length_append, List.length_map, List.length_map]; show A.length + 2 + Z.length ≤ _; omega, ?_⟩
    walk_at "wv"
    refine ⟨(A ++ [y, y] ++ Z).map PyData.str, by rw [List.map_append, List.map_append]; rfl, end_ (m := 2) (by decide) (b2.up (by omega)) ?_⟩
    rw [tot_app, tot_app, tot_cons, tot_one]
    omega
  refine ifN (by rw [decide_eq_true_iff]; exact q1) ?_
  walk_at "wv"
  by_cases q2 : way = 2
  · refine ifP (decide_eq_true q2) ?_
    walk_at "wv"
    rw [cut_map, hA]
    refine ⟨by simp, ?_⟩
    walk_at "wv"
    refine ⟨rfl, take_ok b2 (by omega) (by decide) fun m bs3 m0 m1 b3 => ?_⟩
    walk_at "wv"
    refine pickD m0 (by simpa using m1) fun d hd => ?_
    obtain ⟨w, rfl, hw⟩ : ∃ w : Str, d = .str w ∧ w.length ≤ 8 := by
      simp only [List.mem_cons, List.not_mem_nil, or_false] at hd
      rcases hd with rfl | rfl | rfl | rfl <;> exact ⟨_, rfl, by decide +kernel⟩
    walk_at "wv"
    refine ⟨by simp, ?_⟩
    walk_at "wv"
    refine ⟨by rw [List.length_map]; show A.length + 1 ≤ _; omega, ?_⟩
    walk_at "wv"
    rw [cut_map, hZ]
    refine ⟨by rw [List.length_append, List.length_map, List.length_map]; show A.length + 1 + Z.length ≤ _; omega, ?_⟩
    walk_at "wv"
    refine ⟨(A ++ [w] ++ Z).map PyData.str, by rw [List.map_append, List.map_append]; rfl, end_ (m := 3) (by decide) (b3.up (by omega)) ?_⟩
    rw [tot_app, tot_app, tot_one]
    omega
  refine ifN (by rw [decide_eq_true_iff]; exact q2) ?_
  walk_at "wv"
  by_cases q3 : way = 3
  · refine ifP (decide_eq_true q3) ?_
    walk_at "wv"
    refine ⟨ll, ?_⟩
    walk_at "wv"
    refine ⟨rfl, take_ok b2 (by omega) (by omega) fun p bs3 p0 p1 b3 => ?_⟩
    walk_at "wv"
    have l1 := cutS_length x none (some p)
    have l2 := cutS_length x (some p) none
    refine ⟨ll, ?_⟩
    walk_at "wv"
    refine ⟨by simp, ?_⟩
    walk_at "wv"
    refine ⟨rfl, take_ok b3 (by omega) (by decide) fun m bs4 m0 m1 b4 => ?_⟩
    walk_at "wv"
    refine pickD m0 (by simpa using m1) fun d hd => ?_
    obtain ⟨w, rfl, hw⟩ : ∃ w : Str, d = .str w ∧ w.length ≤ 8 := by
      simp only [List.mem_cons, List.not_mem_nil, or_false] at hd
      rcases hd with rfl | rfl | rfl | rfl | rfl | rfl <;> exact ⟨_, rfl, by decide +kernel⟩
    walk_at "wv"
    refine ⟨by omega, ?_⟩
    walk_at "wv"
    refine ⟨ll, ?_⟩
    walk_at "wv"
    refine ⟨by rw [app_len]; omega, ?_⟩
    walk_at "wv"
    exact ⟨_, rfl, h _ _ (by rw [app_len, app_len]; omega) (b4.up (by omega))⟩
  refine ifN (by rw [decide_eq_true_iff]; exact q3) ?_
  walk_at "wv"
  by_cases q4 : way = 4
  · refine ifP (decide_eq_true q4) ?_
    walk_at "wv"
    refine ⟨ll, ?_⟩
    walk_at "wv"
    refine ⟨rfl, take_ok b2 (by omega) (by omega) fun p bs3 p0 p1 b3 => ?_⟩
    walk_at "wv"
    have l1 := cutS_length x none (some p)
    have l2 := cutS_length x (some (p + 1)) none
    refine ⟨ll, ?_⟩
    walk_at "wv"
    refine ⟨ll, ?_⟩
    walk_at "wv"
    refine ⟨by omega, ?_⟩
    walk_at "wv"
    exact ⟨_, rfl, h _ _ (by rw [app_len]; omega) (b3.up (by omega))⟩
  refine ifN (by rw [decide_eq_true_iff]; exact q4) ?_
  walk_at "wv"
  refine okTo_eq ea ?_
  walk_at "wv"
  have yb : y.length ≤ N := by omega
  rw [space_]
  refine ⟨⟨by rw [sg_len]; rfl, by omega⟩, ?_⟩
  obtain ⟨yL, rfl⟩ : ∃ yL, y = sg yL := ⟨y.cps.toList, (sg_of y).symm⟩
  rw [split_sg yL (by decide)]
  have t2 := tot_split (c := 32) (l := yL)
  have pn2 : ((splitL 32 yL).map sg) ≠ [] := by simpa using splitL_ne 32 yL
  generalize (splitL 32 yL).map sg = ws at t2 pn2
  rw [sg_len] at yb ct
  have wl := List.length_pos_iff.mpr pn2
  have wt := tot_len ws
  walk_at "wv"
  refine ⟨rfl, take_ok b2 (by omega) (by rw [List.length_map]; omega) fun p bs3 p0 p1 b3 => ?_⟩
  rw [List.length_map] at p1
  walk_at "wv"
  refine ⟨by simp, ?_⟩
  walk_at "wv"
  refine ⟨by simp, ?_⟩
  walk_at "wv"
  refine ⟨by simp, ?_⟩
  walk_at "wv"
  refine ⟨rfl, take_ok b3 (by omega) (by decide) fun m bs4 m0 m1 b4 => ?_⟩
  walk_at "wv"
  refine pickD m0 (by simpa using m1) fun d hd => ?_
  obtain ⟨w, rfl, hw⟩ : ∃ w : Str, d = .str w ∧ w.length ≤ 8 := by
    simp only [List.cons_append, List.nil_append, List.mem_cons, List.not_mem_nil, or_false] at hd
    rcases hd with rfl | rfl | rfl | rfl | rfl | rfl | rfl | rfl | rfl | rfl | rfl | rfl | rfl | rfl | rfl | rfl <;> exact ⟨_, rfl, by decide +kernel⟩
  generalize ([PyData.str (Str.ofString "0"), _, _, _, _, _, _, _] ++ _ : List PyData) = menu
  walk_at "wv"
  obtain ⟨u, U⟩ := cut_at p0 p1
  have ut := U.t
  have ul := U.l
  have ut2 := U.t2
  have ul2 := U.l2
  generalize hA2 : cutD ws none (some p) = A2 at ut ul ut2 ul2
  generalize hZ2 : cutD ws (some (p + 1)) none = Z2 at ut ul
  generalize hY2 : cutD ws (some p) none = Y2 at ut2 ul2
  refine ite_joinB (P := fun fl => ∃ zs : List Str, tot zs ≤ tot ws + 9 ∧ fl = .nx [some (.own bs4), some (.dat (.str x)), some (.dat (.list (ys.map PyData.str))), some (.dat (.int a)), some (.dat (.int way)), some (.dat (.list (zs.map PyData.str))), some (.dat (.int p)), some (.dat (.list menu)), some (.dat (.str w))]) ?_ (fun cc => ?_) (fun cc => ?_)
  rotate_left 1
  · walk_at "wv"
    rw [cut_map, hA2]
    refine ⟨by simp, ?_⟩
    walk_at "wv"
    refine ⟨by rw [List.length_map]; show A2.length + 1 ≤ _; omega, ?_⟩
    walk_at "wv"
    rw [cut_map, hZ2]
    refine ⟨by rw [List.length_append, List.length_map, List.length_map]; show A2.length + 1 + Z2.length ≤ _; omega, ?_⟩
    walk_at "wv"
    refine ⟨A2 ++ [w] ++ Z2, by rw [tot_app, tot_app, tot_one]; omega, ?_⟩
    rw [List.map_append, List.map_append]
    rfl
  · walk_at "wv"
    refine ite_joinB (P := fun fl => ∃ zs : List Str, tot zs ≤ tot ws + 9 ∧ fl = .nx [some (.own bs4), some (.dat (.str x)), some (.dat (.list (ys.map PyData.str))), some (.dat (.int a)), some (.dat (.int way)), some (.dat (.list (zs.map PyData.str))), some (.dat (.int p)), some (.dat (.list menu)), some (.dat (.str w))]) (fun _ h => h) (fun cc => ?_) (fun cc => ?_)
    · walk_at "wv"
      rw [cut_map, hA2, cut_map, hZ2]
      refine ⟨by rw [List.length_map, List.length_map]; omega, ?_⟩
      walk_at "wv"
      refine ⟨A2 ++ Z2, by rw [tot_app]; omega, ?_⟩
      rw [List.map_append]
    · walk_at "wv"
      rw [cut_map, hA2]
      refine ⟨by simp, ?_⟩
      walk_at "wv"
      refine ⟨by rw [List.length_map]; show A2.length + 1 ≤ _; omega, ?_⟩
      walk_at "wv"
      rw [cut_map, hY2]
      refine ⟨by rw [List.length_append, List.length_map, List.length_map]; show A2.length + 1 + Y2.length ≤ _; omega, ?_⟩
      walk_at "wv"
      refine ⟨A2 ++ [w] ++ Y2, by rw [tot_app, tot_app, tot_one]; omega, ?_⟩
      rw [List.map_append, List.map_append]
      rfl
  rintro fl ⟨zs, tz, rfl⟩
  walk_at "wv"
  rw [cut_map, hA]
  refine ⟨zs.map PyData.str, rfl, joinT (by omega) fun v hv => ?_⟩
  walk_at "wv"
  refine ⟨by simp, ?_⟩
  walk_at "wv"
  refine ⟨by rw [List.length_map]; show A.length + 1 ≤ _; omega, ?_⟩
  walk_at "wv"
  rw [cut_map, hZ]
  refine ⟨by rw [List.length_append, List.length_map, List.length_map]; show A.length + 1 + Z.length ≤ _; omega, ?_⟩
  walk_at "wv"
  refine ⟨(A ++ [v] ++ Z).map PyData.str, by rw [List.map_append, List.map_append]; rfl, end_ (m := 4) (by decide) (b4.up (by omega)) ?_⟩
  rw [tot_app, tot_app, tot_one]
  omega

end
section
/-! ### written systems: k06's law -/
open PySem L2 TL
theorem rdP_big {b : Nat} : ∀ {ls : List (List Nat)} {k t : Nat} {y y' : List (List Cho)}, (∀ x ∈ ls, x.length ≤ b) → Big b t y → rdP k ls y = .inr y' → Big b (t + ls.length) y'
  | [], k, t, y, y', _, hb, h => by
    unfold rdP at h
    injection h with h
    rw [← h]
    exact hb
  | x :: r, k, t, y, y', hl, hb, h => by
    unfold rdP at h
    have hr : ∀ z ∈ r, z.length ≤ b := fun z hz => hl z (List.mem_cons_of_mem _ hz)
    rw [List.length_cons, show t + (r.length + 1) = t + 1 + r.length by omega]
    split at h
    · exact rdP_big hr hb.new h
    · split at h
      · cases h
      · rename_i c1 c2
        split at h
        · cases h
        · rename_i c e
          exact rdP_big hr (hb.add (by have := rdL_len e; have := hl x List.mem_cons_self; omega) c2) h
theorem dn_big {b t : Nat} {y : List (List Cho)} (h : Big b t y) (hb : b ≤ 100000) (ht : t ≤ 100000) : Dn 5 (dY y) := .tup (by rw [List.length_map]; have := h.n; omega) fun d hd => by
  obtain ⟨s, hs, rfl⟩ := List.mem_map.mp hd
  refine .tup (by rw [List.length_map]; have := h.s s hs; omega) fun d hd => ?_
  obtain ⟨c, hc, rfl⟩ := List.mem_map.mp hd
  refine .tup (by simp) fun d hd => ?_
  simp only [List.mem_cons, List.not_mem_nil, or_false] at hd
  rcases hd with rfl | rfl
  · exact .int _ _
  · refine .tup (by rw [List.length_map]; have := h.c s hs c hc; omega) fun d hd => ?_
    obtain ⟨e, _, rfl⟩ := List.mem_map.mp hd
    exact dn_pr e
theorem dn_t3 {n : Nat} {x : Str} {i j : Int} : Dn (n + 1) (.tuple [.str x, .int i, .int j]) := .tup (by simp) fun d hd => by
  simp only [List.mem_cons, List.not_mem_nil, or_false] at hd
  rcases hd with rfl | rfl | rfl
  · exact .str _ _
  · exact .int _ _
  · exact .int _ _
theorem dn_t2 {n : Nat} {x : Str} {d : PyData} (h : Dn n d) : Dn (n + 1) (.tuple [.str x, d]) := .tup (by simp) fun e he => by
  simp only [List.mem_cons, List.not_mem_nil, or_false] at he
  rcases he with rfl | rfl
  · exact .str _ _
  · exact h
theorem dn_fltC {m st : Int} : ∀ {l : List Cho} {k : Nat}, Dn 5 (fltC m st k l)
  | [], _ => .non _
  | c :: r, k => by
    unfold fltC
    split
    · split
      · exact dn_fltC
      · exact dn_t3
    · exact dn_t3
theorem dn_fltS {m st : Int} {s : List Cho} : Dn 5 (fltS m st s) := by
  unfold fltS
  split
  · exact dn_fltC
  · exact dn_t2 (.int _ _)
theorem dn_fltY {m : Int} : ∀ {y : List (List Cho)} {k : Nat}, Dn 5 (fltY m k y)
  | [], _ => .non _
  | s :: r, k => by
    rw [fltY_cons]
    split
    · exact dn_fltY
    · exact dn_fltS
theorem dn_flt {y : List (List Cho)} : Dn 5 (flt y) := by
  unfold flt
  split
  · exact dn_fltY
  · exact .tup (by simp) fun d hd => by
      rw [List.mem_singleton.mp hd]
      exact .str _ _
theorem big_nil {b : Nat} : Big b 0 [] := ⟨Nat.le_refl _, fun s h => absurd h (by simp), fun s h => absurd h (by simp)⟩
theorem dn_read {l : List Nat} (hl : l.length ≤ 80000) : Dn 6 (readT l) := by
  unfold readT
  obtain ⟨p1, p2⟩ := splitL_len (c := 10) (l := l)
  cases e : rdP 0 (splitL 10 l) [] with
  | inl n => exact dn_t2 (.int _ _)
  | inr y =>
    dsimp only
    split
    · exact dn_t2 (dn_big (rdP_big (b := 80000) (t := 0) (fun x hx => by have := p2 x hx; omega) big_nil e) (by decide) (by omega))
    · exact dn_t2 dn_flt
theorem txt_small {y : List (List Cho)} (h : SysOk 3 y.length y) (hl : y.length ≤ 4) : (txt y).length ≤ 1700 := by
  have hn := sysN_small h (by omega)
  have ll : (lines y).length ≤ 16 := by
    have go : ∀ ss : List (List Cho), (∀ s ∈ ss, s.length ≤ 3) → (lines ss).length ≤ 4 * ss.length := by
      intro ss
      induction ss with
      | nil => intro _; exact Nat.zero_le _
      | cons s r ih =>
        intro q
        have := ih fun x hx => q x (List.mem_cons_of_mem _ hx)
        have := q s List.mem_cons_self
        show (STATE :: s.map lineC ++ lines r).length ≤ _
        rw [List.length_append, List.length_cons, List.length_map, List.length_cons]
        omega
    have := go y fun s hs => (h.st s hs).2
    omega
  unfold txt
  refine Nat.le_trans sum_len (Nat.le_trans (sum_le (b := 100) fun p hp => ?_) (by omega))
  obtain ⟨s, hs, hp⟩ := List.mem_flatMap.mp hp
  rcases List.mem_cons.mp hp with rfl | hp
  · decide
  · obtain ⟨c, hc, rfl⟩ := List.mem_map.mp hp
    exact lineC_len (hn.num s hs c hc)
theorem law_worth {ns : List Int} (hl : ns.length ≤ 63) : (den_law ns).okTo fun z => z = .bool true := by
  unfold den_law body_law
  refine w_denS ?_
  simp only [Nat.reduceSub, List.replicate_succ, List.replicate_zero]
  walk_at "wv"
  refine tape_ok hl fun ts ht => ?_
  walk_at "wv"
  refine ⟨by simp, ?_⟩
  have b : Box ts 0 [dL ts, .int 0] := ⟨ht, 0, Int.le_refl _, Int.le_refl _, rfl⟩
  walk_at "wv"
  refine ⟨rfl, system_ok b (by decide) (by decide) fun y bs1 ys yl b1 => ?_⟩
  have yn := sysN_small ys (by omega)
  have ts4 := txt_small ys (by omega)
  walk_at "wv"
  refine ⟨rfl, ltext_ok yn ?_⟩
  generalize txt y = l at ts4
  walk_at "wv"
  refine ⟨_, rfl, ⟨by omega, by omega⟩, ?_⟩
  refine loop_ok (fun t S => ∃ (bs : List PyData), S = [some (.scr ns), some (.own bs), some (.dat (.str (sg l))), none, none, none] ∧ Box ts (10000 + 100 * t) bs) ?_ ?_ ⟨bs1, rfl, b1.up (by omega)⟩
  · rintro t d S ht ⟨bs, rfl, b⟩
    obtain ⟨ht1, rfl⟩ := rangeD_get ht
    have ht5 : t < 5 := ht1
    walk_at "wv"
    refine ⟨rfl, take_ok b (by omega) (by decide) fun m bs2 m0 m1 b2 => ?_⟩
    walk_at "wv"
    refine ⟨_, rfl, ⟨by omega, by omega⟩, ?_⟩
    refine loop_ok (fun p S => ∃ (bs : List PyData) (x : List Nat), S = [some (.scr ns), some (.own bs), some (.dat (.str (sg l))), none, some (.dat (.str (sg x))), none] ∧ x.length + 40 ≤ 1740 * 2 ^ p ∧ Box ts (10001 + 100 * t + 10 * p) bs) ?_ ?_ ⟨bs2, l, rfl, by omega, b2.up (by omega)⟩
    · rintro p d S hp ⟨bs, x, rfl, xl, b⟩
      obtain ⟨hp1, rfl⟩ := rangeD_get hp
      have hp3 : p < 3 := by omega
      have pw : 2 ^ p ≤ 4 := by
        have := Nat.pow_le_pow_right (n := 2) (by decide) (show p ≤ 2 by omega)
        omega
      walk_at "wv"
      refine ⟨rfl, changed_ok b (by omega) (Nat.le_refl _) (by omega) fun v bs3 vl b3 => ?_⟩
      walk_at "wv"
      refine ⟨bs3, v.cps.toList, ?_, ?_, b3.up (by omega)⟩
      · rw [sg_of]
      · have e : v.cps.toList.length = v.length := by
          rw [← sg_len v.cps.toList, sg_of]
        rw [e, Nat.pow_succ]
        omega
    · rintro S ⟨bs, x, rfl, xl, b⟩
      rw [rangeD_len] at xl b
      have pw : 2 ^ (1 + m).toNat ≤ 8 := by
        have := Nat.pow_le_pow_right (n := 2) (by decide) (show (1 + m).toNat ≤ 3 by omega)
        omega
      have x8 : x.length ≤ 80000 := by omega
      walk_at "wv"
      refine ⟨rfl, told_ok x8 ?_⟩
      walk_at "wv"
      refine ⟨rfl, lread_ok x8 ?_⟩
      walk_at "wv"
      refine ⟨rfl, okTo_eq (denEq_ok rfl (dn_read x8)) ?_⟩
      walk_at "wv"
      exact ⟨bs, by first | trivial | rfl, b.up (by omega)⟩
  · rintro S ⟨bs, rfl, b⟩
    walk_at "wv"
    rw [show Str.ofString "" = sg [] from by decide +kernel]
    refine ⟨rfl, told_ok (by simp) ?_⟩
    walk_at "wv"
    refine ⟨by simp, ?_⟩
    walk_at "wv"
    refine ⟨rfl, okTo_eq (denEq_ok rfl (dn_read (by simp))) ?_⟩
    walk_at "wv"

end
end Bo
/-! ### several clauses 'except x as n', one behind the other -/
namespace Bo
open PySem PySem.Spec PyProof.Rows L2
abbrev Clause := Value × (Addr → Value → Option Addr → TS)
/-- what the clauses wish of an exception; slot i is the name's -/
def wAll (K : PySem.W.Frag) (i : Nat) (Wout : WX) (D : Ends) : List Clause → WX
  | [] => Wout
  | p :: r => wAs K p.1 i p.2 (wAll K i Wout D r) D
inductive Clauses (X : Cx) (n : Str) : List ExceptHandler → List Clause → Prop
  | nil : Clauses X n [] []
  | cons {x : Str} {c : Value} {ts : Addr → Value → Option Addr → TS} {b₀ : Stmt} {suite : List Stmt} {np pos' : Pos} {hds : List ExceptHandler} {l : List Clause} (hc : Names X x c)
      (hsu : ∀ (a : Addr) (oe : Obj) (cls : Value) (d : Option Addr) (pn : List (Addr × Obj)), Zc cls d oe → (∃ vs, oe.data = .fields vs) → PSs (X.suite a ((a, oe) :: pn)) (b₀ :: suite) (ts a cls d)) (r : Clauses X n hds l) :
      Clauses X n (.ExceptHandler (some (.Name x np)) (some n) (b₀ :: suite) pos' :: hds) ((c, ts) :: l)
/-- an exception caught, its flight down; sI is the state without it -/
structure Caught (X : Cx) (B : Heap) (a : Addr) (cls : Value) (d : Option Addr) (pins : List (Addr × Obj)) (σ : L2.St) (H : Hp) (sI s : Shared) : Prop where
  inv : Inv X pins σ H sI
  nb : ∀ b o, sI.heap.get? b = some o → b ∉ frs X.stack → B.get? b = some o
  up : sI.heap.UpToSlots s.heap
  fly : HandSPX.FlyingZ B (X.env :: X.outer) a (Zc cls d) s.heap
  na : H a = none
  os : s.os = sI.os
  ag : AllBare s.gens
section
variable {X : Cx} {B : Heap} {a : Addr} {cls : Value} {d : Option Addr} {pins : List (Addr × Obj)} {σ : L2.St} {H : Hp} {sI s : Shared}
theorem Caught.set (c : Caught X B a cls d pins σ H sI s) {h : Heap} (f : HandSPX.FlyingZ B (X.env :: X.outer) a (Zc cls d) h) (u : s.heap.UpToSlots h) : Caught X B a cls d pins σ H sI { s with heap := h } :=
  ⟨c.inv, c.nb, c.up.trans u, f, c.na, c.os, c.ag⟩
theorem Caught.here (c : Caught X B a cls d pins σ H sI s) : Inv X pins σ H s := c.inv.landed c.nb c.fly.1 c.up c.os c.ag
theorem Caught.suite (c : Caught X B a cls d pins σ H sI s) (hf : X.env.frame = some X.env.locals) : ∃ oe, Zc cls d oe ∧ (∃ vs, oe.data = .fields vs) ∧ Inv (X.suite a ((a, oe) :: (X.pn ++ pins))) [] σ H s ∧ s.heap.get? a = some oe := by
  obtain ⟨oe, vs, he, hz, hd⟩ := c.fly.there
  have away : a ∉ frs (X.env :: X.outer) := fun hm => by
    obtain ⟨_, o, e, nf⟩ := c.fly.2.2.1.mem hm
    rw [he] at e
    cases e
    exact nf _ hd
  refine ⟨oe, hz, ⟨_, hd⟩, c.here.suite he hd c.na (fun z => away ?_) (fun hm => ?_), he⟩
  · exact List.mem_filterMap.mpr ⟨X.env, List.mem_cons_self, by rw [hf, z]⟩
  · obtain ⟨e, he', q⟩ := List.mem_filterMap.mp hm
    exact away (List.mem_filterMap.mpr ⟨e, List.mem_cons_of_mem _ he', q⟩)
variable {n : Str} {i : Nat} {Wout : WX} {D : Ends} {hds : List ExceptHandler} {l : List Clause}
theorem Caught.run (hs : X.stack = X.env :: X.outer) (hf : X.env.frame = some X.env.locals) (hN : X.N.Nodup) (hi : X.N[i]? = some n) (hln : X.env.kindOf n = some .local) (tk : Takes X Wout) (k : Clauses X n hds l) :
    ∀ {s : Shared}, Caught X B a cls d pins σ H sI s → wAll X.K i Wout D l cls d σ H → wpAny (model X.prog X.w) X.A (handleBy (.ref a) X.env hds) (SP X pins D) X.xe s := by
  induction k with
  | nil =>
    intro s c w
    refine wpAny_handleBy_nil ?_
    obtain ⟨_, _, _, oe, vs, T, _, _, he, _, hd, h1, _⟩ := id c.fly
    unfold PySem.passOn
    refine wpAny_bind (wpAny_field he hd h1 ?_)
    rw [if_neg (show ¬ ((Value.ref T == Value.none) = true) from by simp)]
    have out : wpAny (model X.prog X.w) X.A (setFlight (.ref a) X.env.frame) (fun _ s4 => wpAny (model X.prog X.w) X.A (throw (.ref a) : Sem Flow) (SP X pins D) X.xe s4) X.xe s := by
      rw [hf]
      exact HandSPX.setFlight_upZ c.fly fun h4 held up4 => wpAny_throw (tk _ _ ⟨a, B, sI, pins, σ, H, cls, d, rfl, c.inv, c.nb, c.up.trans up4, .inr (.inr (by rw [hs]; exact held)), c.na, c.os, c.ag, w⟩)
    first
      | exact wpAny_bind (wpAny_pure (wpAny_bind out))
      | exact wpAny_bind out
  | @cons x cv ts b₀ suite np pos' hds2 l2 hc hsu r ih =>
    intro s c w
    obtain ⟨b, hb1, yes, no⟩ := w
    obtain ⟨oe, hz, hd, S, he⟩ := c.suite hf
    refine wpAny_handleBy_cons (codeAny_handlers_test ?_) (by intro q; cases q)
    have LT : PySem.W.Looks (model X.prog X.w) s.heap (typeOf (.ref a)) cls := fun A Q E s k q => wpAny_typeOf_ref (k _ _ he) (by rw [hz.1]; exact q)
    have LM := PySem.W.exm_one (M := model X.prog X.w) c.here.kIn LT hb1
    have test : ∀ {Q : Value → Shared → Prop} {E : Value → Shared → Prop}, Q cv s → wpAny (model X.prog X.w) (X.A.mark (some (.ref a))) (eval (.Name x np) X.env) Q E s := fun {Q E} q => by
      obtain ⟨hg, hdbg, hm | ⟨hm, hv, hnn⟩⟩ := hc
      · exact ld_glob (X := X.suite a ((a, oe) :: (X.pn ++ pins))) S hg hm q hdbg
      · exact ld_blt (X := X.suite a ((a, oe) :: (X.pn ++ pins))) S hg hm hv q hnn hdbg
    refine test (LM.here ?_)
    cases b with
    | false =>
      show wpAny _ X.A (handleBy (.ref a) X.env hds2) _ _ _
      exact ih c (no rfl)
    | true =>
      have ok := c.inv.ok
      refine codeAny_handlers_suite_as ?_
      refine HandSPX.lands_againZ c.fly fun h4 fl4 up4 => ?_
      obtain ⟨oe4, hz4, hd4, S4, _⟩ := (c.set fl4 up4).suite hf
      refine store_ok (X := X.suite a ((a, oe4) :: (X.pn ++ pins))) (v := .ref a) S4 hN hi (.inl hln) rfl (fun s5 S5 => ?_) (.inr hln)
      refine wpAny_mono ((hsu a oe4 cls d (X.pn ++ pins) hz4 hd4).run [] s5 _ H _ S5 (yes rfl a c.na)) (fun f s6 hsp => ?_) (fun _ _ z => z.elim)
      have fin : ∀ {σ6 : L2.St} {H6 : Hp} {Q : Shared → Prop}, Inv (X.suite a ((a, oe4) :: (X.pn ++ pins))) [] σ6 H6 s6 → (∀ s7, Inv X pins (σ6.set i none) H6 s7 → Q s7) →
          wpAny (model X.prog X.w) X.A (do bindName X.env n .none; unbindBehindTheSuite X.env n pos') (fun _ s7 => Q s7) X.xe s6 := fun {σ6 H6 Q} S6 hq => gone_ok (S6.unsuite ok) hN hi hln hq
      cases f with
      | ret u =>
        obtain ⟨v6, σ6, H6, S6, r6, q6⟩ := hsp
        exact fin S6 fun s7 J7 => ⟨_, _, _, J7, r6, q6⟩
      | _ =>
        obtain ⟨σ6, H6, S6, q6⟩ := hsp
        exact fin S6 fun s7 J7 => ⟨_, _, J7, q6⟩
theorem ps_try_all {body : List Stmt} {h₀ : ExceptHandler} {pos : Pos} {tb : WX → TS} (hs : X.stack = X.env :: X.outer) (hf : X.env.frame = some X.env.locals) (hN : X.N.Nodup) (hi : X.N[i]? = some n) (hln : X.env.kindOf n = some .local) (tk : Takes X Wout)
    (hb : ∀ (W : WX) (pn : List (Addr × Obj)) (xe : Value → Shared → Prop), Takes (X.tr pn xe) W → PassesOwn (model X.prog X.w) X.A X.env xe → PSs (X.tr pn xe) body (tb W)) (k : Clauses X n (h₀ :: hds) l) :
    PS X (.Try body (h₀ :: hds) [] [] pos) (fun D σ H => tb (wAll X.K i Wout D l) D σ H) := by
  refine ⟨fun pins s σ H D I h => ?_⟩
  have ok := I.ok
  have hfr : X.A.frames = some (X.env :: X.outer) := by rw [ok.frames, hs]
  refine wpAny_Try_except ?_
  refine wpAny_mono ((hb (wAll X.K i Wout D l) (X.pn ++ pins) (fun e s₁ => wpAny (model X.prog X.w) X.A (noteFrame e X.env) (fun _ s₂ => wpAny (model X.prog X.w) X.A (setFlight e none) (fun _ s₃ =>
    wpAny (model X.prog X.w) X.A (handleBy e X.env (h₀ :: hds)) (SP X pins D) X.xe s₃) X.xe s₂) X.xe s₁) (fun u s' xx => ?_) PassesOwn.looking).run [] s σ H D (I.toTry _) h) (fun f s1 hsp => ?_) (fun e s1 he => he)
  · obtain ⟨a, B, sI, pins', σ', H', cls, d, rfl, J', nb, up, sky, na, os, ag, w⟩ := xx
    rw [show (X.tr (X.pn ++ pins) _).stack = X.env :: X.outer from hs] at sky
    exact Sky.land Zc.steady hfr hf sky fun h3 fl3 up3 => (Caught.run (Wout := Wout) hs hf hN hi hln tk k) ⟨J'.ofTry ok, nb, up.trans up3, fl3, na, os, ag⟩ w
  · cases f with
    | next =>
      obtain ⟨σ', H', J', q⟩ := hsp
      exact wpAny_execs_nil ⟨σ', H', J'.ofTry ok, q⟩
    | ret u =>
      obtain ⟨v, σ', H', J', r, q⟩ := hsp
      exact ⟨v, σ', H', J'.ofTry ok, r, q⟩
    | _ =>
      obtain ⟨σ', H', J', q⟩ := hsp
      exact ⟨σ', H', J'.ofTry ok, q⟩
end
end Bo

/-! ### a pair told behind a call -/
namespace Bo
open PySem PySem.Spec PyProof.Rows L2
theorem ifT {p q : Prop} (h : p) : if true = true then p else q := by
  rw [if_pos rfl]
  exact h
theorem pair_new {K : PySem.W.Frag} {H B H' B' : Hp} {Q : VK} {s : Str} {v : V} {z : PyData} (sH : Same H H') (sB : Same B B') (bh : Same B' H') (fz : Frz H B B') (dv : Da K B' v z)
    (h : ∀ v H' B', Same H H' → Same B B' → Same B' H' → Frz H B B' → Da K B' v (.tuple [.str s, z]) → Q v H') {p : Addr} (hp : H' p = none) : Q (.ref p) (upd H' p (.tup [.str s, v])) := by
  have hb : B' p = none := by
    cases e2 : B' p with
    | none => rfl
    | some o =>
      rw [bh p o e2] at hp
      cases hp
  have eB : Same B' (upd B' p (.tup [.str s, v])) := sm_new hb
  refine h (.ref p) _ (upd B' p (.tup [.str s, v])) (sH.trans (sm_new hp)) (sB.trans eB) (fun b o z => ?_) (fun b o z => ?_) ?_
  · by_cases e3 : b = p
    · subst e3
      rw [upd_same] at z ⊢
      exact z
    · rw [upd_ne e3] at z ⊢
      exact bh b o z
  · by_cases e3 : b = p
    · subst e3
      refine .inr ?_
      cases e4 : H b with
      | none => rfl
      | some o' =>
        rw [sH b o' e4] at hp
        cases hp
    · rw [upd_ne e3] at z
      exact fz b o z
  · exact .tup (.inl (.of upd_same)) (.cons (.str _) (.cons (da_mono eB dv) .nil))
end Bo

namespace Bo
open PySem L2
def topS (i : Nat) : Stmt := PySem.Challenge.pw_bestodds_k06_written_systems_refused.main.body.getD i (.Pass ⟨0, 0, 0, 0⟩)
abbrev s_l_text : Stmt := topS 29
abbrev s_l_equal : Stmt := topS 23
abbrev s_l_tape : Stmt := topS 21
abbrev s_l_draw : Stmt := topS 22
abbrev s_l_take : Stmt := topS 24
abbrev s_l_ends : Stmt := topS 25
abbrev s_l_choices : Stmt := topS 26
abbrev s_l_system : Stmt := topS 27
abbrev s_are_ends : Stmt := topS 14
abbrev s_fault_in_state : Stmt := topS 13
abbrev s_fault : Stmt := topS 12
abbrev s_is_number : Stmt := topS 5
abbrev s_parse_integer : Stmt := topS 19
abbrev s_parse_choice : Stmt := topS 18
abbrev s_parse_system : Stmt := topS 17
abbrev s_l_told : Stmt := topS 35
abbrev s_l_changed : Stmt := topS 36
abbrev s_l_fits : Stmt := topS 30
abbrev s_l_due : Stmt := topS 31
abbrev s_l_number : Stmt := topS 32
abbrev s_l_line : Stmt := topS 33
abbrev s_l_read : Stmt := topS 34
abbrev s_law : Stmt := topS 37
def clsDef (s : Stmt) : Stmt := match s with
  | .ClassDef _ _ _ b _ _ _ _ _ _ _ => b.getD 0 (.Pass ⟨0, 0, 0, 0⟩)
  | _ => .Pass ⟨0, 0, 0, 0⟩
abbrev s_InvalidLine : Stmt := clsDef (topS 2)
theorem sc_InvalidLine : FnScope ["self", "number"] ["self", "number"] (defScope s_InvalidLine) := ⟨rfl, rfl, rfl, by decide +kernel, rfl, by decide +kernel, by decide +kernel⟩
abbrev s_InvalidSystem : Stmt := clsDef (topS 3)
theorem sc_InvalidSystem : FnScope ["self", "fault"] ["self", "fault"] (defScope s_InvalidSystem) := ⟨rfl, rfl, rfl, by decide +kernel, rfl, by decide +kernel, by decide +kernel⟩
structure Env (K : PySem.W.Frag) (mg : Str → Option Value) where
  a_l_text : Addr
  d_l_text : FuncData
  F_l_text : Fun K "_law_text" "_law_text" s_l_text a_l_text d_l_text
  b_l_text : Binds K d_l_text ["system"] []
  g_l_text : mg "_law_text" = some (.ref a_l_text)
  a_l_equal : Addr
  d_l_equal : FuncData
  F_l_equal : Fun K "_law_equal" "_law_equal" s_l_equal a_l_equal d_l_equal
  b_l_equal : Binds K d_l_equal ["actual", "due"] []
  g_l_equal : mg "_law_equal" = some (.ref a_l_equal)
  a_l_tape : Addr
  d_l_tape : FuncData
  F_l_tape : Fun K "_law_tape" "_law_tape" s_l_tape a_l_tape d_l_tape
  b_l_tape : Binds K d_l_tape ["script"] []
  g_l_tape : mg "_law_tape" = some (.ref a_l_tape)
  a_l_draw : Addr
  d_l_draw : FuncData
  F_l_draw : Fun K "_law_draw" "_law_draw" s_l_draw a_l_draw d_l_draw
  b_l_draw : Binds K d_l_draw ["tape", "at", "many"] []
  g_l_draw : mg "_law_draw" = some (.ref a_l_draw)
  a_l_take : Addr
  d_l_take : FuncData
  F_l_take : Fun K "_law_take" "_law_take" s_l_take a_l_take d_l_take
  b_l_take : Binds K d_l_take ["state", "many"] []
  g_l_take : mg "_law_take" = some (.ref a_l_take)
  a_l_ends : Addr
  d_l_ends : FuncData
  F_l_ends : Fun K "_law_ends" "_law_ends" s_l_ends a_l_ends d_l_ends
  b_l_ends : Binds K d_l_ends ["state", "many"] []
  g_l_ends : mg "_law_ends" = some (.ref a_l_ends)
  a_l_choices : Addr
  d_l_choices : FuncData
  F_l_choices : Fun K "_law_choices" "_law_choices" s_l_choices a_l_choices d_l_choices
  b_l_choices : Binds K d_l_choices ["state", "many", "most"] []
  g_l_choices : mg "_law_choices" = some (.ref a_l_choices)
  a_l_system : Addr
  d_l_system : FuncData
  F_l_system : Fun K "_law_system" "_law_system" s_l_system a_l_system d_l_system
  b_l_system : Binds K d_l_system ["state", "most"] []
  g_l_system : mg "_law_system" = some (.ref a_l_system)
  a_are_ends : Addr
  d_are_ends : FuncData
  F_are_ends : Fun K "are_ends" "are_ends" s_are_ends a_are_ends d_are_ends
  b_are_ends : Binds K d_are_ends ["many", "ends"] []
  g_are_ends : mg "are_ends" = some (.ref a_are_ends)
  a_fault_in_state : Addr
  d_fault_in_state : FuncData
  F_fault_in_state : Fun K "fault_in_state" "fault_in_state" s_fault_in_state a_fault_in_state d_fault_in_state
  b_fault_in_state : Binds K d_fault_in_state ["many", "state", "choices"] []
  g_fault_in_state : mg "fault_in_state" = some (.ref a_fault_in_state)
  a_fault : Addr
  d_fault : FuncData
  F_fault : Fun K "fault" "fault" s_fault a_fault d_fault
  b_fault : Binds K d_fault ["system"] []
  g_fault : mg "fault" = some (.ref a_fault)
  a_is_number : Addr
  d_is_number : FuncData
  F_is_number : Fun K "is_number" "is_number" s_is_number a_is_number d_is_number
  b_is_number : Binds K d_is_number ["text", "most"] []
  g_is_number : mg "is_number" = some (.ref a_is_number)
  a_parse_integer : Addr
  d_parse_integer : FuncData
  F_parse_integer : Fun K "parse_integer" "parse_integer" s_parse_integer a_parse_integer d_parse_integer
  b_parse_integer : Binds K d_parse_integer ["number", "word"] []
  g_parse_integer : mg "parse_integer" = some (.ref a_parse_integer)
  a_parse_choice : Addr
  d_parse_choice : FuncData
  F_parse_choice : Fun K "parse_choice" "parse_choice" s_parse_choice a_parse_choice d_parse_choice
  b_parse_choice : Binds K d_parse_choice ["number", "line"] []
  g_parse_choice : mg "parse_choice" = some (.ref a_parse_choice)
  a_parse_system : Addr
  d_parse_system : FuncData
  F_parse_system : Fun K "parse_system" "parse_system" s_parse_system a_parse_system d_parse_system
  b_parse_system : Binds K d_parse_system ["text"] []
  g_parse_system : mg "parse_system" = some (.ref a_parse_system)
  a_l_told : Addr
  d_l_told : FuncData
  F_l_told : Fun K "_law_told" "_law_told" s_l_told a_l_told d_l_told
  b_l_told : Binds K d_l_told ["text"] []
  g_l_told : mg "_law_told" = some (.ref a_l_told)
  a_l_changed : Addr
  d_l_changed : FuncData
  F_l_changed : Fun K "_law_changed" "_law_changed" s_l_changed a_l_changed d_l_changed
  b_l_changed : Binds K d_l_changed ["state", "text"] []
  g_l_changed : mg "_law_changed" = some (.ref a_l_changed)
  a_l_fits : Addr
  d_l_fits : FuncData
  F_l_fits : Fun K "_law_fits" "_law_fits" s_l_fits a_l_fits d_l_fits
  b_l_fits : Binds K d_l_fits ["ends", "many"] []
  g_l_fits : mg "_law_fits" = some (.ref a_l_fits)
  a_l_due : Addr
  d_l_due : FuncData
  F_l_due : Fun K "_law_due" "_law_due" s_l_due a_l_due d_l_due
  b_l_due : Binds K d_l_due ["system"] []
  g_l_due : mg "_law_due" = some (.ref a_l_due)
  a_l_number : Addr
  d_l_number : FuncData
  F_l_number : Fun K "_law_number" "_law_number" s_l_number a_l_number d_l_number
  b_l_number : Binds K d_l_number ["text"] []
  g_l_number : mg "_law_number" = some (.ref a_l_number)
  a_l_line : Addr
  d_l_line : FuncData
  F_l_line : Fun K "_law_line" "_law_line" s_l_line a_l_line d_l_line
  b_l_line : Binds K d_l_line ["line"] []
  g_l_line : mg "_law_line" = some (.ref a_l_line)
  a_l_read : Addr
  d_l_read : FuncData
  F_l_read : Fun K "_law_read" "_law_read" s_l_read a_l_read d_l_read
  b_l_read : Binds K d_l_read ["text"] []
  g_l_read : mg "_law_read" = some (.ref a_l_read)
  a_law : Addr
  d_law : FuncData
  F_law : Fun K "law" "law" s_law a_law d_law
  b_law : Binds K d_law ["script"] []
  g_law : mg "law" = some (.ref a_law)
  c_BestoddsError : Addr
  g_BestoddsError : mg "BestoddsError" = some (.ref c_BestoddsError)
  e_BestoddsError : PySem.W.excIn K c_BestoddsError [.type "ValueError", .type "Exception", .type "BaseException", .type "object"] "ValueError.__new__" = true
  k_BestoddsError : PySem.W.keepIn K (.ref c_BestoddsError) = true
  c_InvalidLine : Addr
  g_InvalidLine : mg "InvalidLine" = some (.ref c_InvalidLine)
  a_InvalidLine : Addr
  d_InvalidLine : FuncData
  o_InvalidLine : OexC K c_InvalidLine
  i_InvalidLine : PySem.W.findIn K (.ref c_InvalidLine) "__init__" = some (some (.ref a_InvalidLine))
  t_InvalidLine : PySem.W.typeIn K (.ref a_InvalidLine) = some (.type "function")
  F_InvalidLine : Fun K "__init__" "InvalidLine.__init__" s_InvalidLine a_InvalidLine d_InvalidLine
  b_InvalidLine : Binds K d_InvalidLine ["self", "number"] []
  n_InvalidLine : PySem.W.findIn K (.ref c_InvalidLine) "number" = some none
  c_InvalidSystem : Addr
  g_InvalidSystem : mg "InvalidSystem" = some (.ref c_InvalidSystem)
  a_InvalidSystem : Addr
  d_InvalidSystem : FuncData
  o_InvalidSystem : OexC K c_InvalidSystem
  i_InvalidSystem : PySem.W.findIn K (.ref c_InvalidSystem) "__init__" = some (some (.ref a_InvalidSystem))
  t_InvalidSystem : PySem.W.typeIn K (.ref a_InvalidSystem) = some (.type "function")
  F_InvalidSystem : Fun K "__init__" "InvalidSystem.__init__" s_InvalidSystem a_InvalidSystem d_InvalidSystem
  b_InvalidSystem : Binds K d_InvalidSystem ["self", "fault"] []
  n_InvalidSystem : PySem.W.findIn K (.ref c_InvalidSystem) "fault" = some none
  z_ValueError : mg "ValueError" = none
  z_bool : mg "bool" = none
  z_enumerate : mg "enumerate" = none
  z_int : mg "int" = none
  z_isinstance : mg "isinstance" = none
  z_len : mg "len" = none
  z_list : mg "list" = none
  z_range : mg "range" = none
  z_str : mg "str" = none
  z_tuple : mg "tuple" = none
  k_MOST_CHOICES : Tok
  c_MOST_CHOICES : mg "MOST_CHOICES" = some (.int 6 k_MOST_CHOICES)
  k_MOST_COST : Tok
  c_MOST_COST : mg "MOST_COST" = some (.int 1000 k_MOST_COST)
  k_MOST_ENDS : Tok
  c_MOST_ENDS : mg "MOST_ENDS" = some (.int 6 k_MOST_ENDS)
  k_MOST_PLACES : Tok
  c_MOST_PLACES : mg "MOST_PLACES" = some (.int 4 k_MOST_PLACES)
  k_MOST_STATES : Tok
  c_MOST_STATES : mg "MOST_STATES" = some (.int 20 k_MOST_STATES)
  k_MOST_WEIGHT : Tok
  c_MOST_WEIGHT : mg "MOST_WEIGHT" = some (.int 1000 k_MOST_WEIGHT)
  m_BestoddsError : PySem.W.subIn K (.ref c_BestoddsError) (.type "BaseException") = some true
  y_BestoddsError : PySem.W.typeIn K (.ref c_BestoddsError) = some (.type "type")
  h_InvalidLine_InvalidLine : PySem.W.exmOne K (.ref c_InvalidLine) (.ref c_InvalidLine) = some true
  h_InvalidSystem_InvalidLine : PySem.W.exmOne K (.ref c_InvalidSystem) (.ref c_InvalidLine) = some false
  h_InvalidSystem_InvalidSystem : PySem.W.exmOne K (.ref c_InvalidSystem) (.ref c_InvalidSystem) = some true
  j_InvalidLine_BestoddsError : PySem.W.kitOne K (.ref c_InvalidLine) (.ref c_BestoddsError) = some true
  j_InvalidLine_ValueError : PySem.W.kitOne K (.ref c_InvalidLine) (.type "ValueError") = some true
  j_InvalidSystem_BestoddsError : PySem.W.kitOne K (.ref c_InvalidSystem) (.ref c_BestoddsError) = some true
  j_InvalidSystem_ValueError : PySem.W.kitOne K (.ref c_InvalidSystem) (.type "ValueError") = some true
  xc_InvalidLine : xcB K c_InvalidLine = true
  xc_InvalidSystem : xcB K c_InvalidSystem = true
def Env.L {K : PySem.W.Frag} {mg : Str → Option Value} (T : Env K mg) : Cls := ⟨fun x => if x = "BestoddsError" then some T.c_BestoddsError else if x = "InvalidLine" then some T.c_InvalidLine else if x = "InvalidSystem" then some T.c_InvalidSystem else none, fun x => if x = "InvalidLine" then "number" else if x = "InvalidSystem" then "fault" else ""⟩
theorem iok_InvalidLine {P : Program} {w : World} {K : PySem.W.Frag} {mg : Str → Option Value} {base : Heap} (T : Env K mg) : FnOk P w K mg base CX0 1 T.a_InvalidLine T.d_InvalidLine ["self", "number"] (spIni K "number") := by
  refine T.F_InvalidLine.ok sc_InvalidLine (fun vs H Q E h => ?_) (fun cdv A outer s H vs Q E hr h => ?_)
  · obtain ⟨a, C, v, rfl, _⟩ := h
    rfl
  · obtain ⟨a, C, v, rfl, ha, T, hf, k⟩ := h
    refine ⟨_, pss_one (ps_ost (pv 0) (pv 1)), ?_⟩
    exact ⟨_, rfl, _, rfl, a, C, rfl, T, hf, .inl ⟨ha, fun dx h1 h2 => k dx h1 h2⟩⟩
theorem iok_InvalidSystem {P : Program} {w : World} {K : PySem.W.Frag} {mg : Str → Option Value} {base : Heap} (T : Env K mg) : FnOk P w K mg base CX0 1 T.a_InvalidSystem T.d_InvalidSystem ["self", "fault"] (spIni K "fault") := by
  refine T.F_InvalidSystem.ok sc_InvalidSystem (fun vs H Q E h => ?_) (fun cdv A outer s H vs Q E hr h => ?_)
  · obtain ⟨a, C, v, rfl, _⟩ := h
    rfl
  · obtain ⟨a, C, v, rfl, ha, T, hf, k⟩ := h
    refine ⟨_, pss_one (ps_ost (pv 0) (pv 1)), ?_⟩
    exact ⟨_, rfl, _, rfl, a, C, rfl, T, hf, .inl ⟨ha, fun dx h1 h2 => k dx h1 h2⟩⟩
theorem sc_l_text : FnScope ["system", "lines", "choices", "cost", "ends", "line", "goal", "weight"] ["system"] (defScope s_l_text) := ⟨rfl, rfl, rfl, by decide +kernel, rfl, by decide +kernel, by decide +kernel⟩
theorem sc_l_equal : FnScope ["actual", "due", "k"] ["actual", "due"] (defScope s_l_equal) := ⟨rfl, rfl, rfl, by decide +kernel, rfl, by decide +kernel, by decide +kernel⟩
theorem sc_l_tape : FnScope ["script", "tape", "cell", "number", "k", "first"] ["script"] (defScope s_l_tape) := ⟨rfl, rfl, rfl, by decide +kernel, rfl, by decide +kernel, by decide +kernel⟩
theorem sc_l_draw : FnScope ["tape", "at", "many", "number"] ["tape", "at", "many"] (defScope s_l_draw) := ⟨rfl, rfl, rfl, by decide +kernel, rfl, by decide +kernel, by decide +kernel⟩
theorem sc_l_take : FnScope ["state", "many"] ["state", "many"] (defScope s_l_take) := ⟨rfl, rfl, rfl, by decide +kernel, rfl, by decide +kernel, by decide +kernel⟩
theorem sc_l_ends : FnScope ["state", "many", "ends", "first", "goal"] ["state", "many"] (defScope s_l_ends) := ⟨rfl, rfl, rfl, by decide +kernel, rfl, by decide +kernel, by decide +kernel⟩
theorem sc_l_choices : FnScope ["state", "many", "most", "choices", "k"] ["state", "many", "most"] (defScope s_l_choices) := ⟨rfl, rfl, rfl, by decide +kernel, rfl, by decide +kernel, by decide +kernel⟩
theorem sc_l_system : FnScope ["state", "most", "many", "k"] ["state", "most"] (defScope s_l_system) := ⟨rfl, rfl, rfl, by decide +kernel, rfl, by decide +kernel, by decide +kernel⟩
theorem sc_are_ends : FnScope ["many", "ends", "before", "state", "weight"] ["many", "ends"] (defScope s_are_ends) := ⟨rfl, rfl, rfl, by decide +kernel, rfl, by decide +kernel, by decide +kernel⟩
theorem sc_fault_in_state : FnScope ["many", "state", "choices", "number", "cost", "ends"] ["many", "state", "choices"] (defScope s_fault_in_state) := ⟨rfl, rfl, rfl, by decide +kernel, rfl, by decide +kernel, by decide +kernel⟩
theorem sc_fault : FnScope ["system", "state", "choices", "found"] ["system"] (defScope s_fault) := ⟨rfl, rfl, rfl, by decide +kernel, rfl, by decide +kernel, by decide +kernel⟩
theorem sc_is_number : FnScope ["text", "most"] ["text", "most"] (defScope s_is_number) := ⟨rfl, rfl, rfl, by decide +kernel, rfl, by decide +kernel, by decide +kernel⟩
theorem sc_parse_integer : FnScope ["number", "word"] ["number", "word"] (defScope s_parse_integer) := ⟨rfl, rfl, rfl, by decide +kernel, rfl, by decide +kernel, by decide +kernel⟩
theorem sc_parse_choice : FnScope ["number", "line", "words", "cost", "ends", "word", "state", "_", "weight"] ["number", "line"] (defScope s_parse_choice) := ⟨rfl, rfl, rfl, by decide +kernel, rfl, by decide +kernel, by decide +kernel⟩
theorem sc_parse_system : FnScope ["text", "states", "system", "found", "number", "line", "choices"] ["text"] (defScope s_parse_system) := ⟨rfl, rfl, rfl, by decide +kernel, rfl, by decide +kernel, by decide +kernel⟩
theorem sc_l_told : FnScope ["text", "e"] ["text"] (defScope s_l_told) := ⟨rfl, rfl, rfl, by decide +kernel, rfl, by decide +kernel, by decide +kernel⟩
theorem sc_l_changed : FnScope ["state", "text", "lines", "at", "way", "words", "place", "menu", "word"] ["state", "text"] (defScope s_l_changed) := ⟨rfl, rfl, rfl, by decide +kernel, rfl, by decide +kernel, by decide +kernel⟩
theorem sc_l_fits : FnScope ["ends", "many", "k"] ["ends", "many"] (defScope s_l_fits) := ⟨rfl, rfl, rfl, by decide +kernel, rfl, by decide +kernel, by decide +kernel⟩
theorem sc_l_due : FnScope ["system", "state", "number", "cost", "ends"] ["system"] (defScope s_l_due) := ⟨rfl, rfl, rfl, by decide +kernel, rfl, by decide +kernel, by decide +kernel⟩
theorem sc_l_number : FnScope ["text", "sign"] ["text"] (defScope s_l_number) := ⟨rfl, rfl, rfl, by decide +kernel, rfl, by decide +kernel, by decide +kernel⟩
theorem sc_l_line : FnScope ["line", "words", "cost", "ends", "word", "parts"] ["line"] (defScope s_l_line) := ⟨rfl, rfl, rfl, by decide +kernel, rfl, by decide +kernel, by decide +kernel⟩
theorem sc_l_read : FnScope ["text", "lines", "system", "k", "due", "found"] ["text"] (defScope s_l_read) := ⟨rfl, rfl, rfl, by decide +kernel, rfl, by decide +kernel, by decide +kernel⟩
theorem sc_law : FnScope ["script", "state", "text", "turn", "other", "k"] ["script"] (defScope s_law) := ⟨rfl, rfl, rfl, by decide +kernel, rfl, by decide +kernel, by decide +kernel⟩
/-! ### steps of a reading -/
local macro_rules | `(tactic| walk_at "rd1") => `(tactic| (first
  | with_reducible refine r_seq ?_
  | with_reducible refine r_asg ?_
  | with_reducible refine r_name ?_
  | ((with_reducible refine r_var ?_); (refine ⟨_, rfl, ?_⟩))
  | with_reducible refine r_c ?_
  | with_reducible refine r_op ?_
  | with_reducible refine r_un ?_
  | with_reducible refine r_i0 ?_
  | with_reducible refine r_u ?_
  | with_reducible refine r_eqI ?_
  | with_reducible refine r_neI ?_
  | with_reducible refine r_eqS ?_
  | with_reducible refine r_eqB ?_
  | with_reducible refine r_tst ?_
  | with_reducible refine r_tB ?_
  | with_reducible refine r_bl ?_
  | with_reducible refine r_not ?_
  | with_reducible refine r_and ?_
  | with_reducible refine r_or ?_
  | with_reducible refine r_andV ?_
  | with_reducible refine r_orV ?_
  | with_reducible refine r_notV ?_
  | with_reducible refine r_ifs ?_
  | with_reducible refine r_ifE ?_
  | with_reducible refine r_ret ?_
  | with_reducible refine r_retN ?_
  | with_reducible refine r_next ?_
  | with_reducible refine r_brk ?_
  | with_reducible refine r_cont ?_
  | with_reducible refine r_drop ?_
  | with_reducible refine r_nil ?_
  | with_reducible refine r_cons ?_
  | with_reducible refine r_tup ?_
  | with_reducible refine r_lst ?_
  | with_reducible refine r_cb ?_
  | with_reducible refine r_call ?_
  | with_reducible refine r_chain ?_
  | ((with_reducible show V.non = V.non ∧ _); (refine ⟨rfl, ?_⟩))
  | with_reducible refine r_gsub ?_
  | with_reducible refine r_sl ?_
  | with_reducible refine r_nopart ?_
  | with_reducible refine r_part ?_
  | ((with_reducible show ∃ i, V.int _ = V.int i ∧ _); (refine ⟨_, rfl, ?_⟩))
  | with_reducible refine r_bm ?_
  | with_reducible refine r_bm0 ?_
  | with_reducible refine r_dput ?_
  | with_reducible refine r_dnew ?_
  | with_reducible refine r_for ?_
  | with_reducible refine r_iList ?_
  | with_reducible refine r_iTup ?_
  | with_reducible refine r_rng1 ?_
  | with_reducible refine r_rng2 ?_
  | ((with_reducible show (∃ j, [V.int _] = [V.int j] ∧ _) ∨ (∃ k, [V.int _] = [V.bl k] ∧ _)); (refine Or.inl ⟨_, rfl, ?_⟩))
  | ((with_reducible show ∃ j, [V.int _] = [V.int j] ∧ _); (refine ⟨_, rfl, ?_⟩))
  | ((with_reducible show (-(2 ^ 62) : Int) ≤ _ ∧ _ < (2 ^ 62 : Int) ∧ _); (refine ⟨by decide, by decide, ?_⟩))
  | with_reducible refine r_ifT ?_
  | with_reducible refine r_ifF ?_
  | with_reducible refine r_ifNT ?_
  | with_reducible refine r_ifNF ?_
  | (refine r_iC ?_ ?_; (first | exact Or.inl ⟨by decide, by decide⟩ | exact Or.inr ⟨by decide, by decide⟩ | exact ⟨by decide, by decide, by decide⟩ | exact ⟨by decide, by decide⟩ | (show (0 : Int) < _; decide)))))
local macro_rules | `(tactic| walk_at "rd") => `(tactic| repeat walk_at "rd1")

/-! ### equal data are told equal -/
def sp_eq (K : PySem.W.Frag) : Nat → Sp
  | 0 => fun _ _ _ _ => False
  | n + 1 => fun vs H Q _ => ∃ (x y : V) (d : PyData), vs = [x, y] ∧ Dp K H x d ∧ Dp K H y d ∧ Dn n d ∧ Q (.bl true) H
theorem len_map_int (ds : List PyData) (vs : List V) (e : vs.length = ds.length) (h : vs.length ≤ sizeLine) : (ds.length : Int) < 2 ^ 62 := by
  have : sizeLine = 16777216 := sizeLine_eq
  omega
theorem ok_eq_rec {P : Program} {w : World} {K : PySem.W.Frag} {mg : Str → Option Value} {base : Heap} (T : Env K mg) : ∀ n, FnOk P w K mg base CX0 (n + 1) T.a_l_equal T.d_l_equal ["actual", "due"] (sp_eq K n)
  | 0 => T.F_l_equal.ok sc_l_equal (fun vs H Q E h => h.elim) (fun cdv A outer s H vs Q E hr h => h.elim)
  | n + 1 => by
    have G_l_equal := ok_eq_rec (P := P) (w := w) (base := base) T n
    refine T.F_l_equal.ok sc_l_equal (fun vs H Q E h => ?_) (fun cdv A outer s H vs Q E hr h => ?_)
    · obtain ⟨x, y, d, rfl, _⟩ := h
      rfl
    · obtain ⟨x, y, d, rfl, hx, hy, hd, k⟩ := h
      have hr_l_equal := hr
      refine ⟨_, (pss_cons (ps_if (pt_cmpR op_isN (pv 1) pe_non (nomark _)) (pss_one (ps_ret (pe_cmpR op_isN (pv 0) pe_non (nomark _)))) pss_nil)
      (pss_cons (ps_if (pt_val (pe_callB call_isi (by rfl) T.z_isinstance (by decide +kernel) (pa_cons (pv 1) (pa_cons (pe_bltn (v := .ty "bool") (by rfl) T.z_bool (by decide +kernel) rfl) pa_nil)))) (pss_one (ps_ret (pe_and (pe_callB call_isi (by rfl) T.z_isinstance (by decide +kernel) (pa_cons (pv 0) (pa_cons (pe_bltn (v := .ty "bool") (by rfl) T.z_bool (by decide +kernel) rfl) pa_nil))) (pe_one (pe_cmpR op_eq (pv 0) (pv 1) (nomark _)))))) pss_nil)
      (pss_cons (ps_if (pt_val (pe_callB call_isi (by rfl) T.z_isinstance (by decide +kernel) (pa_cons (pv 1) (pa_cons (pe_bltn (v := .ty "int") (by rfl) T.z_int (by decide +kernel) rfl) pa_nil)))) (pss_one (ps_ret (pe_and (pe_callB call_isi (by rfl) T.z_isinstance (by decide +kernel) (pa_cons (pv 0) (pa_cons (pe_bltn (v := .ty "int") (by rfl) T.z_int (by decide +kernel) rfl) pa_nil))) (pe_and (pe_not (pe_callB call_isi (by rfl) T.z_isinstance (by decide +kernel) (pa_cons (pv 0) (pa_cons (pe_bltn (v := .ty "bool") (by rfl) T.z_bool (by decide +kernel) rfl) pa_nil)))) (pe_one (pe_cmpR op_eq (pv 0) (pv 1) (nomark _))))))) pss_nil)
      (pss_cons (ps_if (pt_val (pe_callB call_isi (by rfl) T.z_isinstance (by decide +kernel) (pa_cons (pv 1) (pa_cons (pe_bltn (v := .ty "str") (by rfl) T.z_str (by decide +kernel) rfl) pa_nil)))) (pss_one (ps_ret (pe_and (pe_callB call_isi (by rfl) T.z_isinstance (by decide +kernel) (pa_cons (pv 0) (pa_cons (pe_bltn (v := .ty "str") (by rfl) T.z_str (by decide +kernel) rfl) pa_nil))) (pe_one (pe_cmpR op_eq (pv 0) (pv 1) (nomark _)))))) pss_nil)
      (pss_cons (ps_if (PW.pt (pw_and (pt_val (pe_callB call_isi (by rfl) T.z_isinstance (by decide +kernel) (pa_cons (pv 1) (pa_cons (pe_bltn (v := .ty "tuple") (by rfl) T.z_tuple (by decide +kernel) rfl) pa_nil)))) (pw_and1 (pt_not (pt_val (pe_callB call_isi (by rfl) T.z_isinstance (by decide +kernel) (pa_cons (pv 0) (pa_cons (pe_bltn (v := .ty "tuple") (by rfl) T.z_tuple (by decide +kernel) rfl) pa_nil)))))))) (pss_one (ps_ret pe_bl)) pss_nil)
      (pss_cons (ps_if (PW.pt (pw_and (pt_val (pe_callB call_isi (by rfl) T.z_isinstance (by decide +kernel) (pa_cons (pv 1) (pa_cons (pe_bltn (v := .ty "list") (by rfl) T.z_list (by decide +kernel) rfl) pa_nil)))) (pw_and1 (pt_not (pt_val (pe_callB call_isi (by rfl) T.z_isinstance (by decide +kernel) (pa_cons (pv 0) (pa_cons (pe_bltn (v := .ty "list") (by rfl) T.z_list (by decide +kernel) rfl) pa_nil)))))))) (pss_one (ps_ret pe_bl)) pss_nil)
      (pss_cons (ps_if (pt_cmpR op_ne (pe_callB call_len_seq (by rfl) T.z_len (by decide +kernel) (pa_cons (pv 0) pa_nil)) (pe_callB call_len_seq (by rfl) T.z_len (by decide +kernel) (pa_cons (pv 1) pa_nil)) (nomark _)) (pss_one (ps_ret pe_bl)) pss_nil)
      (pss_cons (ps_for PassesOwn.never rfl (pi_range1 (by rfl) T.z_range (pa_cons (pe_callB call_len_seq (by rfl) T.z_len (by decide +kernel) (pa_cons (pv 1) pa_nil)) pa_nil)) (pg_name (i := 2) sc_l_equal.nd rfl (Or.inl rfl)) (pss_one (ps_if (pt_not (pt_val (pe_call G_l_equal hr_l_equal (by rfl) T.g_l_equal T.F_l_equal.kp T.b_l_equal .nil pass0 (pa_cons (pe_ix ix_seq (pv 0) (pv 2) (fun _ _ => rfl)) (pa_cons (pe_ix ix_seq (pv 1) (pv 2) (fun _ _ => rfl)) pa_nil))))) (pss_one (ps_ret pe_bl)) pss_nil)))
      (pss_one (ps_ret pe_bl)))))))))), ?_⟩
      cases hd with
      | non =>
        cases hx
        cases hy
        walk_at "rd"
        refine r_if (fun _ => ?_) (fun c => absurd rfl c)
        walk_at "rd"
        exact k
      | bl _ b =>
        cases hx
        cases hy
        walk_at "rd"
        refine r_if (fun c => nomatch c) (fun _ => ?_)
        walk_at "rd"
        refine r_isi (a := "bool") true (.base (.bl b)) (by decide +kernel) ?_
        walk_at "rd"
        refine r_isi (a := "bool") true (.base (.bl b)) (by decide +kernel) ?_
        walk_at "rd"
        rw [decide_eq_true rfl]
        exact k
      | int _ i =>
        cases hx
        cases hy
        walk_at "rd"
        refine r_if (fun c => nomatch c) (fun _ => ?_)
        walk_at "rd"
        refine r_isi (a := "int") false (.base (.int i)) (by decide +kernel) ?_
        walk_at "rd"
        refine r_isi (a := "int") true (.base (.int i)) (by decide +kernel) ?_
        walk_at "rd"
        refine r_isi (a := "int") true (.base (.int i)) (by decide +kernel) ?_
        walk_at "rd"
        refine r_isi (a := "int") false (.base (.int i)) (by decide +kernel) ?_
        walk_at "rd"
        rw [decide_eq_true rfl]
        exact k
      | str _ z =>
        cases hx
        cases hy
        walk_at "rd"
        refine r_if (fun c => nomatch c) (fun _ => ?_)
        walk_at "rd"
        refine r_isi (a := "str") false (.base (.str z)) (by decide +kernel) ?_
        walk_at "rd"
        refine r_isi (a := "str") false (.base (.str z)) (by decide +kernel) ?_
        walk_at "rd"
        refine r_isi (a := "str") true (.base (.str z)) (by decide +kernel) ?_
        walk_at "rd"
        refine r_isi (a := "str") true (.base (.str z)) (by decide +kernel) ?_
        walk_at "rd"
        rw [decide_eq_true rfl]
        exact k
      | @tup m ds hl hd =>
        cases hx with
        | @tup a xs _ hs ha =>
        cases hy with
        | @tup b ys _ ht hb =>
        walk_at "rd"
        refine r_if (fun c => nomatch c) (fun _ => ?_)
        walk_at "rd"
        refine r_isi (a := "tuple") false (tyx_t ht) (by decide +kernel) ?_
        walk_at "rd"
        refine r_isi (a := "tuple") false (tyx_t ht) (by decide +kernel) ?_
        walk_at "rd"
        refine r_isi (a := "tuple") false (tyx_t ht) (by decide +kernel) ?_
        walk_at "rd"
        refine r_isi (a := "tuple") true (tyx_t ht) (by decide +kernel) ?_
        walk_at "rd"
        refine r_isi (a := "tuple") true (tyx_t hs) (by decide +kernel) ?_
        walk_at "rd"
        refine r_isi (a := "tuple") false (tyx_t ht) (by decide +kernel) ?_
        walk_at "rd"
        refine ⟨a, _, rfl, .inr hs, ?_⟩
        walk_at "rd"
        refine ⟨b, _, rfl, .inr ht, ?_⟩
        walk_at "rd"
        have lx := dpa_len ha
        have ly := dpa_len hb
        refine r_ifN (fun c => absurd (by rw [lx, ly]) c) (fun _ => ?_)
        walk_at "rd"
        refine ⟨b, _, rfl, .inr ht, ?_⟩
        walk_at "rd"
        refine ⟨by omega, by omega, ?_⟩
        refine for_range (n := ys.length) (fun i σ H2 => ∃ v : Option V, σ = [some (.ref a), some (.ref b), v] ∧ H2 = H) ⟨none, rfl, rfl⟩ ?_ ?_
        · rintro i σ H2 hi ⟨v, rfl, rfl⟩
          obtain ⟨d, hdi⟩ : ∃ d, ds[i]? = some d := ⟨ds[i]'(by omega), List.getElem?_eq_getElem (by omega)⟩
          obtain ⟨x, hx1, hx2⟩ := dpa_get ha hdi
          obtain ⟨y, hy1, hy2⟩ := dpa_get hb hdi
          walk_at "rd"
          refine r_ixQT hs (at_of (j := i) (by omega) hx1) ?_
          walk_at "rd"
          refine r_ixQT ht (at_of (j := i) (by omega) hy1) ?_
          walk_at "rd"
          refine ⟨x, y, d, rfl, hx2, hy2, hd d (List.mem_of_getElem? hdi), ?_⟩
          walk_at "rd"
          exact ⟨_, rfl, rfl⟩
        · rintro σ H2 ⟨v, rfl, rfl⟩
          walk_at "rd"
          exact k
      | @lst m ds hl hd =>
        cases hx with
        | @lst a xs _ hs ha =>
        cases hy with
        | @lst b ys _ ht hb =>
        walk_at "rd"
        refine r_if (fun c => nomatch c) (fun _ => ?_)
        walk_at "rd"
        refine r_isi (a := "list") false (tyx_l ht) (by decide +kernel) ?_
        walk_at "rd"
        refine r_isi (a := "list") false (tyx_l ht) (by decide +kernel) ?_
        walk_at "rd"
        refine r_isi (a := "list") false (tyx_l ht) (by decide +kernel) ?_
        walk_at "rd"
        refine r_isi (a := "list") false (tyx_l ht) (by decide +kernel) ?_
        walk_at "rd"
        refine r_isi (a := "list") true (tyx_l ht) (by decide +kernel) ?_
        walk_at "rd"
        refine r_isi (a := "list") true (tyx_l hs) (by decide +kernel) ?_
        walk_at "rd"
        refine ⟨a, _, rfl, .inl hs, ?_⟩
        walk_at "rd"
        refine ⟨b, _, rfl, .inl ht, ?_⟩
        walk_at "rd"
        have lx := dpa_len ha
        have ly := dpa_len hb
        refine r_ifN (fun c => absurd (by rw [lx, ly]) c) (fun _ => ?_)
        walk_at "rd"
        refine ⟨b, _, rfl, .inl ht, ?_⟩
        walk_at "rd"
        refine ⟨by omega, by omega, ?_⟩
        refine for_range (n := ys.length) (fun i σ H2 => ∃ v : Option V, σ = [some (.ref a), some (.ref b), v] ∧ H2 = H) ⟨none, rfl, rfl⟩ ?_ ?_
        · rintro i σ H2 hi ⟨v, rfl, rfl⟩
          obtain ⟨d, hdi⟩ : ∃ d, ds[i]? = some d := ⟨ds[i]'(by omega), List.getElem?_eq_getElem (by omega)⟩
          obtain ⟨x, hx1, hx2⟩ := dpa_get ha hdi
          obtain ⟨y, hy1, hy2⟩ := dpa_get hb hdi
          walk_at "rd"
          refine r_ixQL hs (at_of (j := i) (by omega) hx1) ?_
          walk_at "rd"
          refine r_ixQL ht (at_of (j := i) (by omega) hy1) ?_
          walk_at "rd"
          refine ⟨x, y, d, rfl, hx2, hy2, hd d (List.mem_of_getElem? hdi), ?_⟩
          walk_at "rd"
          exact ⟨_, rfl, rfl⟩
        · rintro σ H2 ⟨v, rfl, rfl⟩
          walk_at "rd"
          exact k

theorem ok_l_equal {P : Program} {w : World} {K : PySem.W.Frag} {mg : Str → Option Value} {base : Heap} (T : Env K mg) : FnOk P w K mg base CX0 8 T.a_l_equal T.d_l_equal ["actual", "due"] (spP K 2 (denEq 6)) := by
  refine (ok_eq_rec T 7).imp fun vs H Q E h => ?_
  obtain ⟨ds, B, d, bh, hl, h⟩ := h
  match ds, hl, d, h with
  | [a, b], _, .cons (v := x) d1 (.cons (v := y) d2 .nil), h =>
    unfold denEq at h
    simp only at h
    split at h
    · rename_i c
      obtain ⟨rfl, hd⟩ := c
      exact ⟨x, y, _, rfl, da_dp (da_mono bh d1), da_dp (da_mono bh d2), hd, h (.bl true) H B (fun _ _ z => z) (Same.refl _) bh (fun _ _ z => .inl z) (.bl true)⟩
    · exact h.elim

theorem ok_l_text {P : Program} {w : World} {K : PySem.W.Frag} {mg : Str → Option Value} {base : Heap} (T : Env K mg) : FnOk P w K mg base CX0 1 T.a_l_text T.d_l_text ["system"] (spP K 1 den_l_text) := by
  refine T.F_l_text.ok sc_l_text (fun vs H Q E h => len_P h) (fun cdv A outer s H vs Q E hr h => ?_)
  refine ⟨_, (pss_cons (ps_set (i := 1) sc_l_text.nd rfl (Or.inl rfl) (pe_lst pa_nil))
      (pss_cons (ps_for PassesOwn.never rfl (k_iTup K (by rfl) (pv 0)) (pg_name (i := 2) sc_l_text.nd rfl (Or.inl rfl)) (pss_cons (ps_expr (pe_bm PySem.F.plainAttrs_list PySem.F.slot_list_append PySem.F.type_list_append mt_append (pv 1) (pa_cons pe_str pa_nil)))
      (pss_one (ps_for PassesOwn.never rfl (k_iTup K (by rfl) (pv 2)) (k_gTup K (by rfl) (by rfl) (pgs_cons (pg_name (i := 3) sc_l_text.nd rfl (Or.inl rfl)) (pgs_cons (pg_name (i := 4) sc_l_text.nd rfl (Or.inl rfl)) pgs_nil))) (pss_cons (ps_set (i := 5) sc_l_text.nd rfl (Or.inl rfl) (pe_callTy call_str_int (by rfl) T.z_str (by decide +kernel) (pa_cons (pv 3) pa_nil)))
      (pss_cons (ps_for PassesOwn.never rfl (k_iTup K (by rfl) (pv 4)) (k_gTup K (by rfl) (by rfl) (pgs_cons (pg_name (i := 6) sc_l_text.nd rfl (Or.inl rfl)) (pgs_cons (pg_name (i := 7) sc_l_text.nd rfl (Or.inl rfl)) pgs_nil))) (pss_one (ps_set (i := 5) sc_l_text.nd rfl (Or.inl rfl) (pe_op op_add_str (pe_op op_add_str (pe_op op_add_str (pe_op op_add_str (pv 5) pe_str) (pe_callTy call_str_int (by rfl) T.z_str (by decide +kernel) (pa_cons (pv 6) pa_nil))) pe_str) (pe_callTy call_str_int (by rfl) T.z_str (by decide +kernel) (pa_cons (pv 7) pa_nil))))))
      (pss_one (ps_expr (pe_bm PySem.F.plainAttrs_list PySem.F.slot_list_append PySem.F.type_list_append mt_append (pv 1) (pa_cons (pv 5) pa_nil))))))))))
      (pss_one (ps_ret (pe_join pe_str (pv 1)))))), ?_⟩
  exact run_P (N := ["system", "lines", "choices", "cost", "ends", "line", "goal", "weight"]) (f := body_l_text) (fun _ => (st_seq (st_own (by decide) (f_lst s_nil))
      (st_seq (st_then (by decide) (st_for (i_tup s_var) (g_name (by decide)) (st_then (by decide) (st_seq (st_drop (s_app s_str))
      (st_pre (by decide) (st_then (by decide) (st_for (i_tup s_var) (g_tup (g_cons (g_name (by decide)) (g_cons (g_name (by decide)) g_nil))) (st_then (by decide) (st_seq (st_asg (s_cb c_strI (s_cons s_var s_nil)) (g_name (by decide)))
      (st_seq (st_pre (by decide) (st_then (by decide) (st_for (i_tup s_var) (g_tup (g_cons (g_name (by decide)) (g_cons (g_name (by decide)) g_nil))) (st_then (by decide) (st_asg (s_op o_catS (s_op o_catS (s_op o_catS (s_op o_catS s_var s_str) (s_cb c_strI (s_cons s_var s_nil))) s_str) (s_cb c_strI (s_cons s_var s_nil))) (g_name (by decide)))))))
      (st_drop (s_app s_var))))))))))))
      (st_ret (s_joinO s_str))))) h
theorem ok_l_tape {P : Program} {w : World} {K : PySem.W.Frag} {mg : Str → Option Value} {base : Heap} (T : Env K mg) : FnOk P w K mg base CX0 1 T.a_l_tape T.d_l_tape ["script"] (spS K den_l_tape) := by
  refine T.F_l_tape.ok sc_l_tape (fun vs H Q E h => len_S h) (fun cdv A outer s H vs Q E hr h => ?_)
  refine ⟨_, (pss_cons (ps_set (i := 1) sc_l_tape.nd rfl (Or.inl rfl) (pe_lst pa_nil))
      (pss_cons (ps_for PassesOwn.never rfl (k_iList K (by rfl) (pv 0)) (pg_name (i := 2) sc_l_tape.nd rfl (Or.inl rfl)) (pss_cons (ps_set (i := 3) sc_l_tape.nd rfl (Or.inl rfl) (pe_op op_mul pe_int (pe_callTy call_int1 (by rfl) T.z_int (by decide +kernel) (pa_cons (pv 2) pa_nil))))
      (pss_cons (ps_if (pt_cmpR op_lt (pv 3) pe_int (nomark _)) (pss_one (ps_set (i := 3) sc_l_tape.nd rfl (Or.inl rfl) (pe_op op_sub (pe_un un_neg pe_int) (pv 3)))) pss_nil)
      (pss_one (ps_if (pt_cmpR op_ge (pv 3) (pe_op op_pow pe_int pe_int) (nomark _)) (pss_one (ps_for PassesOwn.never rfl (pi_range1 (by rfl) T.z_range (pa_cons pe_int pa_nil)) (pg_name (i := 4) sc_l_tape.nd rfl (Or.inl rfl)) (pss_one (ps_if (pt_cmpR op_gt (pv 3) pe_int (nomark _)) (pss_cons (ps_expr (pe_bm PySem.F.plainAttrs_list PySem.F.slot_list_append PySem.F.type_list_append mt_append (pv 1) (pa_cons (pe_op op_modN (pe_callTy call_int1 (by rfl) T.z_int (by decide +kernel) (pa_cons (pv 3) pa_nil)) pe_int) pa_nil)))
      (pss_one (ps_set (i := 3) sc_l_tape.nd rfl (Or.inl rfl) (pe_op op_fdivX (pv 3) pe_int)))) pss_nil)))) (pss_one (ps_for PassesOwn.never rfl (pi_range1 (by rfl) T.z_range (pa_cons pe_int pa_nil)) (pg_name (i := 4) sc_l_tape.nd rfl (Or.inl rfl)) (pss_cons (ps_set (i := 5) sc_l_tape.nd rfl (Or.inl rfl) (pe_op op_modN (pe_callTy call_int1 (by rfl) T.z_int (by decide +kernel) (pa_cons (pe_op op_add (pe_op op_add (pe_op op_mul (pv 3) pe_int) (pe_op op_mul (pv 4) pe_int)) pe_int) pa_nil)) pe_int))
      (pss_one (ps_expr (pe_bm PySem.F.plainAttrs_list PySem.F.slot_list_append PySem.F.type_list_append mt_append (pv 1) (pa_cons (pe_op op_modN (pe_callTy call_int1 (by rfl) T.z_int (by decide +kernel) (pa_cons (pe_op op_add (pe_op op_mul (pv 5) pe_int) (pe_op op_fdivX (pv 5) pe_int)) pa_nil)) pe_int) pa_nil))))))))))))
      (pss_one (ps_ret (pv 1))))), ?_⟩
  exact run_S (N := ["tape", "cell", "number", "k", "first"]) (f := body_l_tape) (fun _ => (st_seq (st_own (by decide) (f_lst s_nil))
      (st_seq (st_for i_scr (g_name (by decide)) (st_seq (st_asg (s_op o_mulS s_int (s_cb c_int (s_cons s_var s_nil))) (g_name (by decide)))
      (st_seq (st_if (s_tst (s_op o_ib s_var s_int)) (st_asg (s_op o_i0 (s_neg s_int) s_var) (g_name (by decide))) st_next)
      (st_if (s_tst (s_op o_ib s_var (s_op o_pow s_int s_int))) (st_for (i_range1 (s_cons s_int s_nil)) (g_name (by decide)) (st_if (s_tst (s_op o_ib s_var s_int)) (st_seq (st_drop (s_app (s_op o_mod (s_cb c_int (s_cons s_var s_nil)) s_int)))
      (st_asg (s_op o_fdiv s_var s_int) (g_name (by decide)))) st_next)) (st_for (i_range1 (s_cons s_int s_nil)) (g_name (by decide)) (st_seq (st_asg (s_op o_mod (s_cb c_int (s_cons (s_op o_i0 (s_op o_i0 (s_op o_mulS s_var s_int) (s_op o_mulS s_var s_int)) s_int) s_nil)) s_int) (g_name (by decide)))
      (st_drop (s_app (s_op o_mod (s_cb c_int (s_cons (s_op o_i0 (s_op o_mulS s_var s_int) (s_op o_fdiv s_var s_int)) s_nil)) s_int)))))))))
      (st_frz (by decide) (st_ret s_var))))) h
theorem ok_l_draw {P : Program} {w : World} {K : PySem.W.Frag} {mg : Str → Option Value} {base : Heap} (T : Env K mg) : FnOk P w K mg base CX0 1 T.a_l_draw T.d_l_draw ["tape", "at", "many"] (spP K 3 den_l_draw) := by
  refine T.F_l_draw.ok sc_l_draw (fun vs H Q E h => len_P h) (fun cdv A outer s H vs Q E hr h => ?_)
  refine ⟨_, (pss_cons (ps_if (pt_cmpR op_lt (pv 1) (pe_callB (k_len K) (by rfl) T.z_len (by decide +kernel) (pa_cons (pv 0) pa_nil)) (nomark _)) (pss_one (ps_ret (pe_op op_modN (pe_callTy call_int1 (by rfl) T.z_int (by decide +kernel) (pa_cons (pe_ix (ixL K) (pv 0) (pv 1) (fun _ _ => rfl)) pa_nil)) (pv 2)))) pss_nil)
      (pss_cons (ps_set (i := 3) sc_l_draw.nd rfl (Or.inl rfl) pe_int)
      (pss_cons (ps_if (pt_cmpR op_gt (pe_callB (k_len K) (by rfl) T.z_len (by decide +kernel) (pa_cons (pv 0) pa_nil)) pe_int (nomark _)) (pss_one (ps_set (i := 3) sc_l_draw.nd rfl (Or.inl rfl) (pe_ix (ixL K) (pv 0) (pe_op op_modN (pe_callTy call_int1 (by rfl) T.z_int (by decide +kernel) (pa_cons (pv 1) pa_nil)) (pe_callB (k_len K) (by rfl) T.z_len (by decide +kernel) (pa_cons (pv 0) pa_nil))) (fun _ _ => rfl)))) pss_nil)
      (pss_one (ps_ret (pe_op op_modN (pe_op op_modN (pe_callTy call_int1 (by rfl) T.z_int (by decide +kernel) (pa_cons (pe_op op_add (pe_op op_mul (pe_op op_mulW (pe_op op_add (pv 3) (pv 1)) (pe_op op_add (pv 1) pe_int)) pe_int) (pe_op op_mul (pv 1) pe_int)) pa_nil)) pe_int) (pv 2))))))), ?_⟩
  exact run_P (N := ["tape", "at", "many", "number"]) (f := body_l_draw) (fun _ => (st_seq (st_if (s_tst (s_op o_ib s_var (s_cb c_len (s_cons s_var s_nil)))) (st_ret (s_op o_mod (s_cb c_int (s_cons (s_op o_ixL s_var s_var) s_nil)) s_var)) st_next)
      (st_seq (st_asg s_int (g_name (by decide)))
      (st_seq (st_if (s_tst (s_op o_ib (s_cb c_len (s_cons s_var s_nil)) s_int)) (st_asg (s_op o_ixL s_var (s_op o_mod (s_cb c_int (s_cons s_var s_nil)) (s_cb c_len (s_cons s_var s_nil)))) (g_name (by decide))) st_next)
      (st_ret (s_op o_mod (s_op o_mod (s_cb c_int (s_cons (s_op o_i0 (s_op o_mulS (s_op o_mul (s_op o_i0 s_var s_var) (s_op o_i0 s_var s_int)) s_int) (s_op o_mulS s_var s_int)) s_nil)) s_int) s_var)))))) h
theorem ok_l_take {P : Program} {w : World} {K : PySem.W.Frag} {mg : Str → Option Value} {base : Heap} (T : Env K mg) : FnOk P w K mg base CX0 2 T.a_l_take T.d_l_take ["state", "many"] (spB K 1 den_l_take) := by
  refine T.F_l_take.ok sc_l_take (fun vs H Q E h => len_B h) (fun cdv A outer s H vs Q E hr h => ?_)
  have G_l_draw := ok_l_draw (P := P) (w := w) (base := base) T
  have hr_l_draw : Room 1 _ := hr.mono (by decide)
  refine ⟨_, (pss_cons (ps_asg (pe_op op_add (pe_ix (ixL K) (pv 0) pe_int (fun _ _ => rfl)) pe_int) (pg_sub (pv 0) pe_int set_list))
      (pss_one (ps_ret (pe_call G_l_draw hr_l_draw (by rfl) T.g_l_draw T.F_l_draw.kp T.b_l_draw .nil pass0 (pa_cons (pe_ix (ixL K) (pv 0) pe_int (fun _ _ => rfl)) (pa_cons (pe_ix (ixL K) (pv 0) pe_int (fun _ _ => rfl)) (pa_cons (pv 1) pa_nil))))))), ?_⟩
  exact run_B (N := ["many"]) (f := body_l_take) (fun _ => (st_seq (st_setI s_int (s_op o_i0 (s_ixO s_int) s_int))
      (st_ret (s_callP (s_cons (s_ixO s_int) (s_cons (s_ixO s_int) (s_cons s_var s_nil))))))) h
theorem ok_l_ends {P : Program} {w : World} {K : PySem.W.Frag} {mg : Str → Option Value} {base : Heap} (T : Env K mg) : FnOk P w K mg base CX0 3 T.a_l_ends T.d_l_ends ["state", "many"] (spB K 1 den_l_ends) := by
  refine T.F_l_ends.ok sc_l_ends (fun vs H Q E h => len_B h) (fun cdv A outer s H vs Q E hr h => ?_)
  have G_l_take := ok_l_take (P := P) (w := w) (base := base) T
  have hr_l_take : Room 2 _ := hr.mono (by decide)
  refine ⟨_, (pss_cons (ps_set (i := 2) sc_l_ends.nd rfl (Or.inl rfl) (pe_lst pa_nil))
      (pss_cons (ps_set (i := 3) sc_l_ends.nd rfl (Or.inl rfl) (pe_call G_l_take hr_l_take (by rfl) T.g_l_take T.F_l_take.kp T.b_l_take .nil pass0 (pa_cons (pv 0) (pa_cons (pv 1) pa_nil))))
      (pss_cons (ps_for PassesOwn.never rfl (pi_range1 (by rfl) T.z_range (pa_cons (pv 1) pa_nil)) (pg_name (i := 4) sc_l_ends.nd rfl (Or.inl rfl)) (pss_one (ps_if (PW.pt (pw_or (pt_cmpR op_eq (pv 4) (pv 3) (nomark _)) (pw_or1 (pt_cmpR op_eq (pe_call G_l_take hr_l_take (by rfl) T.g_l_take T.F_l_take.kp T.b_l_take .nil pass0 (pa_cons (pv 0) (pa_cons pe_int pa_nil))) pe_int (nomark _))))) (pss_one (ps_expr (pe_bm PySem.F.plainAttrs_list PySem.F.slot_list_append PySem.F.type_list_append mt_append (pv 2) (pa_cons (pe_tup (pa_cons (pv 4) (pa_cons (pe_ix (ixL K) (pe_lst (pa_cons pe_int (pa_cons pe_int (pa_cons pe_int (pa_cons pe_int (pa_cons pe_int (pa_cons pe_int pa_nil))))))) (pe_call G_l_take hr_l_take (by rfl) T.g_l_take T.F_l_take.kp T.b_l_take .nil pass0 (pa_cons (pv 0) (pa_cons pe_int pa_nil))) (fun _ _ => rfl)) pa_nil))) pa_nil)))) pss_nil)))
      (pss_one (ps_ret (pe_callTy (k_tuple K) (by rfl) T.z_tuple (by decide +kernel) (pa_cons (pv 2) pa_nil))))))), ?_⟩
  exact run_B (N := ["many", "ends", "first", "goal"]) (f := body_l_ends) (fun _ => (st_seq (st_own (by decide) (f_lst s_nil))
      (st_seq (st_asg (s_callB (s_cons s_var s_nil)) (g_name (by decide)))
      (st_seq (st_for (i_range1 (s_cons s_var s_nil)) (g_name (by decide)) (st_if (s_or (s_tst (s_op o_eq s_var s_var)) (s_tst (s_op o_eq (s_callB (s_cons s_int s_nil)) s_int))) (st_drop (s_app (s_tup (s_cons s_var (s_cons (s_op o_ixL (s_lst (s_cons s_int (s_cons s_int (s_cons s_int (s_cons s_int (s_cons s_int (s_cons s_int s_nil))))))) (s_callB (s_cons s_int s_nil))) s_nil))))) st_next))
      (st_ret s_tupleO))))) h
theorem ok_l_choices {P : Program} {w : World} {K : PySem.W.Frag} {mg : Str → Option Value} {base : Heap} (T : Env K mg) : FnOk P w K mg base CX0 4 T.a_l_choices T.d_l_choices ["state", "many", "most"] (spB K 2 den_l_choices) := by
  refine T.F_l_choices.ok sc_l_choices (fun vs H Q E h => len_B h) (fun cdv A outer s H vs Q E hr h => ?_)
  have G_l_take := ok_l_take (P := P) (w := w) (base := base) T
  have hr_l_take : Room 2 _ := hr.mono (by decide)
  have G_l_ends := ok_l_ends (P := P) (w := w) (base := base) T
  have hr_l_ends : Room 3 _ := hr.mono (by decide)
  refine ⟨_, (pss_cons (ps_set (i := 3) sc_l_choices.nd rfl (Or.inl rfl) (pe_lst pa_nil))
      (pss_cons (ps_for PassesOwn.never rfl (pi_range1 (by rfl) T.z_range (pa_cons (pe_op op_add pe_int (pe_call G_l_take hr_l_take (by rfl) T.g_l_take T.F_l_take.kp T.b_l_take .nil pass0 (pa_cons (pv 0) (pa_cons (pv 2) pa_nil)))) pa_nil)) (pg_name (i := 4) sc_l_choices.nd rfl (Or.inl rfl)) (pss_one (ps_expr (pe_bm PySem.F.plainAttrs_list PySem.F.slot_list_append PySem.F.type_list_append mt_append (pv 3) (pa_cons (pe_tup (pa_cons (pe_ix (ixL K) (pe_lst (pa_cons pe_int (pa_cons pe_int (pa_cons pe_int (pa_cons pe_int (pa_cons pe_int pa_nil)))))) (pe_call G_l_take hr_l_take (by rfl) T.g_l_take T.F_l_take.kp T.b_l_take .nil pass0 (pa_cons (pv 0) (pa_cons pe_int pa_nil))) (fun _ _ => rfl)) (pa_cons (pe_call G_l_ends hr_l_ends (by rfl) T.g_l_ends T.F_l_ends.kp T.b_l_ends .nil pass0 (pa_cons (pv 0) (pa_cons (pv 1) pa_nil))) pa_nil))) pa_nil)))))
      (pss_one (ps_ret (pe_callTy (k_tuple K) (by rfl) T.z_tuple (by decide +kernel) (pa_cons (pv 3) pa_nil)))))), ?_⟩
  exact run_B (N := ["many", "most", "choices", "k"]) (f := body_l_choices) (fun _ => (st_seq (st_own (by decide) (f_lst s_nil))
      (st_seq (st_for (i_range1 (s_cons (s_op o_i0 s_int (s_callB (s_cons s_var s_nil))) s_nil)) (g_name (by decide)) (st_drop (s_app (s_tup (s_cons (s_op o_ixL (s_lst (s_cons s_int (s_cons s_int (s_cons s_int (s_cons s_int (s_cons s_int s_nil)))))) (s_callB (s_cons s_int s_nil))) (s_cons (s_callB (s_cons s_var s_nil)) s_nil))))))
      (st_ret s_tupleO)))) h
theorem ok_l_system {P : Program} {w : World} {K : PySem.W.Frag} {mg : Str → Option Value} {base : Heap} (T : Env K mg) : FnOk P w K mg base CX0 5 T.a_l_system T.d_l_system ["state", "most"] (spB K 1 den_l_system) := by
  refine T.F_l_system.ok sc_l_system (fun vs H Q E h => len_B h) (fun cdv A outer s H vs Q E hr h => ?_)
  have G_l_take := ok_l_take (P := P) (w := w) (base := base) T
  have hr_l_take : Room 2 _ := hr.mono (by decide)
  have G_l_choices := ok_l_choices (P := P) (w := w) (base := base) T
  have hr_l_choices : Room 4 _ := hr.mono (by decide)
  refine ⟨_, (pss_cons (ps_set (i := 2) sc_l_system.nd rfl (Or.inr rfl) (pe_op op_add pe_int (pe_call G_l_take hr_l_take (by rfl) T.g_l_take T.F_l_take.kp T.b_l_take .nil pass0 (pa_cons (pv 0) (pa_cons (pv 1) pa_nil)))))
      (pss_one (ps_ret (pe_callTy (k_tuple K) (by rfl) T.z_tuple (by decide +kernel) (pa_cons (pe_lc (own := [("k", 3)]) (g := gName 3) (by rfl) sc_l_system.nd (pi_range1 (by rfl) T.z_range (pa_cons (pv 2) pa_nil)) (blkOk_by (own := [("k", 3)]) (N := ["state", "most", "many", "k"]) (sc := defScope s_l_system) (by decide +kernel)) (fun _ _ _ _ _ => (pg_name (i := 3) sc_l_system.nd rfl (Or.inl rfl))) (fun _ _ _ _ _ => pts_nil) (fun _ _ _ _ _ => (pe_call G_l_choices hr_l_choices (by rfl) T.g_l_choices T.F_l_choices.kp T.b_l_choices .nil pass0 (pa_cons (pv 0) (pa_cons (pv 2) (pa_cons pe_int pa_nil)))))) pa_nil))))), ?_⟩
  exact run_B (N := ["most", "many", "k"]) (f := body_l_system) (fun _ => (st_seq (st_asg (s_op o_i0 s_int (s_callB (s_cons s_var s_nil))) (g_name (by decide)))
      (st_ret (s_cb c_tuple (s_cons (s_fr (f_lc (by decide) (by decide) (i_range1 (s_cons s_var s_nil)) (fun _ => (g_name (by decide))) (fun _ => s_yes) (fun _ => (s_callB (s_cons s_var (s_cons s_int s_nil)))))) s_nil))))) h
theorem ok_are_ends {P : Program} {w : World} {K : PySem.W.Frag} {mg : Str → Option Value} {base : Heap} (T : Env K mg) : FnOk P w K mg base CX0 1 T.a_are_ends T.d_are_ends ["many", "ends"] (spP K 2 den_are_ends) := by
  refine T.F_are_ends.ok sc_are_ends (fun vs H Q E h => len_P h) (fun cdv A outer s H vs Q E hr h => ?_)
  refine ⟨_, (pss_cons (ps_if (pt_not (pt_chain op_le op_le pe_int (pe_callB (k_len K) (by rfl) T.z_len (by decide +kernel) (pa_cons (pv 1) pa_nil)) (pe_glob (v := .int 6) (by rfl) T.c_MOST_ENDS ⟨_, rfl⟩))) (pss_one (ps_ret pe_bl)) pss_nil)
      (pss_cons (ps_set (i := 2) sc_are_ends.nd rfl (Or.inl rfl) (pe_un un_neg pe_int))
      (pss_cons (ps_for PassesOwn.never rfl (k_iTup K (by rfl) (pv 1)) (k_gTup K (by rfl) (by rfl) (pgs_cons (pg_name (i := 3) sc_are_ends.nd rfl (Or.inl rfl)) (pgs_cons (pg_name (i := 4) sc_are_ends.nd rfl (Or.inl rfl)) pgs_nil))) (pss_cons (ps_if (pt_not (pt_chain op_lt op_lt (pv 2) (pv 3) (pv 0))) (pss_one (ps_ret pe_bl)) pss_nil)
      (pss_cons (ps_if (pt_not (pt_chain op_le op_le pe_int (pv 4) (pe_glob (v := .int 1000) (by rfl) T.c_MOST_WEIGHT ⟨_, rfl⟩))) (pss_one (ps_ret pe_bl)) pss_nil)
      (pss_one (ps_set (i := 2) sc_are_ends.nd rfl (Or.inl rfl) (pv 3))))))
      (pss_one (ps_ret pe_bl))))), ?_⟩
  exact run_P (N := ["many", "ends", "before", "state", "weight"]) (f := body_are_ends) (fun _ => (st_seq (st_if (s_not (s_tst (s_chain o_ib o_ib s_int (s_cb c_len (s_cons s_var s_nil)) s_int))) (st_ret s_bl) st_next)
      (st_seq (st_asg (s_neg s_int) (g_name (by decide)))
      (st_seq (st_then (by decide) (st_for (i_tup s_var) (g_tup (g_cons (g_name (by decide)) (g_cons (g_name (by decide)) g_nil))) (st_then (by decide) (st_seq (st_if (s_not (s_tst (s_chain o_ib o_ib s_var s_var s_var))) (st_ret s_bl) st_next)
      (st_seq (st_if (s_not (s_tst (s_chain o_ib o_ib s_int s_var s_int))) (st_ret s_bl) st_next)
      (st_asg s_var (g_name (by decide))))))))
      (st_ret s_bl))))) h
theorem ok_fault_in_state {P : Program} {w : World} {K : PySem.W.Frag} {mg : Str → Option Value} {base : Heap} (T : Env K mg) : FnOk P w K mg base CX0 2 T.a_fault_in_state T.d_fault_in_state ["many", "state", "choices"] (spP K 3 den_fault_in_state) := by
  refine T.F_fault_in_state.ok sc_fault_in_state (fun vs H Q E h => len_P h) (fun cdv A outer s H vs Q E hr h => ?_)
  have G_are_ends := ok_are_ends (P := P) (w := w) (base := base) T
  have hr_are_ends : Room 1 _ := hr.mono (by decide)
  refine ⟨_, (pss_cons (ps_if (pt_not (pt_chain op_le op_le pe_int (pe_callB (k_len K) (by rfl) T.z_len (by decide +kernel) (pa_cons (pv 2) pa_nil)) (pe_glob (v := .int 6) (by rfl) T.c_MOST_CHOICES ⟨_, rfl⟩))) (pss_one (ps_ret (pe_tup (pa_cons pe_str (pa_cons (pv 1) pa_nil))))) pss_nil)
      (pss_cons (ps_for PassesOwn.never rfl (pi_enumK .T (by rfl) T.z_enumerate (pa_cons (pv 2) pa_nil)) (k_gTup K (by rfl) (by rfl) (pgs_cons (pg_name (i := 3) sc_fault_in_state.nd rfl (Or.inl rfl)) (pgs_cons (k_gTup K (by rfl) (by rfl) (pgs_cons (pg_name (i := 4) sc_fault_in_state.nd rfl (Or.inl rfl)) (pgs_cons (pg_name (i := 5) sc_fault_in_state.nd rfl (Or.inl rfl)) pgs_nil))) pgs_nil))) (pss_cons (ps_if (pt_not (pt_chain op_le op_le pe_int (pv 4) (pe_glob (v := .int 1000) (by rfl) T.c_MOST_COST ⟨_, rfl⟩))) (pss_one (ps_ret (pe_tup (pa_cons pe_str (pa_cons (pv 1) (pa_cons (pv 3) pa_nil)))))) pss_nil)
      (pss_one (ps_if (pt_not (pt_val (pe_call G_are_ends hr_are_ends (by rfl) T.g_are_ends T.F_are_ends.kp T.b_are_ends .nil pass0 (pa_cons (pv 0) (pa_cons (pv 5) pa_nil))))) (pss_one (ps_ret (pe_tup (pa_cons pe_str (pa_cons (pv 1) (pa_cons (pv 3) pa_nil)))))) pss_nil))))
      (pss_one (ps_ret pe_non)))), ?_⟩
  exact run_P (N := ["many", "state", "choices", "number", "cost", "ends"]) (f := body_fault_in_state) (fun _ => (st_seq (st_if (s_not (s_tst (s_chain o_ib o_ib s_int (s_cb c_len (s_cons s_var s_nil)) s_int))) (st_ret (s_tup (s_cons s_str (s_cons s_var s_nil)))) st_next)
      (st_seq (st_then (by decide) (st_for (i_enumK (s_cons s_var s_nil)) (g_tup (g_cons (g_name (by decide)) (g_cons (g_tup (g_cons (g_name (by decide)) (g_cons (g_name (by decide)) g_nil))) g_nil))) (st_then (by decide) (st_seq (st_if (s_not (s_tst (s_chain o_ib o_ib s_int s_var s_int))) (st_ret (s_tup (s_cons s_str (s_cons s_var (s_cons s_var s_nil))))) st_next)
      (st_if (s_not (s_tB (s_callP (s_cons s_var (s_cons s_var s_nil))))) (st_ret (s_tup (s_cons s_str (s_cons s_var (s_cons s_var s_nil))))) st_next)))))
      (st_ret s_non)))) h
theorem ok_fault {P : Program} {w : World} {K : PySem.W.Frag} {mg : Str → Option Value} {base : Heap} (T : Env K mg) : FnOk P w K mg base CX0 3 T.a_fault T.d_fault ["system"] (spP K 1 den_fault) := by
  refine T.F_fault.ok sc_fault (fun vs H Q E h => len_P h) (fun cdv A outer s H vs Q E hr h => ?_)
  have G_fault_in_state := ok_fault_in_state (P := P) (w := w) (base := base) T
  have hr_fault_in_state : Room 2 _ := hr.mono (by decide)
  refine ⟨_, (pss_cons (ps_if (pt_not (pt_chain op_le op_le pe_int (pe_callB (k_len K) (by rfl) T.z_len (by decide +kernel) (pa_cons (pv 0) pa_nil)) (pe_glob (v := .int 20) (by rfl) T.c_MOST_STATES ⟨_, rfl⟩))) (pss_one (ps_ret (pe_tup (pa_cons pe_str pa_nil)))) pss_nil)
      (pss_cons (ps_for PassesOwn.never rfl (pi_enumK .T (by rfl) T.z_enumerate (pa_cons (pv 0) pa_nil)) (k_gTup K (by rfl) (by rfl) (pgs_cons (pg_name (i := 1) sc_fault.nd rfl (Or.inl rfl)) (pgs_cons (pg_name (i := 2) sc_fault.nd rfl (Or.inl rfl)) pgs_nil))) (pss_cons (ps_set (i := 3) sc_fault.nd rfl (Or.inl rfl) (pe_call G_fault_in_state hr_fault_in_state (by rfl) T.g_fault_in_state T.F_fault_in_state.kp T.b_fault_in_state .nil pass0 (pa_cons (pe_callB (k_len K) (by rfl) T.z_len (by decide +kernel) (pa_cons (pv 0) pa_nil)) (pa_cons (pv 1) (pa_cons (pv 2) pa_nil)))))
      (pss_one (ps_if (pt_cmpR op_notN (pv 3) pe_non (nomark _)) (pss_one (ps_ret (pv 3))) pss_nil))))
      (pss_one (ps_ret pe_non)))), ?_⟩
  exact run_P (N := ["system", "state", "choices", "found"]) (f := body_fault) (fun _ => (st_seq (st_if (s_not (s_tst (s_chain o_ib o_ib s_int (s_cb c_len (s_cons s_var s_nil)) s_int))) (st_ret (s_tup (s_cons s_str s_nil))) st_next)
      (st_seq (st_then (by decide) (st_for (i_enumK (s_cons s_var s_nil)) (g_tup (g_cons (g_name (by decide)) (g_cons (g_name (by decide)) g_nil))) (st_then (by decide) (st_seq (st_asg (s_callP (s_cons (s_cb c_len (s_cons s_var s_nil)) (s_cons s_var (s_cons s_var s_nil)))) (g_name (by decide)))
      (st_if (s_tst (s_op o_notN s_var s_non)) (st_ret s_var) st_next)))))
      (st_ret s_non)))) h
theorem ok_is_number {P : Program} {w : World} {K : PySem.W.Frag} {mg : Str → Option Value} {base : Heap} (T : Env K mg) : FnOk P w K mg base CX0 1 T.a_is_number T.d_is_number ["text", "most"] (spP K 2 den_is_number) := by
  refine T.F_is_number.ok sc_is_number (fun vs H Q E h => len_P h) (fun cdv A outer s H vs Q E hr h => ?_)
  refine ⟨_, (pss_cons (ps_if (pt_not (PW.pt (pw_and (pt_val (pe_m0 PySem.F.slot_str_isascii PySem.F.type_str_isascii mt_isascii (pv 0))) (pw_and1 (pt_val (pe_m0 PySem.F.slot_str_isdigit PySem.F.type_str_isdigit mt_isdigit (pv 0))))))) (pss_one (ps_ret pe_bl)) pss_nil)
      (pss_one (ps_ret (pe_and (pe_cmpR op_le (pe_callB call_len_str (by rfl) T.z_len (by decide +kernel) (pa_cons (pv 0) pa_nil)) (pv 1) (nomark _)) (pe_one (pe_or (pe_cmpR op_eq (pv 0) pe_str (nomark _)) (pe_one (pe_cmpR op_ne (pe_ix ix_str (pv 0) pe_int (fun _ _ => rfl)) pe_str (nomark _))))))))), ?_⟩
  exact run_P (N := ["text", "most"]) (f := body_is_number) (fun _ => (st_seq (st_if (s_not (s_and (s_tB (s_m0 m_isascii s_var)) (s_tB (s_m0 m_isdigit s_var)))) (st_ret s_bl) st_next)
      (st_ret (s_andV (s_op o_ib (s_cb c_lenS (s_cons s_var s_nil)) s_var) (s_orV (s_op o_eq s_var s_str) (s_op o_ne (s_op o_ixS s_var s_int) s_str)))))) h
theorem ok_parse_integer {P : Program} {w : World} {K : PySem.W.Frag} {mg : Str → Option Value} {base : Heap} (T : Env K mg) : FnOk P w K mg base (L2.CX P w) 3 T.a_parse_integer T.d_parse_integer ["number", "word"] (spX K T.L 2 den_parse_integer) := by
  refine T.F_parse_integer.okX sc_parse_integer (fun vs H Q E h => len_X h) (fun cdv A outer s H vs Q E hr h => ?_)
  have G_is_number := ok_is_number (P := P) (w := w) (base := base) T
  have hr_is_number : Room 1 _ := hr.mono (by decide)
  have I_InvalidLine := iok_InvalidLine (P := P) (w := w) (base := base) T
  have hr_InvalidLine : Room 2 _ := hr.mono (by decide)
  have tk : Takes (cxOf (L2.CX P w) P w K mg base ["number", "word"] "parse_integer" (defScope s_parse_integer) T.a_parse_integer cdv A outer s H E) (fun cls d _ H => E cls d H) := takes_of rfl rfl rfl rfl
  refine ⟨_, (pss_cons (ps_if (PT.nox (pt_not (pt_val (pe_call G_is_number hr_is_number (by rfl) T.g_is_number T.F_is_number.kp T.b_is_number .nil pass0 (pa_cons (pv 1) (pa_cons (pe_glob (v := .int 4) (by rfl) T.c_MOST_PLACES ⟨_, rfl⟩) pa_nil)))))) (pss_one (ps_raise rfl tk (pmk_oex T.o_InvalidLine T.i_InvalidLine T.t_InvalidLine I_InvalidLine hr_InvalidLine T.b_InvalidLine .nil pass0 (by rfl) T.g_InvalidLine (pa_cons (pv 0) pa_nil)))) pss_nil)
      (pss_one (ps_nox (ps_ret (pe_callTy call_int_str (by rfl) T.z_int (by decide +kernel) (pa_cons (pv 1) pa_nil)))))), ?_⟩
  exact run_X (N := ["number", "word"]) (f := body_parse_integer) (fun C lk => (st_seq (st_if (s_not (s_tB (s_callP (s_cons s_var (s_cons s_int s_nil))))) (st_raise lk rfl rfl T.o_InvalidLine T.n_InvalidLine (s_cons s_var s_nil)) st_next)
      (st_ret (s_cb c_intS (s_cons s_var s_nil))))) h
theorem ok_parse_choice {P : Program} {w : World} {K : PySem.W.Frag} {mg : Str → Option Value} {base : Heap} (T : Env K mg) : FnOk P w K mg base (L2.CX P w) 4 T.a_parse_choice T.d_parse_choice ["number", "line"] (spX K T.L 2 den_parse_choice) := by
  refine T.F_parse_choice.okX sc_parse_choice (fun vs H Q E h => len_X h) (fun cdv A outer s H vs Q E hr h => ?_)
  have G_parse_integer := ok_parse_integer (P := P) (w := w) (base := base) T
  have hr_parse_integer : Room 3 _ := hr.mono (by decide)
  have tk : Takes (cxOf (L2.CX P w) P w K mg base ["number", "line", "words", "cost", "ends", "word", "state", "_", "weight"] "parse_choice" (defScope s_parse_choice) T.a_parse_choice cdv A outer s H E) (fun cls d _ H => E cls d H) := takes_of rfl rfl rfl rfl
  refine ⟨_, (pss_cons (ps_nox (ps_set (i := 2) sc_parse_choice.nd rfl (Or.inl rfl) (pe_m1 PySem.F.slot_str_split PySem.F.type_str_split mt_split (pv 1) pe_str)))
      (pss_cons (ps_set (i := 3) sc_parse_choice.nd rfl (Or.inl rfl) (pe_callS G_parse_integer hr_parse_integer (by rfl) T.g_parse_integer T.F_parse_integer.kp T.b_parse_integer (fun σ => passAt tk σ) (pa_cons (pv 0) (pa_cons (pe_ix (ixL K) (pv 2) pe_int (fun _ _ => rfl)) pa_nil))))
      (pss_cons (ps_nox (ps_set (i := 4) sc_parse_choice.nd rfl (Or.inl rfl) (pe_lst pa_nil)))
      (pss_cons (ps_for (passes_of rfl) rfl (k_iList K (by rfl) (pe_slice (k_slL K) (pv 2) (po_some pe_int) po_none)) (pg_name (i := 5) sc_parse_choice.nd rfl (Or.inl rfl)) (pss_cons (ps_nox (ps_asg (pe_m1 PySem.F.slot_str_partition PySem.F.type_str_partition mt_partition (pv 5) pe_str) (k_gTup K (by rfl) (by rfl) (pgs_cons (pg_name (i := 6) sc_parse_choice.nd rfl (Or.inl rfl)) (pgs_cons (pg_name (i := 7) sc_parse_choice.nd rfl (Or.inl rfl)) (pgs_cons (pg_name (i := 8) sc_parse_choice.nd rfl (Or.inl rfl)) pgs_nil))))))
      (pss_one (ps_expr (pe_bm PySem.F.plainAttrs_list PySem.F.slot_list_append PySem.F.type_list_append mt_append (pv 4) (pa_cons (pe_tup (pa_cons (pe_callS G_parse_integer hr_parse_integer (by rfl) T.g_parse_integer T.F_parse_integer.kp T.b_parse_integer (fun σ => passAt tk σ) (pa_cons (pv 0) (pa_cons (pv 6) pa_nil))) (pa_cons (pe_callS G_parse_integer hr_parse_integer (by rfl) T.g_parse_integer T.F_parse_integer.kp T.b_parse_integer (fun σ => passAt tk σ) (pa_cons (pv 0) (pa_cons (pv 8) pa_nil))) pa_nil))) pa_nil))))))
      (pss_one (ps_nox (ps_ret (pe_tup (pa_cons (pv 3) (pa_cons (pe_callTy (k_tuple K) (by rfl) T.z_tuple (by decide +kernel) (pa_cons (pv 4) pa_nil)) pa_nil)))))))))), ?_⟩
  exact run_X (N := ["number", "line", "words", "cost", "ends", "word", "state", "_", "weight"]) (f := body_parse_choice) (fun C lk => (st_seq (st_asg (s_m1 m_split s_var s_str) (g_name (by decide)))
      (st_seq (st_asg (s_callX lk (s_cons s_var (s_cons (s_op o_ixL s_var s_int) s_nil))) (g_name (by decide)))
      (st_seq (st_own (by decide) (f_lst s_nil))
      (st_seq (st_then (by decide) (st_for (i_list (s_sl l_slL s_var (s_part s_int) s_noPart)) (g_name (by decide)) (st_then (by decide) (st_seq (st_asg (s_m1 m_partition s_var s_str) (g_tup (g_cons (g_name (by decide)) (g_cons (g_name (by decide)) (g_cons (g_name (by decide)) g_nil)))))
      (st_drop (s_app (s_tup (s_cons (s_callX lk (s_cons s_var (s_cons s_var s_nil))) (s_cons (s_callX lk (s_cons s_var (s_cons s_var s_nil))) s_nil)))))))))
      (st_ret (s_tup (s_cons s_var (s_cons s_tupleO s_nil))))))))) h
theorem ok_parse_system {P : Program} {w : World} {K : PySem.W.Frag} {mg : Str → Option Value} {base : Heap} (T : Env K mg) : FnOk P w K mg base (L2.CX P w) 5 T.a_parse_system T.d_parse_system ["text"] (spX K T.L 1 den_parse_system) := by
  refine T.F_parse_system.okX sc_parse_system (fun vs H Q E h => len_X h) (fun cdv A outer s H vs Q E hr h => ?_)
  have G_fault := ok_fault (P := P) (w := w) (base := base) T
  have hr_fault : Room 3 _ := hr.mono (by decide)
  have G_parse_choice := ok_parse_choice (P := P) (w := w) (base := base) T
  have hr_parse_choice : Room 4 _ := hr.mono (by decide)
  have I_InvalidSystem := iok_InvalidSystem (P := P) (w := w) (base := base) T
  have hr_InvalidSystem : Room 2 _ := hr.mono (by decide)
  have I_InvalidLine := iok_InvalidLine (P := P) (w := w) (base := base) T
  have hr_InvalidLine : Room 2 _ := hr.mono (by decide)
  have tk : Takes (cxOf (L2.CX P w) P w K mg base ["text", "states", "system", "found", "number", "line", "choices"] "parse_system" (defScope s_parse_system) T.a_parse_system cdv A outer s H E) (fun cls d _ H => E cls d H) := takes_of rfl rfl rfl rfl
  refine ⟨_, (pss_cons (ps_nox (ps_set (i := 1) sc_parse_system.nd rfl (Or.inl rfl) (pe_lst pa_nil)))
      (pss_cons (ps_for (passes_of rfl) rfl (pi_enumK .L (by rfl) T.z_enumerate (pa_cons (pe_m1 PySem.F.slot_str_split PySem.F.type_str_split mt_split (pv 0) pe_str) pa_nil)) (k_gTup K (by rfl) (by rfl) (pgs_cons (pg_name (i := 4) sc_parse_system.nd rfl (Or.inl rfl)) (pgs_cons (pg_name (i := 5) sc_parse_system.nd rfl (Or.inl rfl)) pgs_nil))) (pss_one (ps_if (PT.nox (pt_cmpR op_eq (pv 5) pe_str (nomark _))) (pss_one (ps_nox (ps_expr (pe_bm PySem.F.plainAttrs_list PySem.F.slot_list_append PySem.F.type_list_append mt_append (pv 1) (pa_cons (pe_lst pa_nil) pa_nil))))) (pss_one (ps_if (PT.nox (pt_not (k_truth K (by rfl) (pv 1) (by intro _; rfl)))) (pss_one (ps_raise rfl tk (pmk_oex T.o_InvalidLine T.i_InvalidLine T.t_InvalidLine I_InvalidLine hr_InvalidLine T.b_InvalidLine .nil pass0 (by rfl) T.g_InvalidLine (pa_cons (pv 4) pa_nil)))) (pss_one (ps_expr (pe_bm PySem.F.plainAttrs_list PySem.F.slot_list_append PySem.F.type_list_append mt_append (pe_ix (ixL K) (pv 1) (pe_un un_neg pe_int) (fun _ _ => rfl)) (pa_cons (pe_callS G_parse_choice hr_parse_choice (by rfl) T.g_parse_choice T.F_parse_choice.kp T.b_parse_choice (fun σ => passAt tk σ) (pa_cons (pv 4) (pa_cons (pv 5) pa_nil))) pa_nil)))))))))
      (pss_cons (ps_nox (ps_set (i := 2) sc_parse_system.nd rfl (Or.inl rfl) (pe_callTy (k_tuple K) (by rfl) T.z_tuple (by decide +kernel) (pa_cons (pe_lc (own := [("choices", 6)]) (g := gName 6) (by rfl) sc_parse_system.nd (k_iList K (by rfl) (pv 1)) (blkOk_by (own := [("choices", 6)]) (N := ["text", "states", "system", "found", "number", "line", "choices"]) (sc := defScope s_parse_system) (by decide +kernel)) (fun _ _ _ _ _ => (pg_name (i := 6) sc_parse_system.nd rfl (Or.inl rfl))) (fun _ _ _ _ _ => pts_nil) (fun _ _ _ _ _ => (pe_callTy (k_tuple K) (by rfl) T.z_tuple (by decide +kernel) (pa_cons (pv 6) pa_nil)))) pa_nil))))
      (pss_cons (ps_nox (ps_set (i := 3) sc_parse_system.nd rfl (Or.inl rfl) (pe_call G_fault hr_fault (by rfl) T.g_fault T.F_fault.kp T.b_fault .nil pass0 (pa_cons (pv 2) pa_nil))))
      (pss_cons (ps_if (PT.nox (pt_cmpR op_notN (pv 3) pe_non (nomark _))) (pss_one (ps_raise rfl tk (pmk_oex T.o_InvalidSystem T.i_InvalidSystem T.t_InvalidSystem I_InvalidSystem hr_InvalidSystem T.b_InvalidSystem .nil pass0 (by rfl) T.g_InvalidSystem (pa_cons (pv 3) pa_nil)))) pss_nil)
      (pss_one (ps_nox (ps_ret (pv 2))))))))), ?_⟩
  exact run_X (N := ["text", "states", "system", "found", "number", "line", "choices"]) (f := body_parse_system) (fun C lk => (st_seq2 (st_pars lk rfl rfl T.o_InvalidLine T.n_InvalidLine (fun _ => (i_enumK (s_cons (s_m1 m_split s_var s_str) s_nil))) (by decide) (by decide) (by decide))
      (st_seq (st_asg (s_cb c_tuple (s_cons (s_fr (f_lc (by decide) (by decide) (i_list s_var) (fun _ => (g_name (by decide))) (fun _ => s_yes) (fun _ => (s_cb c_tuple (s_cons s_var s_nil))))) s_nil)) (g_name (by decide)))
      (st_seq (st_asg (s_callP (s_cons s_var s_nil)) (g_name (by decide)))
      (st_seq (st_if (s_tst (s_op o_notN s_var s_non)) (st_raise lk rfl rfl T.o_InvalidSystem T.n_InvalidSystem (s_cons s_var s_nil)) st_next)
      (st_ret s_var)))))) h
theorem ok_l_told {P : Program} {w : World} {K : PySem.W.Frag} {mg : Str → Option Value} {base : Heap} (T : Env K mg) : FnOk P w K mg base CX0 6 T.a_l_told T.d_l_told ["text"] (spP K 1 den_l_told) := by
  refine T.F_l_told.ok sc_l_told (fun vs H Q E h => len_P h) (fun cdv A outer s H vs Q E hr h => ?_)
  have G_parse_system := ok_parse_system (P := P) (w := w) (base := base) T
  have hr_parse_system : Room 5 _ := hr.mono (by decide)
  refine ⟨_, pss_one (ps_try_all (i := 1) rfl rfl sc_l_told.nd rfl rfl takes_none5
    (fun W pn xe tk _ => pss_one (ps_ret (pe_tup (pa_cons pe_str (pa_cons (pe_callS G_parse_system hr_parse_system (by rfl) T.g_parse_system T.F_parse_system.kp T.b_parse_system (fun σ => passAt tk σ) (pa_cons (pv 0) pa_nil)) pa_nil)))))
    (.cons ⟨rfl, by decide, .inl T.g_InvalidLine⟩ (fun a oe cls d pn hz hf => pss_one (ps_ret (pe_tup (pa_cons pe_str (pa_cons
        (pe_ifExp (PW.pt (pw_and (pt_val (pe_callB (call_isEd hz hf) (by rfl) T.z_isinstance (by decide +kernel) (pa_cons (pv 1) (pa_cons (pe_glob (v := .ref T.c_BestoddsError) (by rfl) T.g_BestoddsError rfl) pa_nil))))
          (pw_and1 (pt_val (pe_callB (call_isEd hz hf) (by rfl) T.z_isinstance (by decide +kernel) (pa_cons (pv 1) (pa_cons (pe_bltn (v := .ty "ValueError") (by rfl) T.z_ValueError (by decide +kernel) rfl) pa_nil)))))))
          (pe_xf (xcB_xf T.xc_InvalidLine) T.n_InvalidLine hz hf (pv 1)) (pe_op op_sub pe_int pe_int)) pa_nil)))))
      (.cons ⟨rfl, by decide, .inl T.g_InvalidSystem⟩ (fun a oe cls d pn hz hf => pss_one (ps_ret (pe_tup (pa_cons pe_str (pa_cons
        (pe_ifExp (PW.pt (pw_and (pt_val (pe_callB (call_isEd hz hf) (by rfl) T.z_isinstance (by decide +kernel) (pa_cons (pv 1) (pa_cons (pe_glob (v := .ref T.c_BestoddsError) (by rfl) T.g_BestoddsError rfl) pa_nil))))
          (pw_and1 (pt_val (pe_callB (call_isEd hz hf) (by rfl) T.z_isinstance (by decide +kernel) (pa_cons (pv 1) (pa_cons (pe_bltn (v := .ty "ValueError") (by rfl) T.z_ValueError (by decide +kernel) rfl) pa_nil)))))))
          (pe_xf (xcB_xf T.xc_InvalidSystem) T.n_InvalidSystem hz hf (pv 1)) (pe_tup pa_nil)) pa_nil))))) .nil))), ?_⟩
  obtain ⟨ds, B, d, bh, hl, h⟩ := h
  match ds, hl, d, h with
  | [x], _, .cons (v := v) d1 .nil, h =>
    refine ⟨v, rfl, [x], B, .cons d1 .nil, bh, rfl, ?_⟩
    unfold den_l_told at h
    cases q : den_parse_system [x] with
    | bad =>
      rw [q] at h
      exact h.elim
    | ok z =>
      rw [q] at h
      intro v H' B' sH sB bh' fz dv
      exact ⟨(by show 2 ≤ sizeLine; decide), fun p hp => pair_new sH sB bh' fz dv h hp⟩
    | err e =>
      rw [q] at h
      dsimp only at h
      cases ea : e.arg with
      | none =>
        rw [ea] at h
        exact h.elim
      | some y =>
        rw [ea] at h
        dsimp only at h
        intro c d u H' B' hc sH sB bh' fz da xd
        unfold XD at xd
        rw [ea] at xd
        obtain ⟨dd, rfl, hdd⟩ := xd
        have da' := da y ea
        by_cases c1 : e.cls = "InvalidLine"
        · rw [if_pos c1] at h
          rw [c1] at hc hdd
          cases hc
          refine ⟨true, T.h_InvalidLine_InvalidLine, fun _ a na => ?_, fun z => nomatch z⟩
          have X := xcB_ok T.xc_InvalidLine
          have nd : ∀ d2 : Addr, some dd = some d2 → ∃ fs, H' d2 = some (.xd fs) := fun d2 z => by cases z; exact ⟨_, hdd⟩
          refine ⟨_, rfl, T.c_InvalidLine, .ref T.c_BestoddsError, .ref T.c_BestoddsError, true, rfl, X, rfl, fun _ z => z, T.j_InvalidLine_BestoddsError, nd, true, rfl, ?_⟩
          refine ifT ?_
          refine ⟨_, rfl, T.c_InvalidLine, .ty "ValueError", .type "ValueError", true, rfl, X, rfl, fun _ z => z, T.j_InvalidLine_ValueError, nd, true, rfl, ?_⟩
          refine ifT ?_
          refine ⟨_, rfl, rfl, rfl, dd, _, u, rfl, hdd, List.lookup_cons_self, ?_⟩
          exact ⟨(by show 2 ≤ sizeLine; decide), fun p hp => pair_new sH sB bh' fz da' h hp⟩
        · rw [if_neg c1] at h
          by_cases c2 : e.cls = "InvalidSystem"
          · rw [if_pos c2] at h
            rw [c2] at hc hdd
            cases hc
            refine ⟨false, T.h_InvalidSystem_InvalidLine, (fun z => nomatch z), fun _ => ⟨true, T.h_InvalidSystem_InvalidSystem, fun _ a na => ?_, fun z => nomatch z⟩⟩
            have X := xcB_ok T.xc_InvalidSystem
            have nd : ∀ d2 : Addr, some dd = some d2 → ∃ fs, H' d2 = some (.xd fs) := fun d2 z => by cases z; exact ⟨_, hdd⟩
            refine ⟨_, rfl, T.c_InvalidSystem, .ref T.c_BestoddsError, .ref T.c_BestoddsError, true, rfl, X, rfl, fun _ z => z, T.j_InvalidSystem_BestoddsError, nd, true, rfl, ?_⟩
            refine ifT ?_
            refine ⟨_, rfl, T.c_InvalidSystem, .ty "ValueError", .type "ValueError", true, rfl, X, rfl, fun _ z => z, T.j_InvalidSystem_ValueError, nd, true, rfl, ?_⟩
            refine ifT ?_
            refine ⟨_, rfl, rfl, rfl, dd, _, u, rfl, hdd, List.lookup_cons_self, ?_⟩
            exact ⟨(by show 2 ≤ sizeLine; decide), fun p hp => pair_new sH sB bh' fz da' h hp⟩
          · rw [if_neg c2] at h
            exact h.elim

theorem ok_l_changed {P : Program} {w : World} {K : PySem.W.Frag} {mg : Str → Option Value} {base : Heap} (T : Env K mg) : FnOk P w K mg base CX0 3 T.a_l_changed T.d_l_changed ["state", "text"] (spB K 1 den_l_changed) := by
  refine T.F_l_changed.ok sc_l_changed (fun vs H Q E h => len_B h) (fun cdv A outer s H vs Q E hr h => ?_)
  have G_l_take := ok_l_take (P := P) (w := w) (base := base) T
  have hr_l_take : Room 2 _ := hr.mono (by decide)
  refine ⟨_, (pss_cons (ps_set (i := 2) sc_l_changed.nd rfl (Or.inl rfl) (pe_m1 PySem.F.slot_str_split PySem.F.type_str_split mt_split (pv 1) pe_str))
      (pss_cons (ps_set (i := 3) sc_l_changed.nd rfl (Or.inl rfl) (pe_call G_l_take hr_l_take (by rfl) T.g_l_take T.F_l_take.kp T.b_l_take .nil pass0 (pa_cons (pv 0) (pa_cons (pe_callB (k_len K) (by rfl) T.z_len (by decide +kernel) (pa_cons (pv 2) pa_nil)) pa_nil))))
      (pss_cons (ps_set (i := 4) sc_l_changed.nd rfl (Or.inl rfl) (pe_call G_l_take hr_l_take (by rfl) T.g_l_take T.F_l_take.kp T.b_l_take .nil pass0 (pa_cons (pv 0) (pa_cons pe_int pa_nil))))
      (pss_cons (ps_if (pt_cmpR op_eq (pv 4) pe_int (nomark _)) (pss_one (ps_ret (pe_join pe_str (pe_op op_cat (pe_slice (k_slL K) (pv 2) po_none (po_some (pv 3))) (pe_slice (k_slL K) (pv 2) (po_some (pe_op op_add (pv 3) pe_int)) po_none))))) pss_nil)
      (pss_cons (ps_if (pt_cmpR op_eq (pv 4) pe_int (nomark _)) (pss_one (ps_ret (pe_join pe_str (pe_op op_cat (pe_op op_cat (pe_slice (k_slL K) (pv 2) po_none (po_some (pv 3))) (pe_lst (pa_cons (pe_ix (ixL K) (pv 2) (pv 3) (fun _ _ => rfl)) (pa_cons (pe_ix (ixL K) (pv 2) (pv 3) (fun _ _ => rfl)) pa_nil)))) (pe_slice (k_slL K) (pv 2) (po_some (pe_op op_add (pv 3) pe_int)) po_none))))) pss_nil)
      (pss_cons (ps_if (pt_cmpR op_eq (pv 4) pe_int (nomark _)) (pss_one (ps_ret (pe_join pe_str (pe_op op_cat (pe_op op_cat (pe_slice (k_slL K) (pv 2) po_none (po_some (pv 3))) (pe_lst (pa_cons (pe_ix (ixL K) (pe_lst (pa_cons pe_str (pa_cons pe_str (pa_cons pe_str (pa_cons pe_str pa_nil))))) (pe_call G_l_take hr_l_take (by rfl) T.g_l_take T.F_l_take.kp T.b_l_take .nil pass0 (pa_cons (pv 0) (pa_cons pe_int pa_nil))) (fun _ _ => rfl)) pa_nil))) (pe_slice (k_slL K) (pv 2) (po_some (pe_op op_add (pv 3) pe_int)) po_none))))) pss_nil)
      (pss_cons (ps_if (pt_cmpR op_eq (pv 4) pe_int (nomark _)) (pss_cons (ps_set (i := 6) sc_l_changed.nd rfl (Or.inl rfl) (pe_call G_l_take hr_l_take (by rfl) T.g_l_take T.F_l_take.kp T.b_l_take .nil pass0 (pa_cons (pv 0) (pa_cons (pe_op op_add (pe_callB call_len_str (by rfl) T.z_len (by decide +kernel) (pa_cons (pv 1) pa_nil)) pe_int) pa_nil))))
      (pss_one (ps_ret (pe_op op_add_str (pe_op op_add_str (pe_slice sl_str (pv 1) po_none (po_some (pv 6))) (pe_ix (ixL K) (pe_lst (pa_cons pe_str (pa_cons pe_str (pa_cons pe_str (pa_cons pe_str (pa_cons pe_str (pa_cons pe_str pa_nil))))))) (pe_call G_l_take hr_l_take (by rfl) T.g_l_take T.F_l_take.kp T.b_l_take .nil pass0 (pa_cons (pv 0) (pa_cons pe_int pa_nil))) (fun _ _ => rfl))) (pe_slice sl_str (pv 1) (po_some (pv 6)) po_none))))) pss_nil)
      (pss_cons (ps_if (pt_cmpR op_eq (pv 4) pe_int (nomark _)) (pss_cons (ps_set (i := 6) sc_l_changed.nd rfl (Or.inl rfl) (pe_call G_l_take hr_l_take (by rfl) T.g_l_take T.F_l_take.kp T.b_l_take .nil pass0 (pa_cons (pv 0) (pa_cons (pe_op op_add (pe_callB call_len_str (by rfl) T.z_len (by decide +kernel) (pa_cons (pv 1) pa_nil)) pe_int) pa_nil))))
      (pss_one (ps_ret (pe_op op_add_str (pe_slice sl_str (pv 1) po_none (po_some (pv 6))) (pe_slice sl_str (pv 1) (po_some (pe_op op_add (pv 6) pe_int)) po_none))))) pss_nil)
      (pss_cons (ps_set (i := 5) sc_l_changed.nd rfl (Or.inl rfl) (pe_m1 PySem.F.slot_str_split PySem.F.type_str_split mt_split (pe_ix (ixL K) (pv 2) (pv 3) (fun _ _ => rfl)) pe_str))
      (pss_cons (ps_set (i := 6) sc_l_changed.nd rfl (Or.inl rfl) (pe_call G_l_take hr_l_take (by rfl) T.g_l_take T.F_l_take.kp T.b_l_take .nil pass0 (pa_cons (pv 0) (pa_cons (pe_callB (k_len K) (by rfl) T.z_len (by decide +kernel) (pa_cons (pv 5) pa_nil)) pa_nil))))
      (pss_cons (ps_set (i := 7) sc_l_changed.nd rfl (Or.inl rfl) (pe_lst (pa_cons pe_str (pa_cons pe_str (pa_cons pe_str (pa_cons pe_str (pa_cons pe_str (pa_cons pe_str (pa_cons pe_str (pa_cons pe_str pa_nil))))))))))
      (pss_cons (ps_set (i := 7) sc_l_changed.nd rfl (Or.inl rfl) (pe_op op_cat (pv 7) (pe_lst (pa_cons pe_str (pa_cons pe_str (pa_cons pe_str (pa_cons pe_str (pa_cons pe_str (pa_cons pe_str (pa_cons pe_str (pa_cons pe_str pa_nil)))))))))))
      (pss_cons (ps_set (i := 8) sc_l_changed.nd rfl (Or.inl rfl) (pe_ix (ixL K) (pv 7) (pe_call G_l_take hr_l_take (by rfl) T.g_l_take T.F_l_take.kp T.b_l_take .nil pass0 (pa_cons (pv 0) (pa_cons pe_int pa_nil))) (fun _ _ => rfl)))
      (pss_cons (ps_if (pt_cmpR op_lt (pv 4) pe_int (nomark _)) (pss_one (ps_set (i := 5) sc_l_changed.nd rfl (Or.inl rfl) (pe_op op_cat (pe_op op_cat (pe_slice (k_slL K) (pv 5) po_none (po_some (pv 6))) (pe_lst (pa_cons (pv 8) pa_nil))) (pe_slice (k_slL K) (pv 5) (po_some (pe_op op_add (pv 6) pe_int)) po_none)))) (pss_one (ps_if (pt_cmpR op_eq (pv 4) pe_int (nomark _)) (pss_one (ps_set (i := 5) sc_l_changed.nd rfl (Or.inl rfl) (pe_op op_cat (pe_slice (k_slL K) (pv 5) po_none (po_some (pv 6))) (pe_slice (k_slL K) (pv 5) (po_some (pe_op op_add (pv 6) pe_int)) po_none)))) (pss_one (ps_set (i := 5) sc_l_changed.nd rfl (Or.inl rfl) (pe_op op_cat (pe_op op_cat (pe_slice (k_slL K) (pv 5) po_none (po_some (pv 6))) (pe_lst (pa_cons (pv 8) pa_nil))) (pe_slice (k_slL K) (pv 5) (po_some (pv 6)) po_none)))))))
      (pss_one (ps_ret (pe_join pe_str (pe_op op_cat (pe_op op_cat (pe_slice (k_slL K) (pv 2) po_none (po_some (pv 3))) (pe_lst (pa_cons (pe_join pe_str (pv 5)) pa_nil))) (pe_slice (k_slL K) (pv 2) (po_some (pe_op op_add (pv 3) pe_int)) po_none))))))))))))))))))), ?_⟩
  exact run_B (N := ["text", "lines", "at", "way", "words", "place", "menu", "word"]) (f := body_l_changed) (fun _ => (st_seq (st_asg (s_m1 m_split s_var s_str) (g_name (by decide)))
      (st_seq (st_asg (s_callB (s_cons (s_cb c_len (s_cons s_var s_nil)) s_nil)) (g_name (by decide)))
      (st_seq (st_asg (s_callB (s_cons s_int s_nil)) (g_name (by decide)))
      (st_seq (st_if (s_tst (s_op o_eq s_var s_int)) (st_ret (s_join s_str (s_op o_cat (s_sl l_slL s_var s_noPart (s_part s_var)) (s_sl l_slL s_var (s_part (s_op o_i0 s_var s_int)) s_noPart)))) st_next)
      (st_seq (st_if (s_tst (s_op o_eq s_var s_int)) (st_ret (s_join s_str (s_op o_cat (s_op o_cat (s_sl l_slL s_var s_noPart (s_part s_var)) (s_lst (s_cons (s_op o_ixL s_var s_var) (s_cons (s_op o_ixL s_var s_var) s_nil)))) (s_sl l_slL s_var (s_part (s_op o_i0 s_var s_int)) s_noPart)))) st_next)
      (st_seq (st_if (s_tst (s_op o_eq s_var s_int)) (st_ret (s_join s_str (s_op o_cat (s_op o_cat (s_sl l_slL s_var s_noPart (s_part s_var)) (s_lst (s_cons (s_op o_ixL (s_lst (s_cons s_str (s_cons s_str (s_cons s_str (s_cons s_str s_nil))))) (s_callB (s_cons s_int s_nil))) s_nil))) (s_sl l_slL s_var (s_part (s_op o_i0 s_var s_int)) s_noPart)))) st_next)
      (st_seq (st_then (by decide) (st_if (s_tst (s_op o_eq s_var s_int)) (st_seq (st_asg (s_callB (s_cons (s_op o_i0 (s_cb c_lenS (s_cons s_var s_nil)) s_int) s_nil)) (g_name (by decide)))
      (st_ret (s_op o_catS (s_op o_catS (s_sl l_slS s_var s_noPart (s_part s_var)) (s_op o_ixL (s_lst (s_cons s_str (s_cons s_str (s_cons s_str (s_cons s_str (s_cons s_str (s_cons s_str s_nil))))))) (s_callB (s_cons s_int s_nil)))) (s_sl l_slS s_var (s_part s_var) s_noPart)))) st_next))
      (st_seq (st_then (by decide) (st_if (s_tst (s_op o_eq s_var s_int)) (st_seq (st_asg (s_callB (s_cons (s_op o_i0 (s_cb c_lenS (s_cons s_var s_nil)) s_int) s_nil)) (g_name (by decide)))
      (st_ret (s_op o_catS (s_sl l_slS s_var s_noPart (s_part s_var)) (s_sl l_slS s_var (s_part (s_op o_i0 s_var s_int)) s_noPart)))) st_next))
      (st_seq (st_asg (s_m1 m_split (s_op o_ixL s_var s_var) s_str) (g_name (by decide)))
      (st_seq (st_asg (s_callB (s_cons (s_cb c_len (s_cons s_var s_nil)) s_nil)) (g_name (by decide)))
      (st_seq (st_asg (s_lst (s_cons s_str (s_cons s_str (s_cons s_str (s_cons s_str (s_cons s_str (s_cons s_str (s_cons s_str (s_cons s_str s_nil))))))))) (g_name (by decide)))
      (st_seq (st_asg (s_op o_cat s_var (s_lst (s_cons s_str (s_cons s_str (s_cons s_str (s_cons s_str (s_cons s_str (s_cons s_str (s_cons s_str (s_cons s_str s_nil)))))))))) (g_name (by decide)))
      (st_seq (st_asg (s_op o_ixL s_var (s_callB (s_cons s_int s_nil))) (g_name (by decide)))
      (st_seq (st_if (s_tst (s_op o_ib s_var s_int)) (st_asg (s_op o_cat (s_op o_cat (s_sl l_slL s_var s_noPart (s_part s_var)) (s_lst (s_cons s_var s_nil))) (s_sl l_slL s_var (s_part (s_op o_i0 s_var s_int)) s_noPart)) (g_name (by decide))) (st_if (s_tst (s_op o_eq s_var s_int)) (st_asg (s_op o_cat (s_sl l_slL s_var s_noPart (s_part s_var)) (s_sl l_slL s_var (s_part (s_op o_i0 s_var s_int)) s_noPart)) (g_name (by decide))) (st_asg (s_op o_cat (s_op o_cat (s_sl l_slL s_var s_noPart (s_part s_var)) (s_lst (s_cons s_var s_nil))) (s_sl l_slL s_var (s_part s_var) s_noPart)) (g_name (by decide)))))
      (st_ret (s_join s_str (s_op o_cat (s_op o_cat (s_sl l_slL s_var s_noPart (s_part s_var)) (s_lst (s_cons (s_join s_str s_var) s_nil))) (s_sl l_slL s_var (s_part (s_op o_i0 s_var s_int)) s_noPart))))))))))))))))))) h
theorem ok_l_fits {P : Program} {w : World} {K : PySem.W.Frag} {mg : Str → Option Value} {base : Heap} (T : Env K mg) : FnOk P w K mg base CX0 1 T.a_l_fits T.d_l_fits ["ends", "many"] (spP K 2 den_l_fits) := by
  refine T.F_l_fits.ok sc_l_fits (fun vs H Q E h => len_P h) (fun cdv A outer s H vs Q E hr h => ?_)
  refine ⟨_, (pss_cons (ps_if (PW.pt (pw_or (pt_cmpR op_lt (pe_callB (k_len K) (by rfl) T.z_len (by decide +kernel) (pa_cons (pv 0) pa_nil)) pe_int (nomark _)) (pw_or1 (pt_cmpR op_gt (pe_callB (k_len K) (by rfl) T.z_len (by decide +kernel) (pa_cons (pv 0) pa_nil)) pe_int (nomark _))))) (pss_one (ps_ret pe_bl)) pss_nil)
      (pss_cons (ps_for PassesOwn.never rfl (pi_range1 (by rfl) T.z_range (pa_cons (pe_callB (k_len K) (by rfl) T.z_len (by decide +kernel) (pa_cons (pv 0) pa_nil)) pa_nil)) (pg_name (i := 2) sc_l_fits.nd rfl (Or.inl rfl)) (pss_cons (ps_if (PW.pt (pw_or (pt_cmpR op_lt (pe_ix (ixT K) (pe_ix (ixT K) (pv 0) (pv 2) (fun _ _ => rfl)) pe_int (fun _ _ => rfl)) pe_int (nomark _)) (pw_or (pt_cmpR op_ge (pe_ix (ixT K) (pe_ix (ixT K) (pv 0) (pv 2) (fun _ _ => rfl)) pe_int (fun _ _ => rfl)) (pv 1) (nomark _)) (pw_or (pt_cmpR op_lt (pe_ix (ixT K) (pe_ix (ixT K) (pv 0) (pv 2) (fun _ _ => rfl)) pe_int (fun _ _ => rfl)) pe_int (nomark _)) (pw_or1 (pt_cmpR op_gt (pe_ix (ixT K) (pe_ix (ixT K) (pv 0) (pv 2) (fun _ _ => rfl)) pe_int (fun _ _ => rfl)) pe_int (nomark _))))))) (pss_one (ps_ret pe_bl)) pss_nil)
      (pss_one (ps_if (PW.pt (pw_and (pt_cmpR op_gt (pv 2) pe_int (nomark _)) (pw_and1 (pt_cmpR op_le (pe_ix (ixT K) (pe_ix (ixT K) (pv 0) (pv 2) (fun _ _ => rfl)) pe_int (fun _ _ => rfl)) (pe_ix (ixT K) (pe_ix (ixT K) (pv 0) (pe_op op_sub (pv 2) pe_int) (fun _ _ => rfl)) pe_int (fun _ _ => rfl)) (nomark _))))) (pss_one (ps_ret pe_bl)) pss_nil))))
      (pss_one (ps_ret pe_bl)))), ?_⟩
  exact run_P (N := ["ends", "many", "k"]) (f := body_l_fits) (fun _ => (st_seq (st_if (s_or (s_tst (s_op o_ib (s_cb c_len (s_cons s_var s_nil)) s_int)) (s_tst (s_op o_ib (s_cb c_len (s_cons s_var s_nil)) s_int))) (st_ret s_bl) st_next)
      (st_seq (st_then (by decide) (st_for (i_range1 (s_cons (s_cb c_len (s_cons s_var s_nil)) s_nil)) (g_name (by decide)) (st_then (by decide) (st_seq (st_if (s_or (s_tst (s_op o_ib (s_op o_ixT (s_op o_ixT s_var s_var) s_int) s_int)) (s_or (s_tst (s_op o_ib (s_op o_ixT (s_op o_ixT s_var s_var) s_int) s_var)) (s_or (s_tst (s_op o_ib (s_op o_ixT (s_op o_ixT s_var s_var) s_int) s_int)) (s_tst (s_op o_ib (s_op o_ixT (s_op o_ixT s_var s_var) s_int) s_int))))) (st_ret s_bl) st_next)
      (st_if (s_and (s_tst (s_op o_ib s_var s_int)) (s_tst (s_op o_ib (s_op o_ixT (s_op o_ixT s_var s_var) s_int) (s_op o_ixT (s_op o_ixT s_var (s_op o_i0 s_var s_int)) s_int)))) (st_ret s_bl) st_next)))))
      (st_ret s_bl)))) h
theorem ok_l_due {P : Program} {w : World} {K : PySem.W.Frag} {mg : Str → Option Value} {base : Heap} (T : Env K mg) : FnOk P w K mg base CX0 2 T.a_l_due T.d_l_due ["system"] (spP K 1 den_l_due) := by
  refine T.F_l_due.ok sc_l_due (fun vs H Q E h => len_P h) (fun cdv A outer s H vs Q E hr h => ?_)
  have G_l_fits := ok_l_fits (P := P) (w := w) (base := base) T
  have hr_l_fits : Room 1 _ := hr.mono (by decide)
  refine ⟨_, (pss_cons (ps_if (PW.pt (pw_or (pt_cmpR op_lt (pe_callB (k_len K) (by rfl) T.z_len (by decide +kernel) (pa_cons (pv 0) pa_nil)) pe_int (nomark _)) (pw_or1 (pt_cmpR op_gt (pe_callB (k_len K) (by rfl) T.z_len (by decide +kernel) (pa_cons (pv 0) pa_nil)) pe_int (nomark _))))) (pss_one (ps_ret (pe_tup (pa_cons pe_str pa_nil)))) pss_nil)
      (pss_cons (ps_for PassesOwn.never rfl (pi_range1 (by rfl) T.z_range (pa_cons (pe_callB (k_len K) (by rfl) T.z_len (by decide +kernel) (pa_cons (pv 0) pa_nil)) pa_nil)) (pg_name (i := 1) sc_l_due.nd rfl (Or.inl rfl)) (pss_cons (ps_if (PW.pt (pw_or (pt_cmpR op_lt (pe_callB (k_len K) (by rfl) T.z_len (by decide +kernel) (pa_cons (pe_ix (ixT K) (pv 0) (pv 1) (fun _ _ => rfl)) pa_nil)) pe_int (nomark _)) (pw_or1 (pt_cmpR op_gt (pe_callB (k_len K) (by rfl) T.z_len (by decide +kernel) (pa_cons (pe_ix (ixT K) (pv 0) (pv 1) (fun _ _ => rfl)) pa_nil)) pe_int (nomark _))))) (pss_one (ps_ret (pe_tup (pa_cons pe_str (pa_cons (pv 1) pa_nil))))) pss_nil)
      (pss_one (ps_for PassesOwn.never rfl (pi_range1 (by rfl) T.z_range (pa_cons (pe_callB (k_len K) (by rfl) T.z_len (by decide +kernel) (pa_cons (pe_ix (ixT K) (pv 0) (pv 1) (fun _ _ => rfl)) pa_nil)) pa_nil)) (pg_name (i := 2) sc_l_due.nd rfl (Or.inl rfl)) (pss_cons (ps_asg (pe_ix (ixT K) (pe_ix (ixT K) (pv 0) (pv 1) (fun _ _ => rfl)) (pv 2) (fun _ _ => rfl)) (k_gTup K (by rfl) (by rfl) (pgs_cons (pg_name (i := 3) sc_l_due.nd rfl (Or.inl rfl)) (pgs_cons (pg_name (i := 4) sc_l_due.nd rfl (Or.inl rfl)) pgs_nil))))
      (pss_cons (ps_if (PW.pt (pw_or (pt_cmpR op_lt (pv 3) pe_int (nomark _)) (pw_or1 (pt_cmpR op_gt (pv 3) pe_int (nomark _))))) (pss_one (ps_ret (pe_tup (pa_cons pe_str (pa_cons (pv 1) (pa_cons (pv 2) pa_nil)))))) pss_nil)
      (pss_one (ps_if (pt_not (pt_val (pe_call G_l_fits hr_l_fits (by rfl) T.g_l_fits T.F_l_fits.kp T.b_l_fits .nil pass0 (pa_cons (pv 4) (pa_cons (pe_callB (k_len K) (by rfl) T.z_len (by decide +kernel) (pa_cons (pv 0) pa_nil)) pa_nil))))) (pss_one (ps_ret (pe_tup (pa_cons pe_str (pa_cons (pv 1) (pa_cons (pv 2) pa_nil)))))) pss_nil))))))))
      (pss_one (ps_ret pe_non)))), ?_⟩
  exact run_P (N := ["system", "state", "number", "cost", "ends"]) (f := body_l_due) (fun _ => (st_seq (st_if (s_or (s_tst (s_op o_ib (s_cb c_len (s_cons s_var s_nil)) s_int)) (s_tst (s_op o_ib (s_cb c_len (s_cons s_var s_nil)) s_int))) (st_ret (s_tup (s_cons s_str s_nil))) st_next)
      (st_seq (st_then (by decide) (st_for (i_range1 (s_cons (s_cb c_len (s_cons s_var s_nil)) s_nil)) (g_name (by decide)) (st_then (by decide) (st_seq (st_if (s_or (s_tst (s_op o_ib (s_cb c_len (s_cons (s_op o_ixT s_var s_var) s_nil)) s_int)) (s_tst (s_op o_ib (s_cb c_len (s_cons (s_op o_ixT s_var s_var) s_nil)) s_int))) (st_ret (s_tup (s_cons s_str (s_cons s_var s_nil)))) st_next)
      (st_pre (by decide) (st_then (by decide) (st_for (i_range1 (s_cons (s_cb c_len (s_cons (s_op o_ixT s_var s_var) s_nil)) s_nil)) (g_name (by decide)) (st_then (by decide) (st_seq (st_asg (s_op o_ixT (s_op o_ixT s_var s_var) s_var) (g_tup (g_cons (g_name (by decide)) (g_cons (g_name (by decide)) g_nil))))
      (st_seq (st_if (s_or (s_tst (s_op o_ib s_var s_int)) (s_tst (s_op o_ib s_var s_int))) (st_ret (s_tup (s_cons s_str (s_cons s_var (s_cons s_var s_nil))))) st_next)
      (st_if (s_not (s_tB (s_callP (s_cons s_var (s_cons (s_cb c_len (s_cons s_var s_nil)) s_nil))))) (st_ret (s_tup (s_cons s_str (s_cons s_var (s_cons s_var s_nil))))) st_next)))))))))))
      (st_ret s_non)))) h
theorem ok_l_number {P : Program} {w : World} {K : PySem.W.Frag} {mg : Str → Option Value} {base : Heap} (T : Env K mg) : FnOk P w K mg base CX0 1 T.a_l_number T.d_l_number ["text"] (spP K 1 den_l_number) := by
  refine T.F_l_number.ok sc_l_number (fun vs H Q E h => len_P h) (fun cdv A outer s H vs Q E hr h => ?_)
  refine ⟨_, (pss_cons (ps_if (PW.pt (pw_or (pt_cmpR op_lt (pe_callB call_len_str (by rfl) T.z_len (by decide +kernel) (pa_cons (pv 0) pa_nil)) pe_int (nomark _)) (pw_or (pt_cmpR op_gt (pe_callB call_len_str (by rfl) T.z_len (by decide +kernel) (pa_cons (pv 0) pa_nil)) pe_int (nomark _)) (pw_or1 (PW.pt (pw_and (pt_cmpR op_gt (pe_callB call_len_str (by rfl) T.z_len (by decide +kernel) (pa_cons (pv 0) pa_nil)) pe_int (nomark _)) (pw_and1 (pt_cmpR op_eq (pe_ix ix_str (pv 0) pe_int (fun _ _ => rfl)) pe_str (nomark _))))))))) (pss_one (ps_ret pe_non)) pss_nil)
      (pss_cons (ps_for PassesOwn.never rfl (pi_str (pv 0)) (pg_name (i := 1) sc_l_number.nd rfl (Or.inl rfl)) (pss_one (ps_if (pt_cmpR op_notIn_sign (pv 1) pe_str rfl) (pss_one (ps_ret pe_non)) pss_nil)))
      (pss_one (ps_ret (pe_callTy call_int_str (by rfl) T.z_int (by decide +kernel) (pa_cons (pv 0) pa_nil)))))), ?_⟩
  exact run_P (N := ["text", "sign"]) (f := body_l_number) (fun _ => (st_seq (st_if (s_or (s_tst (s_op o_ib (s_cb c_lenS (s_cons s_var s_nil)) s_int)) (s_or (s_tst (s_op o_ib (s_cb c_lenS (s_cons s_var s_nil)) s_int)) (s_and (s_tst (s_op o_ib (s_cb c_lenS (s_cons s_var s_nil)) s_int)) (s_tst (s_op o_eq (s_op o_ixS s_var s_int) s_str))))) (st_ret s_non) st_next)
      (st_seq (st_then (by decide) (st_for (i_str s_var) (g_name (by decide)) (st_then (by decide) (st_if (s_tst (s_op o_notInS s_var s_str)) (st_ret s_non) st_next))))
      (st_ret (s_cb c_intS (s_cons s_var s_nil)))))) h
theorem ok_l_line {P : Program} {w : World} {K : PySem.W.Frag} {mg : Str → Option Value} {base : Heap} (T : Env K mg) : FnOk P w K mg base CX0 2 T.a_l_line T.d_l_line ["line"] (spP K 1 den_l_line) := by
  refine T.F_l_line.ok sc_l_line (fun vs H Q E h => len_P h) (fun cdv A outer s H vs Q E hr h => ?_)
  have G_l_number := ok_l_number (P := P) (w := w) (base := base) T
  have hr_l_number : Room 1 _ := hr.mono (by decide)
  refine ⟨_, (pss_cons (ps_set (i := 1) sc_l_line.nd rfl (Or.inl rfl) (pe_m1 PySem.F.slot_str_split PySem.F.type_str_split mt_split (pv 0) pe_str))
      (pss_cons (ps_set (i := 2) sc_l_line.nd rfl (Or.inl rfl) (pe_call G_l_number hr_l_number (by rfl) T.g_l_number T.F_l_number.kp T.b_l_number .nil pass0 (pa_cons (pe_ix (ixL K) (pv 1) pe_int (fun _ _ => rfl)) pa_nil)))
      (pss_cons (ps_if (pt_cmpR op_isN (pv 2) pe_non (nomark _)) (pss_one (ps_ret pe_non)) pss_nil)
      (pss_cons (ps_set (i := 3) sc_l_line.nd rfl (Or.inl rfl) (pe_lst pa_nil))
      (pss_cons (ps_for PassesOwn.never rfl (k_iList K (by rfl) (pe_slice (k_slL K) (pv 1) (po_some pe_int) po_none)) (pg_name (i := 4) sc_l_line.nd rfl (Or.inl rfl)) (pss_cons (ps_set (i := 5) sc_l_line.nd rfl (Or.inl rfl) (pe_m1 PySem.F.slot_str_split PySem.F.type_str_split mt_split (pv 4) pe_str))
      (pss_cons (ps_if (PW.pt (pw_or (pt_cmpR op_ne (pe_callB (k_len K) (by rfl) T.z_len (by decide +kernel) (pa_cons (pv 5) pa_nil)) pe_int (nomark _)) (pw_or (pt_cmpR op_isN (pe_call G_l_number hr_l_number (by rfl) T.g_l_number T.F_l_number.kp T.b_l_number .nil pass0 (pa_cons (pe_ix (ixL K) (pv 5) pe_int (fun _ _ => rfl)) pa_nil)) pe_non (nomark _)) (pw_or1 (pt_cmpR op_isN (pe_call G_l_number hr_l_number (by rfl) T.g_l_number T.F_l_number.kp T.b_l_number .nil pass0 (pa_cons (pe_ix (ixL K) (pv 5) pe_int (fun _ _ => rfl)) pa_nil)) pe_non (nomark _)))))) (pss_one (ps_ret pe_non)) pss_nil)
      (pss_one (ps_expr (pe_bm PySem.F.plainAttrs_list PySem.F.slot_list_append PySem.F.type_list_append mt_append (pv 3) (pa_cons (pe_tup (pa_cons (pe_callTy call_int_str (by rfl) T.z_int (by decide +kernel) (pa_cons (pe_ix (ixL K) (pv 5) pe_int (fun _ _ => rfl)) pa_nil)) (pa_cons (pe_callTy call_int_str (by rfl) T.z_int (by decide +kernel) (pa_cons (pe_ix (ixL K) (pv 5) pe_int (fun _ _ => rfl)) pa_nil)) pa_nil))) pa_nil)))))))
      (pss_one (ps_ret (pe_tup (pa_cons (pv 2) (pa_cons (pe_callTy (k_tuple K) (by rfl) T.z_tuple (by decide +kernel) (pa_cons (pv 3) pa_nil)) pa_nil)))))))))), ?_⟩
  exact run_P (N := ["line", "words", "cost", "ends", "word", "parts"]) (f := body_l_line) (fun _ => (st_seq (st_asg (s_m1 m_split s_var s_str) (g_name (by decide)))
      (st_seq (st_asg (s_callP (s_cons (s_op o_ixL s_var s_int) s_nil)) (g_name (by decide)))
      (st_seq (st_if (s_tst (s_op o_isN s_var s_non)) (st_ret s_non) st_next)
      (st_seq (st_own (by decide) (f_lst s_nil))
      (st_seq (st_then (by decide) (st_for (i_list (s_sl l_slL s_var (s_part s_int) s_noPart)) (g_name (by decide)) (st_then (by decide) (st_seq (st_asg (s_m1 m_split s_var s_str) (g_name (by decide)))
      (st_seq (st_if (s_or (s_tst (s_op o_ne (s_cb c_len (s_cons s_var s_nil)) s_int)) (s_or (s_tst (s_op o_isN (s_callP (s_cons (s_op o_ixL s_var s_int) s_nil)) s_non)) (s_tst (s_op o_isN (s_callP (s_cons (s_op o_ixL s_var s_int) s_nil)) s_non)))) (st_ret s_non) st_next)
      (st_drop (s_app (s_tup (s_cons (s_cb c_intS (s_cons (s_op o_ixL s_var s_int) s_nil)) (s_cons (s_cb c_intS (s_cons (s_op o_ixL s_var s_int) s_nil)) s_nil))))))))))
      (st_ret (s_tup (s_cons s_var (s_cons s_tupleO s_nil)))))))))) h
theorem ok_l_read {P : Program} {w : World} {K : PySem.W.Frag} {mg : Str → Option Value} {base : Heap} (T : Env K mg) : FnOk P w K mg base CX0 3 T.a_l_read T.d_l_read ["text"] (spP K 1 den_l_read) := by
  refine T.F_l_read.ok sc_l_read (fun vs H Q E h => len_P h) (fun cdv A outer s H vs Q E hr h => ?_)
  have G_l_due := ok_l_due (P := P) (w := w) (base := base) T
  have hr_l_due : Room 2 _ := hr.mono (by decide)
  have G_l_line := ok_l_line (P := P) (w := w) (base := base) T
  have hr_l_line : Room 2 _ := hr.mono (by decide)
  refine ⟨_, (pss_cons (ps_set (i := 1) sc_l_read.nd rfl (Or.inl rfl) (pe_m1 PySem.F.slot_str_split PySem.F.type_str_split mt_split (pv 0) pe_str))
      (pss_cons (ps_set (i := 2) sc_l_read.nd rfl (Or.inl rfl) (pe_lst pa_nil))
      (pss_cons (ps_for PassesOwn.never rfl (pi_range1 (by rfl) T.z_range (pa_cons (pe_callB (k_len K) (by rfl) T.z_len (by decide +kernel) (pa_cons (pv 1) pa_nil)) pa_nil)) (pg_name (i := 3) sc_l_read.nd rfl (Or.inl rfl)) (pss_one (ps_if (pt_cmpR op_eq (pe_ix (ixL K) (pv 1) (pv 3) (fun _ _ => rfl)) pe_str (nomark _)) (pss_one (ps_expr (pe_bm PySem.F.plainAttrs_list PySem.F.slot_list_append PySem.F.type_list_append mt_append (pv 2) (pa_cons (pe_tup pa_nil) pa_nil)))) (pss_cons (ps_set (i := 5) sc_l_read.nd rfl (Or.inl rfl) (pe_call G_l_line hr_l_line (by rfl) T.g_l_line T.F_l_line.kp T.b_l_line .nil pass0 (pa_cons (pe_ix (ixL K) (pv 1) (pv 3) (fun _ _ => rfl)) pa_nil)))
      (pss_cons (ps_if (PW.pt (pw_or (pt_cmpR op_eq (pe_callB (k_len K) (by rfl) T.z_len (by decide +kernel) (pa_cons (pv 2) pa_nil)) pe_int (nomark _)) (pw_or1 (pt_cmpR op_isN (pv 5) pe_non (nomark _))))) (pss_one (ps_ret (pe_tup (pa_cons pe_str (pa_cons (pv 3) pa_nil))))) pss_nil)
      (pss_one (ps_asg (pe_op (k_catA K) (pe_ix (ixL K) (pv 2) (pe_un un_neg pe_int) (fun _ _ => rfl)) (pe_tup (pa_cons (pv 5) pa_nil))) (pg_sub (pv 2) (pe_un un_neg pe_int) set_list))))))))
      (pss_cons (ps_set (i := 4) sc_l_read.nd rfl (Or.inl rfl) (pe_call G_l_due hr_l_due (by rfl) T.g_l_due T.F_l_due.kp T.b_l_due .nil pass0 (pa_cons (pe_callTy (k_tuple K) (by rfl) T.z_tuple (by decide +kernel) (pa_cons (pv 2) pa_nil)) pa_nil)))
      (pss_cons (ps_if (pt_cmpR op_notN (pv 4) pe_non (nomark _)) (pss_one (ps_ret (pe_tup (pa_cons pe_str (pa_cons (pv 4) pa_nil))))) pss_nil)
      (pss_one (ps_ret (pe_tup (pa_cons pe_str (pa_cons (pe_callTy (k_tuple K) (by rfl) T.z_tuple (by decide +kernel) (pa_cons (pv 2) pa_nil)) pa_nil)))))))))), ?_⟩
  exact run_P (N := ["text", "lines", "system", "k", "due", "found"]) (f := body_l_read) (fun _ => (st_seq (st_asg (s_m1 m_split s_var s_str) (g_name (by decide)))
      (st_seq (st_own (by decide) (f_lst s_nil))
      (st_seq (st_then (by decide) (st_for (i_range1 (s_cons (s_cb c_len (s_cons s_var s_nil)) s_nil)) (g_name (by decide)) (st_then (by decide) (st_then (by decide) (st_if (s_tst (s_op o_eq (s_op o_ixL s_var s_var) s_str)) (st_drop (s_app (s_tup s_nil))) (st_seq (st_asg (s_callP (s_cons (s_op o_ixL s_var s_var) s_nil)) (g_name (by decide)))
      (st_seq (st_if (s_or (s_tst (s_op o_eq s_lenO s_int)) (s_tst (s_op o_isN s_var s_non))) (st_ret (s_tup (s_cons s_str (s_cons s_var s_nil)))) st_next)
      (st_setI (s_neg s_int) (s_op o_catT (s_ixO (s_neg s_int)) (s_tup (s_cons s_var s_nil)))))))))))
      (st_seq (st_asg (s_callP (s_cons s_tupleO s_nil)) (g_name (by decide)))
      (st_seq (st_if (s_tst (s_op o_notN s_var s_non)) (st_ret (s_tup (s_cons s_str (s_cons s_var s_nil)))) st_next)
      (st_ret (s_tup (s_cons s_str (s_cons s_tupleO s_nil)))))))))) h
theorem ok_law0 {P : Program} {w : World} {K : PySem.W.Frag} {mg : Str → Option Value} {base : Heap} (T : Env K mg) : FnOk P w K mg base CX0 9 T.a_law T.d_law ["script"] (spS K den_law) := by
  refine T.F_law.ok sc_law (fun vs H Q E h => len_S h) (fun cdv A outer s H vs Q E hr h => ?_)
  have G_l_text := ok_l_text (P := P) (w := w) (base := base) T
  have hr_l_text : Room 1 _ := hr.mono (by decide)
  have G_l_equal := ok_l_equal (P := P) (w := w) (base := base) T
  have hr_l_equal : Room 8 _ := hr.mono (by decide)
  have G_l_tape := ok_l_tape (P := P) (w := w) (base := base) T
  have hr_l_tape : Room 1 _ := hr.mono (by decide)
  have G_l_system := ok_l_system (P := P) (w := w) (base := base) T
  have hr_l_system : Room 5 _ := hr.mono (by decide)
  have G_l_told := ok_l_told (P := P) (w := w) (base := base) T
  have hr_l_told : Room 6 _ := hr.mono (by decide)
  have G_l_changed := ok_l_changed (P := P) (w := w) (base := base) T
  have hr_l_changed : Room 3 _ := hr.mono (by decide)
  have G_l_take := ok_l_take (P := P) (w := w) (base := base) T
  have hr_l_take : Room 2 _ := hr.mono (by decide)
  have G_l_read := ok_l_read (P := P) (w := w) (base := base) T
  have hr_l_read : Room 3 _ := hr.mono (by decide)
  refine ⟨_, (pss_cons (ps_set (i := 1) sc_law.nd rfl (Or.inl rfl) (pe_lst (pa_cons (pe_call G_l_tape hr_l_tape (by rfl) T.g_l_tape T.F_l_tape.kp T.b_l_tape .nil pass0 (pa_cons (pv 0) pa_nil)) (pa_cons pe_int pa_nil))))
      (pss_cons (ps_set (i := 2) sc_law.nd rfl (Or.inl rfl) (pe_call G_l_text hr_l_text (by rfl) T.g_l_text T.F_l_text.kp T.b_l_text .nil pass0 (pa_cons (pe_call G_l_system hr_l_system (by rfl) T.g_l_system T.F_l_system.kp T.b_l_system .nil pass0 (pa_cons (pv 1) (pa_cons pe_int pa_nil))) pa_nil)))
      (pss_cons (ps_for PassesOwn.never rfl (pi_range1 (by rfl) T.z_range (pa_cons pe_int pa_nil)) (pg_name (i := 3) sc_law.nd rfl (Or.inl rfl)) (pss_cons (ps_set (i := 4) sc_law.nd rfl (Or.inl rfl) (pv 2))
      (pss_cons (ps_for PassesOwn.never rfl (pi_range1 (by rfl) T.z_range (pa_cons (pe_op op_add pe_int (pe_call G_l_take hr_l_take (by rfl) T.g_l_take T.F_l_take.kp T.b_l_take .nil pass0 (pa_cons (pv 1) (pa_cons pe_int pa_nil)))) pa_nil)) (pg_name (i := 5) sc_law.nd rfl (Or.inl rfl)) (pss_one (ps_set (i := 4) sc_law.nd rfl (Or.inl rfl) (pe_call G_l_changed hr_l_changed (by rfl) T.g_l_changed T.F_l_changed.kp T.b_l_changed .nil pass0 (pa_cons (pv 1) (pa_cons (pv 4) pa_nil))))))
      (pss_one (ps_if (pt_not (pt_val (pe_call G_l_equal hr_l_equal (by rfl) T.g_l_equal T.F_l_equal.kp T.b_l_equal .nil pass0 (pa_cons (pe_call G_l_told hr_l_told (by rfl) T.g_l_told T.F_l_told.kp T.b_l_told .nil pass0 (pa_cons (pv 4) pa_nil)) (pa_cons (pe_call G_l_read hr_l_read (by rfl) T.g_l_read T.F_l_read.kp T.b_l_read .nil pass0 (pa_cons (pv 4) pa_nil)) pa_nil))))) (pss_one (ps_ret pe_bl)) pss_nil)))))
      (pss_one (ps_ret (pe_call G_l_equal hr_l_equal (by rfl) T.g_l_equal T.F_l_equal.kp T.b_l_equal .nil pass0 (pa_cons (pe_call G_l_told hr_l_told (by rfl) T.g_l_told T.F_l_told.kp T.b_l_told .nil pass0 (pa_cons pe_str pa_nil)) (pa_cons (pe_tup (pa_cons pe_str (pa_cons pe_int pa_nil))) pa_nil)))))))), ?_⟩
  exact run_S (N := ["state", "text", "turn", "other", "k"]) (f := body_law) (fun _ => (st_seq (st_own (by decide) (f_lst (s_cons s_callS (s_cons s_int s_nil))))
      (st_seq (st_asg (s_callP (s_cons (s_callB (s_cons s_int s_nil)) s_nil)) (g_name (by decide)))
      (st_seq (st_then (by decide) (st_for (i_range1 (s_cons s_int s_nil)) (g_name (by decide)) (st_then (by decide) (st_seq (st_asg s_var (g_name (by decide)))
      (st_seq (st_pre (by decide) (st_then (by decide) (st_for (i_range1 (s_cons (s_op o_i0 s_int (s_callB (s_cons s_int s_nil))) s_nil)) (g_name (by decide)) (st_then (by decide) (st_asg (s_callB (s_cons s_var s_nil)) (g_name (by decide)))))))
      (st_if (s_not (s_tB (s_callP (s_cons (s_callP (s_cons s_var s_nil)) (s_cons (s_callP (s_cons s_var s_nil)) s_nil))))) (st_ret s_bl) st_next))))))
      (st_ret (s_callP (s_cons (s_callP (s_cons s_str s_nil)) (s_cons (s_tup (s_cons s_str (s_cons s_int s_nil))) s_nil)))))))) h
def sp_law (K : PySem.W.Frag) : Sp := fun vs H Q _ => ∃ (a : Addr) (ns : List Int), vs = [.ref a] ∧ SqL K H a (ns.map V.int) ∧ ns.length ≤ 63 ∧ ∀ H', Q (.bl true) H'
theorem ok_law {P : Program} {w : World} {K : PySem.W.Frag} {mg : Str → Option Value} {base : Heap} (T : Env K mg) : FnOk P w K mg base CX0 9 T.a_law T.d_law ["script"] (sp_law K) :=
  (ok_law0 T).imp fun vs H Q E ⟨a, ns, e, s, hl, q⟩ => ⟨a, ns, H, e, s, Same.refl _, (law_worth hl).mono fun z hz v H' B' _ _ _ _ dv => by
    subst hz
    cases dv
    exact q H'⟩
theorem all_mk {l : PySem.W.OpenLaw} {w : World} {K : PySem.W.Frag} {h : Heap} {mg : Str → Option Value} {fa f0 f1 f2 f3 f4 f5 f6 f7 f8 f9 f10 f11 f12 f13 f14 f15 f16 f17 f18 f19 f20 f21 f22 : Addr} (X : K.In h) (G : h.Ns mainGlobals mg) (hfa : mg "law" = some (.ref fa))
    {od0 an0 : Option Addr} {sl0 : Array (Option Value)} {oc0 kV0 dc0 pm0 cd0 ct0 : Value}
    {od1 an1 : Option Addr} {sl1 : Array (Option Value)} {oc1 kV1 dc1 pm1 cd1 ct1 : Value}
    {od2 an2 : Option Addr} {sl2 : Array (Option Value)} {oc2 kV2 dc2 pm2 cd2 ct2 : Value}
    {od3 an3 : Option Addr} {sl3 : Array (Option Value)} {oc3 kV3 dc3 pm3 cd3 ct3 : Value}
    {od4 an4 : Option Addr} {sl4 : Array (Option Value)} {oc4 kV4 dc4 pm4 cd4 ct4 : Value}
    {od5 an5 : Option Addr} {sl5 : Array (Option Value)} {oc5 kV5 dc5 pm5 cd5 ct5 : Value}
    {od6 an6 : Option Addr} {sl6 : Array (Option Value)} {oc6 kV6 dc6 pm6 cd6 ct6 : Value}
    {od7 an7 : Option Addr} {sl7 : Array (Option Value)} {oc7 kV7 dc7 pm7 cd7 ct7 : Value}
    {od8 an8 : Option Addr} {sl8 : Array (Option Value)} {oc8 kV8 dc8 pm8 cd8 ct8 : Value}
    {od9 an9 : Option Addr} {sl9 : Array (Option Value)} {oc9 kV9 dc9 pm9 cd9 ct9 : Value}
    {od10 an10 : Option Addr} {sl10 : Array (Option Value)} {oc10 kV10 dc10 pm10 cd10 ct10 : Value}
    {od11 an11 : Option Addr} {sl11 : Array (Option Value)} {oc11 kV11 dc11 pm11 cd11 ct11 : Value}
    {od12 an12 : Option Addr} {sl12 : Array (Option Value)} {oc12 kV12 dc12 pm12 cd12 ct12 : Value}
    {od13 an13 : Option Addr} {sl13 : Array (Option Value)} {oc13 kV13 dc13 pm13 cd13 ct13 : Value}
    {od14 an14 : Option Addr} {sl14 : Array (Option Value)} {oc14 kV14 dc14 pm14 cd14 ct14 : Value}
    {od15 an15 : Option Addr} {sl15 : Array (Option Value)} {oc15 kV15 dc15 pm15 cd15 ct15 : Value}
    {od16 an16 : Option Addr} {sl16 : Array (Option Value)} {oc16 kV16 dc16 pm16 cd16 ct16 : Value}
    {od17 an17 : Option Addr} {sl17 : Array (Option Value)} {oc17 kV17 dc17 pm17 cd17 ct17 : Value}
    {od18 an18 : Option Addr} {sl18 : Array (Option Value)} {oc18 kV18 dc18 pm18 cd18 ct18 : Value}
    {od19 an19 : Option Addr} {sl19 : Array (Option Value)} {oc19 kV19 dc19 pm19 cd19 ct19 : Value}
    {od20 an20 : Option Addr} {sl20 : Array (Option Value)} {oc20 kV20 dc20 pm20 cd20 ct20 : Value}
    {od21 an21 : Option Addr} {sl21 : Array (Option Value)} {oc21 kV21 dc21 pm21 cd21 ct21 : Value}
    {od22 an22 : Option Addr} {sl22 : Array (Option Value)} {oc22 kV22 dc22 pm22 cd22 ct22 : Value}
    {c_BestoddsError : Addr} (ac_BestoddsError : PySem.W.nsIn K mainGlobals "BestoddsError" = some (some (.ref c_BestoddsError)))
    {c_InvalidLine : Addr} (ac_InvalidLine : PySem.W.nsIn K mainGlobals "InvalidLine" = some (some (.ref c_InvalidLine)))
    {c_InvalidSystem : Addr} (ac_InvalidSystem : PySem.W.nsIn K mainGlobals "InvalidSystem" = some (some (.ref c_InvalidSystem)))
    (e_BestoddsError : PySem.W.excIn K c_BestoddsError [.type "ValueError", .type "Exception", .type "BaseException", .type "object"] "ValueError.__new__" = true) (k_BestoddsError : PySem.W.keepIn K (.ref c_BestoddsError) = true)
    {nmInvalidLine qInvalidLine : Str} {NInvalidLine : Addr} {bsInvalidLine : List Value} {snInvalidLine : List Str} {subInvalidLine : List Value} {abInvalidLine : Bool} {colInvalidLine : Option Bool} {ddInvalidLine : Option Addr} {u0InvalidLine u1InvalidLine u2InvalidLine u3InvalidLine u5InvalidLine : Option Value} {f_InvalidLine : Addr} {odInvalidLine anInvalidLine : Option Addr} {slInvalidLine : Array (Option Value)} {ocInvalidLine kVInvalidLine dcInvalidLine pmInvalidLine cdInvalidLine ctInvalidLine : Value}
    (xl_InvalidLine : K.lookup c_InvalidLine = some (excClassObj nmInvalidLine qInvalidLine c_InvalidLine NInvalidLine bsInvalidLine [.ref c_BestoddsError, .type "ValueError", .type "Exception", .type "BaseException", .type "object"] true snInvalidLine subInvalidLine abInvalidLine colInvalidLine ddInvalidLine u0InvalidLine u1InvalidLine u2InvalidLine u3InvalidLine u5InvalidLine "ValueError.__new__"))
    (sa_InvalidLine : PySem.W.findIn K (.ref c_InvalidLine) "__setattr__" = some (some (.builtin "object.__setattr__"))) (ex_InvalidLine : PySem.W.subIn K (.ref c_InvalidLine) (.type "BaseException") = some true) (ty_InvalidLine : PySem.W.typeIn K (.ref c_InvalidLine) = some (.type "type")) (kc_InvalidLine : PySem.W.keepIn K (.ref c_InvalidLine) = true)
    (ai_InvalidLine : PySem.W.findIn K (.ref c_InvalidLine) "__init__" = some (some (.ref f_InvalidLine))) (ti_InvalidLine : PySem.W.typeIn K (.ref f_InvalidLine) = some (.type "function"))
    (li_InvalidLine : K.lookup f_InvalidLine = some ⟨ocInvalidLine, odInvalidLine, .func (PySem.W.fnOf "__init__" "InvalidLine.__init__" (defArgs s_InvalidLine) (defBody s_InvalidLine) (defScope s_InvalidLine) .none kVInvalidLine dcInvalidLine pmInvalidLine anInvalidLine cdInvalidLine ctInvalidLine), slInvalidLine⟩) (ci_InvalidLine : PySem.W.codeIn K cdInvalidLine "InvalidLine.__init__" = true) (ki_InvalidLine : PySem.W.keepIn K (.ref f_InvalidLine) = true) (fr_InvalidLine : PySem.W.findIn K (.ref c_InvalidLine) "number" = some none)
    {nmInvalidSystem qInvalidSystem : Str} {NInvalidSystem : Addr} {bsInvalidSystem : List Value} {snInvalidSystem : List Str} {subInvalidSystem : List Value} {abInvalidSystem : Bool} {colInvalidSystem : Option Bool} {ddInvalidSystem : Option Addr} {u0InvalidSystem u1InvalidSystem u2InvalidSystem u3InvalidSystem u5InvalidSystem : Option Value} {f_InvalidSystem : Addr} {odInvalidSystem anInvalidSystem : Option Addr} {slInvalidSystem : Array (Option Value)} {ocInvalidSystem kVInvalidSystem dcInvalidSystem pmInvalidSystem cdInvalidSystem ctInvalidSystem : Value}
    (xl_InvalidSystem : K.lookup c_InvalidSystem = some (excClassObj nmInvalidSystem qInvalidSystem c_InvalidSystem NInvalidSystem bsInvalidSystem [.ref c_BestoddsError, .type "ValueError", .type "Exception", .type "BaseException", .type "object"] true snInvalidSystem subInvalidSystem abInvalidSystem colInvalidSystem ddInvalidSystem u0InvalidSystem u1InvalidSystem u2InvalidSystem u3InvalidSystem u5InvalidSystem "ValueError.__new__"))
    (sa_InvalidSystem : PySem.W.findIn K (.ref c_InvalidSystem) "__setattr__" = some (some (.builtin "object.__setattr__"))) (ex_InvalidSystem : PySem.W.subIn K (.ref c_InvalidSystem) (.type "BaseException") = some true) (ty_InvalidSystem : PySem.W.typeIn K (.ref c_InvalidSystem) = some (.type "type")) (kc_InvalidSystem : PySem.W.keepIn K (.ref c_InvalidSystem) = true)
    (ai_InvalidSystem : PySem.W.findIn K (.ref c_InvalidSystem) "__init__" = some (some (.ref f_InvalidSystem))) (ti_InvalidSystem : PySem.W.typeIn K (.ref f_InvalidSystem) = some (.type "function"))
    (li_InvalidSystem : K.lookup f_InvalidSystem = some ⟨ocInvalidSystem, odInvalidSystem, .func (PySem.W.fnOf "__init__" "InvalidSystem.__init__" (defArgs s_InvalidSystem) (defBody s_InvalidSystem) (defScope s_InvalidSystem) .none kVInvalidSystem dcInvalidSystem pmInvalidSystem anInvalidSystem cdInvalidSystem ctInvalidSystem), slInvalidSystem⟩) (ci_InvalidSystem : PySem.W.codeIn K cdInvalidSystem "InvalidSystem.__init__" = true) (ki_InvalidSystem : PySem.W.keepIn K (.ref f_InvalidSystem) = true) (fr_InvalidSystem : PySem.W.findIn K (.ref c_InvalidSystem) "fault" = some none)
    (a0 : PySem.W.nsIn K mainGlobals "_law_text" = some (some (.ref f0))) (l0 : K.lookup f0 = some ⟨oc0, od0, .func (PySem.W.fnOf "_law_text" "_law_text" (defArgs s_l_text) (defBody s_l_text) (defScope s_l_text) .none kV0 dc0 pm0 an0 cd0 ct0), sl0⟩) (c0 : PySem.W.codeIn K cd0 "_law_text" = true) (k0 : PySem.W.keepIn K (.ref f0) = true)
    (a1 : PySem.W.nsIn K mainGlobals "_law_equal" = some (some (.ref f1))) (l1 : K.lookup f1 = some ⟨oc1, od1, .func (PySem.W.fnOf "_law_equal" "_law_equal" (defArgs s_l_equal) (defBody s_l_equal) (defScope s_l_equal) .none kV1 dc1 pm1 an1 cd1 ct1), sl1⟩) (c1 : PySem.W.codeIn K cd1 "_law_equal" = true) (k1 : PySem.W.keepIn K (.ref f1) = true)
    (a2 : PySem.W.nsIn K mainGlobals "_law_tape" = some (some (.ref f2))) (l2 : K.lookup f2 = some ⟨oc2, od2, .func (PySem.W.fnOf "_law_tape" "_law_tape" (defArgs s_l_tape) (defBody s_l_tape) (defScope s_l_tape) .none kV2 dc2 pm2 an2 cd2 ct2), sl2⟩) (c2 : PySem.W.codeIn K cd2 "_law_tape" = true) (k2 : PySem.W.keepIn K (.ref f2) = true)
    (a3 : PySem.W.nsIn K mainGlobals "_law_draw" = some (some (.ref f3))) (l3 : K.lookup f3 = some ⟨oc3, od3, .func (PySem.W.fnOf "_law_draw" "_law_draw" (defArgs s_l_draw) (defBody s_l_draw) (defScope s_l_draw) .none kV3 dc3 pm3 an3 cd3 ct3), sl3⟩) (c3 : PySem.W.codeIn K cd3 "_law_draw" = true) (k3 : PySem.W.keepIn K (.ref f3) = true)
    (a4 : PySem.W.nsIn K mainGlobals "_law_take" = some (some (.ref f4))) (l4 : K.lookup f4 = some ⟨oc4, od4, .func (PySem.W.fnOf "_law_take" "_law_take" (defArgs s_l_take) (defBody s_l_take) (defScope s_l_take) .none kV4 dc4 pm4 an4 cd4 ct4), sl4⟩) (c4 : PySem.W.codeIn K cd4 "_law_take" = true) (k4 : PySem.W.keepIn K (.ref f4) = true)
    (a5 : PySem.W.nsIn K mainGlobals "_law_ends" = some (some (.ref f5))) (l5 : K.lookup f5 = some ⟨oc5, od5, .func (PySem.W.fnOf "_law_ends" "_law_ends" (defArgs s_l_ends) (defBody s_l_ends) (defScope s_l_ends) .none kV5 dc5 pm5 an5 cd5 ct5), sl5⟩) (c5 : PySem.W.codeIn K cd5 "_law_ends" = true) (k5 : PySem.W.keepIn K (.ref f5) = true)
    (a6 : PySem.W.nsIn K mainGlobals "_law_choices" = some (some (.ref f6))) (l6 : K.lookup f6 = some ⟨oc6, od6, .func (PySem.W.fnOf "_law_choices" "_law_choices" (defArgs s_l_choices) (defBody s_l_choices) (defScope s_l_choices) .none kV6 dc6 pm6 an6 cd6 ct6), sl6⟩) (c6 : PySem.W.codeIn K cd6 "_law_choices" = true) (k6 : PySem.W.keepIn K (.ref f6) = true)
    (a7 : PySem.W.nsIn K mainGlobals "_law_system" = some (some (.ref f7))) (l7 : K.lookup f7 = some ⟨oc7, od7, .func (PySem.W.fnOf "_law_system" "_law_system" (defArgs s_l_system) (defBody s_l_system) (defScope s_l_system) .none kV7 dc7 pm7 an7 cd7 ct7), sl7⟩) (c7 : PySem.W.codeIn K cd7 "_law_system" = true) (k7 : PySem.W.keepIn K (.ref f7) = true)
    (a8 : PySem.W.nsIn K mainGlobals "are_ends" = some (some (.ref f8))) (l8 : K.lookup f8 = some ⟨oc8, od8, .func (PySem.W.fnOf "are_ends" "are_ends" (defArgs s_are_ends) (defBody s_are_ends) (defScope s_are_ends) .none kV8 dc8 pm8 an8 cd8 ct8), sl8⟩) (c8 : PySem.W.codeIn K cd8 "are_ends" = true) (k8 : PySem.W.keepIn K (.ref f8) = true)
    (a9 : PySem.W.nsIn K mainGlobals "fault_in_state" = some (some (.ref f9))) (l9 : K.lookup f9 = some ⟨oc9, od9, .func (PySem.W.fnOf "fault_in_state" "fault_in_state" (defArgs s_fault_in_state) (defBody s_fault_in_state) (defScope s_fault_in_state) .none kV9 dc9 pm9 an9 cd9 ct9), sl9⟩) (c9 : PySem.W.codeIn K cd9 "fault_in_state" = true) (k9 : PySem.W.keepIn K (.ref f9) = true)
    (a10 : PySem.W.nsIn K mainGlobals "fault" = some (some (.ref f10))) (l10 : K.lookup f10 = some ⟨oc10, od10, .func (PySem.W.fnOf "fault" "fault" (defArgs s_fault) (defBody s_fault) (defScope s_fault) .none kV10 dc10 pm10 an10 cd10 ct10), sl10⟩) (c10 : PySem.W.codeIn K cd10 "fault" = true) (k10 : PySem.W.keepIn K (.ref f10) = true)
    (a11 : PySem.W.nsIn K mainGlobals "is_number" = some (some (.ref f11))) (l11 : K.lookup f11 = some ⟨oc11, od11, .func (PySem.W.fnOf "is_number" "is_number" (defArgs s_is_number) (defBody s_is_number) (defScope s_is_number) .none kV11 dc11 pm11 an11 cd11 ct11), sl11⟩) (c11 : PySem.W.codeIn K cd11 "is_number" = true) (k11 : PySem.W.keepIn K (.ref f11) = true)
    (a12 : PySem.W.nsIn K mainGlobals "parse_integer" = some (some (.ref f12))) (l12 : K.lookup f12 = some ⟨oc12, od12, .func (PySem.W.fnOf "parse_integer" "parse_integer" (defArgs s_parse_integer) (defBody s_parse_integer) (defScope s_parse_integer) .none kV12 dc12 pm12 an12 cd12 ct12), sl12⟩) (c12 : PySem.W.codeIn K cd12 "parse_integer" = true) (k12 : PySem.W.keepIn K (.ref f12) = true)
    (a13 : PySem.W.nsIn K mainGlobals "parse_choice" = some (some (.ref f13))) (l13 : K.lookup f13 = some ⟨oc13, od13, .func (PySem.W.fnOf "parse_choice" "parse_choice" (defArgs s_parse_choice) (defBody s_parse_choice) (defScope s_parse_choice) .none kV13 dc13 pm13 an13 cd13 ct13), sl13⟩) (c13 : PySem.W.codeIn K cd13 "parse_choice" = true) (k13 : PySem.W.keepIn K (.ref f13) = true)
    (a14 : PySem.W.nsIn K mainGlobals "parse_system" = some (some (.ref f14))) (l14 : K.lookup f14 = some ⟨oc14, od14, .func (PySem.W.fnOf "parse_system" "parse_system" (defArgs s_parse_system) (defBody s_parse_system) (defScope s_parse_system) .none kV14 dc14 pm14 an14 cd14 ct14), sl14⟩) (c14 : PySem.W.codeIn K cd14 "parse_system" = true) (k14 : PySem.W.keepIn K (.ref f14) = true)
    (a15 : PySem.W.nsIn K mainGlobals "_law_told" = some (some (.ref f15))) (l15 : K.lookup f15 = some ⟨oc15, od15, .func (PySem.W.fnOf "_law_told" "_law_told" (defArgs s_l_told) (defBody s_l_told) (defScope s_l_told) .none kV15 dc15 pm15 an15 cd15 ct15), sl15⟩) (c15 : PySem.W.codeIn K cd15 "_law_told" = true) (k15 : PySem.W.keepIn K (.ref f15) = true)
    (a16 : PySem.W.nsIn K mainGlobals "_law_changed" = some (some (.ref f16))) (l16 : K.lookup f16 = some ⟨oc16, od16, .func (PySem.W.fnOf "_law_changed" "_law_changed" (defArgs s_l_changed) (defBody s_l_changed) (defScope s_l_changed) .none kV16 dc16 pm16 an16 cd16 ct16), sl16⟩) (c16 : PySem.W.codeIn K cd16 "_law_changed" = true) (k16 : PySem.W.keepIn K (.ref f16) = true)
    (a17 : PySem.W.nsIn K mainGlobals "_law_fits" = some (some (.ref f17))) (l17 : K.lookup f17 = some ⟨oc17, od17, .func (PySem.W.fnOf "_law_fits" "_law_fits" (defArgs s_l_fits) (defBody s_l_fits) (defScope s_l_fits) .none kV17 dc17 pm17 an17 cd17 ct17), sl17⟩) (c17 : PySem.W.codeIn K cd17 "_law_fits" = true) (k17 : PySem.W.keepIn K (.ref f17) = true)
    (a18 : PySem.W.nsIn K mainGlobals "_law_due" = some (some (.ref f18))) (l18 : K.lookup f18 = some ⟨oc18, od18, .func (PySem.W.fnOf "_law_due" "_law_due" (defArgs s_l_due) (defBody s_l_due) (defScope s_l_due) .none kV18 dc18 pm18 an18 cd18 ct18), sl18⟩) (c18 : PySem.W.codeIn K cd18 "_law_due" = true) (k18 : PySem.W.keepIn K (.ref f18) = true)
    (a19 : PySem.W.nsIn K mainGlobals "_law_number" = some (some (.ref f19))) (l19 : K.lookup f19 = some ⟨oc19, od19, .func (PySem.W.fnOf "_law_number" "_law_number" (defArgs s_l_number) (defBody s_l_number) (defScope s_l_number) .none kV19 dc19 pm19 an19 cd19 ct19), sl19⟩) (c19 : PySem.W.codeIn K cd19 "_law_number" = true) (k19 : PySem.W.keepIn K (.ref f19) = true)
    (a20 : PySem.W.nsIn K mainGlobals "_law_line" = some (some (.ref f20))) (l20 : K.lookup f20 = some ⟨oc20, od20, .func (PySem.W.fnOf "_law_line" "_law_line" (defArgs s_l_line) (defBody s_l_line) (defScope s_l_line) .none kV20 dc20 pm20 an20 cd20 ct20), sl20⟩) (c20 : PySem.W.codeIn K cd20 "_law_line" = true) (k20 : PySem.W.keepIn K (.ref f20) = true)
    (a21 : PySem.W.nsIn K mainGlobals "_law_read" = some (some (.ref f21))) (l21 : K.lookup f21 = some ⟨oc21, od21, .func (PySem.W.fnOf "_law_read" "_law_read" (defArgs s_l_read) (defBody s_l_read) (defScope s_l_read) .none kV21 dc21 pm21 an21 cd21 ct21), sl21⟩) (c21 : PySem.W.codeIn K cd21 "_law_read" = true) (k21 : PySem.W.keepIn K (.ref f21) = true)
    (a22 : PySem.W.nsIn K mainGlobals "law" = some (some (.ref f22))) (l22 : K.lookup f22 = some ⟨oc22, od22, .func (PySem.W.fnOf "law" "law" (defArgs s_law) (defBody s_law) (defScope s_law) .none kV22 dc22 pm22 an22 cd22 ct22), sl22⟩) (c22 : PySem.W.codeIn K cd22 "law" = true) (k22 : PySem.W.keepIn K (.ref f22) = true)
    (z_ValueError : PySem.W.nsIn K mainGlobals "ValueError" = some none)
    (z_bool : PySem.W.nsIn K mainGlobals "bool" = some none)
    (z_enumerate : PySem.W.nsIn K mainGlobals "enumerate" = some none)
    (z_int : PySem.W.nsIn K mainGlobals "int" = some none)
    (z_isinstance : PySem.W.nsIn K mainGlobals "isinstance" = some none)
    (z_len : PySem.W.nsIn K mainGlobals "len" = some none)
    (z_list : PySem.W.nsIn K mainGlobals "list" = some none)
    (z_range : PySem.W.nsIn K mainGlobals "range" = some none)
    (z_str : PySem.W.nsIn K mainGlobals "str" = some none)
    (z_tuple : PySem.W.nsIn K mainGlobals "tuple" = some none)
    {t_MOST_CHOICES : Tok} (z_MOST_CHOICES : PySem.W.nsIn K mainGlobals "MOST_CHOICES" = some (some (.int 6 t_MOST_CHOICES)))
    {t_MOST_COST : Tok} (z_MOST_COST : PySem.W.nsIn K mainGlobals "MOST_COST" = some (some (.int 1000 t_MOST_COST)))
    {t_MOST_ENDS : Tok} (z_MOST_ENDS : PySem.W.nsIn K mainGlobals "MOST_ENDS" = some (some (.int 6 t_MOST_ENDS)))
    {t_MOST_PLACES : Tok} (z_MOST_PLACES : PySem.W.nsIn K mainGlobals "MOST_PLACES" = some (some (.int 4 t_MOST_PLACES)))
    {t_MOST_STATES : Tok} (z_MOST_STATES : PySem.W.nsIn K mainGlobals "MOST_STATES" = some (some (.int 20 t_MOST_STATES)))
    {t_MOST_WEIGHT : Tok} (z_MOST_WEIGHT : PySem.W.nsIn K mainGlobals "MOST_WEIGHT" = some (some (.int 1000 t_MOST_WEIGHT)))
    (m_BestoddsError : PySem.W.subIn K (.ref c_BestoddsError) (.type "BaseException") = some true) (y_BestoddsError : PySem.W.typeIn K (.ref c_BestoddsError) = some (.type "type"))
    (h_InvalidLine_InvalidLine : PySem.W.exmOne K (.ref c_InvalidLine) (.ref c_InvalidLine) = some true)
    (h_InvalidSystem_InvalidLine : PySem.W.exmOne K (.ref c_InvalidSystem) (.ref c_InvalidLine) = some false)
    (h_InvalidSystem_InvalidSystem : PySem.W.exmOne K (.ref c_InvalidSystem) (.ref c_InvalidSystem) = some true)
    (j_InvalidLine_BestoddsError : PySem.W.kitOne K (.ref c_InvalidLine) (.ref c_BestoddsError) = some true)
    (j_InvalidLine_ValueError : PySem.W.kitOne K (.ref c_InvalidLine) (.type "ValueError") = some true)
    (j_InvalidSystem_BestoddsError : PySem.W.kitOne K (.ref c_InvalidSystem) (.ref c_BestoddsError) = some true)
    (j_InvalidSystem_ValueError : PySem.W.kitOne K (.ref c_InvalidSystem) (.type "ValueError") = some true)
    (xc_InvalidLine : xcB K c_InvalidLine = true)
    (xc_InvalidSystem : xcB K c_InvalidSystem = true)
    : ∃ fd : FuncData, (∀ (s : Shared) (v : Value), BindsTo s fd ⟨[v], []⟩ [("script", v)]) ∧ ∀ base : Heap, K.In base → base.Ns mainGlobals mg → FnOk l.prog w K mg base CX0 9 fa fd ["script"] (sp_law K) := by
  have e := hfa.symm.trans (PySem.W.mg_of X G a22)
  cases e
  have F0 := fun_mk (st := s_l_text) l0 c0 k0
  have b0 := F0.binds (ps := ["system"]) fun _ _ _ _ _ _ us hl => match us, hl with | [_], _ => rfl
  have F1 := fun_mk (st := s_l_equal) l1 c1 k1
  have b1 := F1.binds (ps := ["actual", "due"]) fun _ _ _ _ _ _ us hl => match us, hl with | [_, _], _ => rfl
  have F2 := fun_mk (st := s_l_tape) l2 c2 k2
  have b2 := F2.binds (ps := ["script"]) fun _ _ _ _ _ _ us hl => match us, hl with | [_], _ => rfl
  have F3 := fun_mk (st := s_l_draw) l3 c3 k3
  have b3 := F3.binds (ps := ["tape", "at", "many"]) fun _ _ _ _ _ _ us hl => match us, hl with | [_, _, _], _ => rfl
  have F4 := fun_mk (st := s_l_take) l4 c4 k4
  have b4 := F4.binds (ps := ["state", "many"]) fun _ _ _ _ _ _ us hl => match us, hl with | [_, _], _ => rfl
  have F5 := fun_mk (st := s_l_ends) l5 c5 k5
  have b5 := F5.binds (ps := ["state", "many"]) fun _ _ _ _ _ _ us hl => match us, hl with | [_, _], _ => rfl
  have F6 := fun_mk (st := s_l_choices) l6 c6 k6
  have b6 := F6.binds (ps := ["state", "many", "most"]) fun _ _ _ _ _ _ us hl => match us, hl with | [_, _, _], _ => rfl
  have F7 := fun_mk (st := s_l_system) l7 c7 k7
  have b7 := F7.binds (ps := ["state", "most"]) fun _ _ _ _ _ _ us hl => match us, hl with | [_, _], _ => rfl
  have F8 := fun_mk (st := s_are_ends) l8 c8 k8
  have b8 := F8.binds (ps := ["many", "ends"]) fun _ _ _ _ _ _ us hl => match us, hl with | [_, _], _ => rfl
  have F9 := fun_mk (st := s_fault_in_state) l9 c9 k9
  have b9 := F9.binds (ps := ["many", "state", "choices"]) fun _ _ _ _ _ _ us hl => match us, hl with | [_, _, _], _ => rfl
  have F10 := fun_mk (st := s_fault) l10 c10 k10
  have b10 := F10.binds (ps := ["system"]) fun _ _ _ _ _ _ us hl => match us, hl with | [_], _ => rfl
  have F11 := fun_mk (st := s_is_number) l11 c11 k11
  have b11 := F11.binds (ps := ["text", "most"]) fun _ _ _ _ _ _ us hl => match us, hl with | [_, _], _ => rfl
  have F12 := fun_mk (st := s_parse_integer) l12 c12 k12
  have b12 := F12.binds (ps := ["number", "word"]) fun _ _ _ _ _ _ us hl => match us, hl with | [_, _], _ => rfl
  have F13 := fun_mk (st := s_parse_choice) l13 c13 k13
  have b13 := F13.binds (ps := ["number", "line"]) fun _ _ _ _ _ _ us hl => match us, hl with | [_, _], _ => rfl
  have F14 := fun_mk (st := s_parse_system) l14 c14 k14
  have b14 := F14.binds (ps := ["text"]) fun _ _ _ _ _ _ us hl => match us, hl with | [_], _ => rfl
  have F15 := fun_mk (st := s_l_told) l15 c15 k15
  have b15 := F15.binds (ps := ["text"]) fun _ _ _ _ _ _ us hl => match us, hl with | [_], _ => rfl
  have F16 := fun_mk (st := s_l_changed) l16 c16 k16
  have b16 := F16.binds (ps := ["state", "text"]) fun _ _ _ _ _ _ us hl => match us, hl with | [_, _], _ => rfl
  have F17 := fun_mk (st := s_l_fits) l17 c17 k17
  have b17 := F17.binds (ps := ["ends", "many"]) fun _ _ _ _ _ _ us hl => match us, hl with | [_, _], _ => rfl
  have F18 := fun_mk (st := s_l_due) l18 c18 k18
  have b18 := F18.binds (ps := ["system"]) fun _ _ _ _ _ _ us hl => match us, hl with | [_], _ => rfl
  have F19 := fun_mk (st := s_l_number) l19 c19 k19
  have b19 := F19.binds (ps := ["text"]) fun _ _ _ _ _ _ us hl => match us, hl with | [_], _ => rfl
  have F20 := fun_mk (st := s_l_line) l20 c20 k20
  have b20 := F20.binds (ps := ["line"]) fun _ _ _ _ _ _ us hl => match us, hl with | [_], _ => rfl
  have F21 := fun_mk (st := s_l_read) l21 c21 k21
  have b21 := F21.binds (ps := ["text"]) fun _ _ _ _ _ _ us hl => match us, hl with | [_], _ => rfl
  have F22 := fun_mk (st := s_law) l22 c22 k22
  have b22 := F22.binds (ps := ["script"]) fun _ _ _ _ _ _ us hl => match us, hl with | [_], _ => rfl
  have F_InvalidLine := fun_mk (st := s_InvalidLine) li_InvalidLine ci_InvalidLine ki_InvalidLine
  have b_InvalidLine := F_InvalidLine.binds (ps := ["self", "number"]) fun _ _ _ _ _ _ us hl => match us, hl with | [_, _], _ => rfl
  have F_InvalidSystem := fun_mk (st := s_InvalidSystem) li_InvalidSystem ci_InvalidSystem ki_InvalidSystem
  have b_InvalidSystem := F_InvalidSystem.binds (ps := ["self", "fault"]) fun _ _ _ _ _ _ us hl => match us, hl with | [_, _], _ => rfl
  let T : Env K mg := { a_l_text := _, d_l_text := _, F_l_text := F0, b_l_text := b0, g_l_text := PySem.W.mg_of X G a0, a_l_equal := _, d_l_equal := _, F_l_equal := F1, b_l_equal := b1, g_l_equal := PySem.W.mg_of X G a1, a_l_tape := _, d_l_tape := _, F_l_tape := F2, b_l_tape := b2, g_l_tape := PySem.W.mg_of X G a2, a_l_draw := _, d_l_draw := _, F_l_draw := F3, b_l_draw := b3, g_l_draw := PySem.W.mg_of X G a3, a_l_take := _, d_l_take := _, F_l_take := F4, b_l_take := b4, g_l_take := PySem.W.mg_of X G a4, a_l_ends := _, d_l_ends := _, F_l_ends := F5, b_l_ends := b5, g_l_ends := PySem.W.mg_of X G a5, a_l_choices := _, d_l_choices := _, F_l_choices := F6, b_l_choices := b6, g_l_choices := PySem.W.mg_of X G a6, a_l_system := _, d_l_system := _, F_l_system := F7, b_l_system := b7, g_l_system := PySem.W.mg_of X G a7, a_are_ends := _, d_are_ends := _, F_are_ends := F8, b_are_ends := b8, g_are_ends := PySem.W.mg_of X G a8, a_fault_in_state := _, d_fault_in_state := _, F_fault_in_state := F9, b_fault_in_state := b9, g_fault_in_state := PySem.W.mg_of X G a9, a_fault := _, d_fault := _, F_fault := F10, b_fault := b10, g_fault := PySem.W.mg_of X G a10, a_is_number := _, d_is_number := _, F_is_number := F11, b_is_number := b11, g_is_number := PySem.W.mg_of X G a11, a_parse_integer := _, d_parse_integer := _, F_parse_integer := F12, b_parse_integer := b12, g_parse_integer := PySem.W.mg_of X G a12, a_parse_choice := _, d_parse_choice := _, F_parse_choice := F13, b_parse_choice := b13, g_parse_choice := PySem.W.mg_of X G a13, a_parse_system := _, d_parse_system := _, F_parse_system := F14, b_parse_system := b14, g_parse_system := PySem.W.mg_of X G a14, a_l_told := _, d_l_told := _, F_l_told := F15, b_l_told := b15, g_l_told := PySem.W.mg_of X G a15, a_l_changed := _, d_l_changed := _, F_l_changed := F16, b_l_changed := b16, g_l_changed := PySem.W.mg_of X G a16, a_l_fits := _, d_l_fits := _, F_l_fits := F17, b_l_fits := b17, g_l_fits := PySem.W.mg_of X G a17, a_l_due := _, d_l_due := _, F_l_due := F18, b_l_due := b18, g_l_due := PySem.W.mg_of X G a18, a_l_number := _, d_l_number := _, F_l_number := F19, b_l_number := b19, g_l_number := PySem.W.mg_of X G a19, a_l_line := _, d_l_line := _, F_l_line := F20, b_l_line := b20, g_l_line := PySem.W.mg_of X G a20, a_l_read := _, d_l_read := _, F_l_read := F21, b_l_read := b21, g_l_read := PySem.W.mg_of X G a21, a_law := _, d_law := _, F_law := F22, b_law := b22, g_law := PySem.W.mg_of X G a22, c_BestoddsError := _, g_BestoddsError := PySem.W.mg_of X G ac_BestoddsError, e_BestoddsError := e_BestoddsError, k_BestoddsError := k_BestoddsError, c_InvalidLine := _, g_InvalidLine := PySem.W.mg_of X G ac_InvalidLine, a_InvalidLine := _, d_InvalidLine := _, o_InvalidLine := ⟨⟨_, _, _, _, _, _, _, _, _, _, _, _, _, _, _, xl_InvalidLine, rfl⟩, sa_InvalidLine, ex_InvalidLine, ty_InvalidLine, kc_InvalidLine⟩, i_InvalidLine := ai_InvalidLine, t_InvalidLine := ti_InvalidLine, F_InvalidLine := F_InvalidLine, b_InvalidLine := b_InvalidLine, n_InvalidLine := fr_InvalidLine, c_InvalidSystem := _, g_InvalidSystem := PySem.W.mg_of X G ac_InvalidSystem, a_InvalidSystem := _, d_InvalidSystem := _, o_InvalidSystem := ⟨⟨_, _, _, _, _, _, _, _, _, _, _, _, _, _, _, xl_InvalidSystem, rfl⟩, sa_InvalidSystem, ex_InvalidSystem, ty_InvalidSystem, kc_InvalidSystem⟩, i_InvalidSystem := ai_InvalidSystem, t_InvalidSystem := ti_InvalidSystem, F_InvalidSystem := F_InvalidSystem, b_InvalidSystem := b_InvalidSystem, n_InvalidSystem := fr_InvalidSystem, z_ValueError := PySem.W.mg_none_of X G z_ValueError, z_bool := PySem.W.mg_none_of X G z_bool, z_enumerate := PySem.W.mg_none_of X G z_enumerate, z_int := PySem.W.mg_none_of X G z_int, z_isinstance := PySem.W.mg_none_of X G z_isinstance, z_len := PySem.W.mg_none_of X G z_len, z_list := PySem.W.mg_none_of X G z_list, z_range := PySem.W.mg_none_of X G z_range, z_str := PySem.W.mg_none_of X G z_str, z_tuple := PySem.W.mg_none_of X G z_tuple, k_MOST_CHOICES := t_MOST_CHOICES, c_MOST_CHOICES := PySem.W.mg_of X G z_MOST_CHOICES, k_MOST_COST := t_MOST_COST, c_MOST_COST := PySem.W.mg_of X G z_MOST_COST, k_MOST_ENDS := t_MOST_ENDS, c_MOST_ENDS := PySem.W.mg_of X G z_MOST_ENDS, k_MOST_PLACES := t_MOST_PLACES, c_MOST_PLACES := PySem.W.mg_of X G z_MOST_PLACES, k_MOST_STATES := t_MOST_STATES, c_MOST_STATES := PySem.W.mg_of X G z_MOST_STATES, k_MOST_WEIGHT := t_MOST_WEIGHT, c_MOST_WEIGHT := PySem.W.mg_of X G z_MOST_WEIGHT, m_BestoddsError := m_BestoddsError, y_BestoddsError := y_BestoddsError, h_InvalidLine_InvalidLine := h_InvalidLine_InvalidLine, h_InvalidSystem_InvalidLine := h_InvalidSystem_InvalidLine, h_InvalidSystem_InvalidSystem := h_InvalidSystem_InvalidSystem, j_InvalidLine_BestoddsError := j_InvalidLine_BestoddsError, j_InvalidLine_ValueError := j_InvalidLine_ValueError, j_InvalidSystem_BestoddsError := j_InvalidSystem_BestoddsError, j_InvalidSystem_ValueError := j_InvalidSystem_ValueError, xc_InvalidLine := xc_InvalidLine, xc_InvalidSystem := xc_InvalidSystem }
  exact ⟨PySem.W.fnOf "law" "law" (defArgs s_law) (defBody s_law) (defScope s_law) .none kV22 dc22 pm22 an22 cd22 ct22, fun s v => .of_eq rfl, fun base _ _ => ok_law T⟩
end Bo
open PySem PySem.W PyProof.Rows
set_option maxRecDepth 100000 in
set_option maxHeartbeats 0 in
theorem PySem.Challenge.cw_bestodds_k06_written_systems_refused_holds : PySem.Challenge.rw_bestodds_k06_written_systems_refused.Holds := by
  w_on; o_law; k_head; (case hw => w_witness2)
  k_fill
  refine L2.walk_of (l := PySem.Challenge.rw_bestodds_k06_written_systems_refused) (n := 63) (k := 9) (x := "script") (CX := fun _ => L2.CX0) (sp := fun w => Bo.sp_law _) rfl (by decide) rfl ⟨rfl, by decide, by decide⟩ (fun w h Y => PySem.W.kIn_of Y) ?F (fun _ _ a ns hl _ hS => ⟨a, ns, rfl, hS, hl, fun _ => rfl⟩) (fun _ _ _ _ _ h => h)
  case F =>
    intro w mg fa h KX G hmg
    refine' Bo.all_mk KX G hmg ?ac_BestoddsError ?ac_InvalidLine ?ac_InvalidSystem ?e_BestoddsError ?k_BestoddsError ?xl_InvalidLine ?sa_InvalidLine ?ex_InvalidLine ?ty_InvalidLine ?kc_InvalidLine ?ai_InvalidLine ?ti_InvalidLine ?li_InvalidLine ?ci_InvalidLine ?ki_InvalidLine ?fr_InvalidLine ?xl_InvalidSystem ?sa_InvalidSystem ?ex_InvalidSystem ?ty_InvalidSystem ?kc_InvalidSystem ?ai_InvalidSystem ?ti_InvalidSystem ?li_InvalidSystem ?ci_InvalidSystem ?ki_InvalidSystem ?fr_InvalidSystem ?a0 ?l0 ?c0 ?k0 ?a1 ?l1 ?c1 ?k1 ?a2 ?l2 ?c2 ?k2 ?a3 ?l3 ?c3 ?k3 ?a4 ?l4 ?c4 ?k4 ?a5 ?l5 ?c5 ?k5 ?a6 ?l6 ?c6 ?k6 ?a7 ?l7 ?c7 ?k7 ?a8 ?l8 ?c8 ?k8 ?a9 ?l9 ?c9 ?k9 ?a10 ?l10 ?c10 ?k10 ?a11 ?l11 ?c11 ?k11 ?a12 ?l12 ?c12 ?k12 ?a13 ?l13 ?c13 ?k13 ?a14 ?l14 ?c14 ?k14 ?a15 ?l15 ?c15 ?k15 ?a16 ?l16 ?c16 ?k16 ?a17 ?l17 ?c17 ?k17 ?a18 ?l18 ?c18 ?k18 ?a19 ?l19 ?c19 ?k19 ?a20 ?l20 ?c20 ?k20 ?a21 ?l21 ?c21 ?k21 ?a22 ?l22 ?c22 ?k22 ?z_ValueError ?z_bool ?z_enumerate ?z_int ?z_isinstance ?z_len ?z_list ?z_range ?z_str ?z_tuple ?z_MOST_CHOICES ?z_MOST_COST ?z_MOST_ENDS ?z_MOST_PLACES ?z_MOST_STATES ?z_MOST_WEIGHT ?m_BestoddsError ?y_BestoddsError ?h_InvalidLine_InvalidLine ?h_InvalidSystem_InvalidLine ?h_InvalidSystem_InvalidSystem ?j_InvalidLine_BestoddsError ?j_InvalidLine_ValueError ?j_InvalidSystem_BestoddsError ?j_InvalidSystem_ValueError ?xc_InvalidLine ?xc_InvalidSystem
    (case ac_BestoddsError => k_is)
    (case ac_InvalidLine => k_is)
    (case ac_InvalidSystem => k_is)
    (case e_BestoddsError => k_exc)
    (case k_BestoddsError => k_is)
    (case xl_InvalidLine => k_is)
    (case sa_InvalidLine => k_is)
    (case ex_InvalidLine => k_is)
    (case ty_InvalidLine => k_is)
    (case kc_InvalidLine => k_is)
    (case ai_InvalidLine => k_is)
    (case ti_InvalidLine => k_is)
    (case li_InvalidLine => k_is)
    (case ci_InvalidLine => k_is)
    (case ki_InvalidLine => k_is)
    (case fr_InvalidLine => k_is)
    (case xl_InvalidSystem => k_is)
    (case sa_InvalidSystem => k_is)
    (case ex_InvalidSystem => k_is)
    (case ty_InvalidSystem => k_is)
    (case kc_InvalidSystem => k_is)
    (case ai_InvalidSystem => k_is)
    (case ti_InvalidSystem => k_is)
    (case li_InvalidSystem => k_is)
    (case ci_InvalidSystem => k_is)
    (case ki_InvalidSystem => k_is)
    (case fr_InvalidSystem => k_is)
    (case a0 => k_is)
    (case l0 => k_is)
    (case c0 => k_is)
    (case k0 => k_is)
    (case a1 => k_is)
    (case l1 => k_is)
    (case c1 => k_is)
    (case k1 => k_is)
    (case a2 => k_is)
    (case l2 => k_is)
    (case c2 => k_is)
    (case k2 => k_is)
    (case a3 => k_is)
    (case l3 => k_is)
    (case c3 => k_is)
    (case k3 => k_is)
    (case a4 => k_is)
    (case l4 => k_is)
    (case c4 => k_is)
    (case k4 => k_is)
    (case a5 => k_is)
    (case l5 => k_is)
    (case c5 => k_is)
    (case k5 => k_is)
    (case a6 => k_is)
    (case l6 => k_is)
    (case c6 => k_is)
    (case k6 => k_is)
    (case a7 => k_is)
    (case l7 => k_is)
    (case c7 => k_is)
    (case k7 => k_is)
    (case a8 => k_is)
    (case l8 => k_is)
    (case c8 => k_is)
    (case k8 => k_is)
    (case a9 => k_is)
    (case l9 => k_is)
    (case c9 => k_is)
    (case k9 => k_is)
    (case a10 => k_is)
    (case l10 => k_is)
    (case c10 => k_is)
    (case k10 => k_is)
    (case a11 => k_is)
    (case l11 => k_is)
    (case c11 => k_is)
    (case k11 => k_is)
    (case a12 => k_is)
    (case l12 => k_is)
    (case c12 => k_is)
    (case k12 => k_is)
    (case a13 => k_is)
    (case l13 => k_is)
    (case c13 => k_is)
    (case k13 => k_is)
    (case a14 => k_is)
    (case l14 => k_is)
    (case c14 => k_is)
    (case k14 => k_is)
    (case a15 => k_is)
    (case l15 => k_is)
    (case c15 => k_is)
    (case k15 => k_is)
    (case a16 => k_is)
    (case l16 => k_is)
    (case c16 => k_is)
    (case k16 => k_is)
    (case a17 => k_is)
    (case l17 => k_is)
    (case c17 => k_is)
    (case k17 => k_is)
    (case a18 => k_is)
    (case l18 => k_is)
    (case c18 => k_is)
    (case k18 => k_is)
    (case a19 => k_is)
    (case l19 => k_is)
    (case c19 => k_is)
    (case k19 => k_is)
    (case a20 => k_is)
    (case l20 => k_is)
    (case c20 => k_is)
    (case k20 => k_is)
    (case a21 => k_is)
    (case l21 => k_is)
    (case c21 => k_is)
    (case k21 => k_is)
    (case a22 => k_is)
    (case l22 => k_is)
    (case c22 => k_is)
    (case k22 => k_is)
    (case z_ValueError => k_is)
    (case z_bool => k_is)
    (case z_enumerate => k_is)
    (case z_int => k_is)
    (case z_isinstance => k_is)
    (case z_len => k_is)
    (case z_list => k_is)
    (case z_range => k_is)
    (case z_str => k_is)
    (case z_tuple => k_is)
    (case z_MOST_CHOICES => k_is)
    (case z_MOST_COST => k_is)
    (case z_MOST_ENDS => k_is)
    (case z_MOST_PLACES => k_is)
    (case z_MOST_STATES => k_is)
    (case z_MOST_WEIGHT => k_is)
    (case m_BestoddsError => k_is)
    (case y_BestoddsError => k_is)
    (case h_InvalidLine_InvalidLine => first | kernel_rfl | exact Eq.refl _)
    (case h_InvalidSystem_InvalidLine => first | kernel_rfl | exact Eq.refl _)
    (case h_InvalidSystem_InvalidSystem => first | kernel_rfl | exact Eq.refl _)
    (case j_InvalidLine_BestoddsError => first | kernel_rfl | exact Eq.refl _)
    (case j_InvalidLine_ValueError => first | kernel_rfl | exact Eq.refl _)
    (case j_InvalidSystem_BestoddsError => first | kernel_rfl | exact Eq.refl _)
    (case j_InvalidSystem_ValueError => first | kernel_rfl | exact Eq.refl _)
    (case xc_InvalidLine => first | kernel_rfl | exact Eq.refl true)
    (case xc_InvalidSystem => first | kernel_rfl | exact Eq.refl true)

