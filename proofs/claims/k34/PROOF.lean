import PyProof.Rows.All
import Wide.All
import OpenK.AllK
import Wide.FinOn
import HandS.ForMost
import HandS.IsInst
import HandS.Wide
import HandS.Gcd
import HandS.Codes
import HandS.Style
import HandS.TupMul
import HandS.TupAny
import KE.GoesNew
import KE.GoesMore
import HandS.Conv
import HandS.SortInts
import HandS.DictTup
import HandS.NoneIn
import HandS.Star
import HandS.Iter
import HandS.List
import Flt.Len
import HandS.DictComp
import HandS.HeadHook3
import KE.KUnpackStar
import HandS.TupLe
import PySem.Challenge.RW_bestodds_k34_valid_sentences
set_option Elab.async false
set_option linter.all false
set_option maxRecDepth 100000
set_option maxHeartbeats 4000000
namespace Bo
open PySem L2

/-! ### readings, step by step -/
section
variable {σ : L2.St} {H : Hp} {Q : VK} {D : Ends} {ta tb te : TE} {t u : TS} {tt tu : TT} {K : PySem.W.Frag}
end

section
variable {σ : L2.St} {H : Hp} {D : Ends} {t u : TS}
end
/-! ### division by any int that is not nought -/
def CDivX (_ j : Int) : Prop := j ≠ 0 ∧ j.natAbs.log2 < 9000
theorem op_fdivX {X : Cx} : OpR X (binaryOp .FloorDiv) (rI CDivX fun i j => .int (i.fdiv j)) := opI fun _ _ _ _ _ _ _ hc q => PyProof.Rows.floordiv_int hc.1 q (.inl (PyProof.noPylong_of_log2 hc.2))

/-! ### heaps -/
section
variable {K : PySem.W.Frag} {H H' H1 : Hp} {a b p q : Addr} {xs ys : List V} {o : HO}
theorem sm_t (e : Same H H') (h : SqT K H a xs) : SqT K H' a xs := by
  rcases h with (h | ⟨o, h⟩) | h
  · exact .inl (.inl (e _ _ h))
  · exact .inl (.inr ⟨o, e _ _ h⟩)
  · exact .inr h
theorem sm_l (e : Same H H') (h : SqL K H a xs) : SqL K H' a xs := e.seq h
theorem sm_new (h : H p = none) : Same H (upd H p o) := fun b u e => by
  rw [upd_ne (ne_of_none e h)]
  exact e
end

/-! ### rules whose reading names K outright (within a comprehension) -/
section
variable {X : Cx}
theorem ixT (K : PySem.W.Frag) (h : X.K = K := by rfl) : IxR X (rIxT K) := by
  subst h
  exact ix_tup
theorem ixL (K : PySem.W.Frag) (h : X.K = K := by rfl) : IxR X (rIxL K) := by
  subst h
  exact ix_list
end
/-! ### what is kept but for the list at p; tuples -/
def Fm (p : Addr) (H H' : Hp) : Prop := ∀ b o, b ≠ p → H b = some o → H' b = some o
section
variable {K : PySem.W.Frag} {H H' H1 : Hp} {a b p q : Addr} {xs ys : List V} {o : HO}
theorem Fm.refl : Fm p H H := fun _ _ _ h => h
theorem Fm.trans (e : Fm p H H1) (f : Fm p H1 H') : Fm p H H' := fun b o n h => f b o n (e b o n h)
theorem Fm.free (e : Fm p H H') (n : a ≠ p) (h : H' a = none) : H a = none := by
  cases q : H a with
  | none => rfl
  | some u =>
    rw [e a u n q] at h
    cases h
/-- tuples are kept -/
def Tk (H H' : Hp) : Prop := ∀ b xs, (H b = some (.tup xs) → H' b = some (.tup xs)) ∧ ∀ o, H b = some (.frz o (.tup xs)) → H' b = some (.frz o (.tup xs))
theorem Tk.refl : Tk H H := fun _ _ => ⟨id, fun _ => id⟩
theorem Tk.trans (e : Tk H H1) (f : Tk H1 H') : Tk H H' := fun b xs => ⟨fun h => (f b xs).1 ((e b xs).1 h), fun o h => (f b xs).2 o ((e b xs).2 o h)⟩
theorem Fm.tk (e : Fm p H H') (h : H p = some (.lst ys)) : Tk H H' := fun b xs =>
  ⟨fun q => e b _ (ne_of q h (fun z => by cases z)) q, fun o q => e b _ (ne_of q h (fun z => by cases z)) q⟩
end

/-! ### data -/
section
variable {K : PySem.W.Frag} {H H' : Hp}
/-- data without lists -/
inductive Tu : PyData → Prop
  | non : Tu .none
  | bl (b : Bool) : Tu (.bool b)
  | int (i : Int) : Tu (.int i)
  | str (x : Str) : Tu (.str x)
  | tup {ds : List PyData} (h : ∀ d, d ∈ ds → Tu d) : Tu (.tuple ds)
/-- data at most n deep -/
inductive Dn : Nat → PyData → Prop
  | non (n : Nat) : Dn n .none
  | bl (n : Nat) (b : Bool) : Dn n (.bool b)
  | int (n : Nat) (i : Int) : Dn n (.int i)
  | str (n : Nat) (x : Str) : Dn n (.str x)
  | tup {n : Nat} {ds : List PyData} (l : ds.length ≤ 100000) (h : ∀ d, d ∈ ds → Dn n d) : Dn (n + 1) (.tuple ds)
  | lst {n : Nat} {ds : List PyData} (l : ds.length ≤ 100000) (h : ∀ d, d ∈ ds → Dn n d) : Dn (n + 1) (.list ds)
theorem Dn.up : ∀ {n : Nat} {d : PyData}, Dn n d → Dn (n + 1) d
  | _, _, .non _ => .non _
  | _, _, .bl _ b => .bl _ b
  | _, _, .int _ i => .int _ i
  | _, _, .str _ x => .str _ x
  | _, _, .tup l h => .tup l fun d hd => (h d hd).up
  | _, _, .lst l h => .lst l fun d hd => (h d hd).up
end
end Bo

/-! ### what code is worth, as functions on plain values: lists that are changed belong to one slot each -/
namespace Bo
open PySem L2
/-! data that stand: lists and tuples that nobody changes -/
mutual
inductive Da (K : PySem.W.Frag) (B : Hp) : V → PyData → Prop
  | non : Da K B .non .none
  | bl (b : Bool) : Da K B (.bl b) (.bool b)
  | int (i : Int) : Da K B (.int i) (.int i)
  | str (x : Str) : Da K B (.str x) (.str x)
  | lst {a : Addr} {xs : List V} {ds : List PyData} (s : B a = some (.lst xs)) (h : DaAll K B xs ds) : Da K B (.ref a) (.list ds)
  | tup {a : Addr} {xs : List V} {ds : List PyData} (s : SqT K B a xs) (h : DaAll K B xs ds) : Da K B (.ref a) (.tuple ds)
inductive DaAll (K : PySem.W.Frag) (B : Hp) : List V → List PyData → Prop
  | nil : DaAll K B [] []
  | cons {v : V} {d : PyData} {vs : List V} {ds : List PyData} (h : Da K B v d) (t : DaAll K B vs ds) : DaAll K B (v :: vs) (d :: ds)
end
section
variable {K : PySem.W.Frag} {B B' : Hp}
mutual
theorem da_mono (e : Same B B') : ∀ {v : V} {d : PyData}, Da K B v d → Da K B' v d
  | _, _, .non => .non
  | _, _, .bl b => .bl b
  | _, _, .int i => .int i
  | _, _, .str x => .str x
  | _, _, .lst s a => .lst (e _ _ s) (daa_mono e a)
  | _, _, .tup s a => .tup (sm_t e s) (daa_mono e a)
theorem daa_mono (e : Same B B') : ∀ {vs : List V} {ds : List PyData}, DaAll K B vs ds → DaAll K B' vs ds
  | _, _, .nil => .nil
  | _, _, .cons h t => .cons (da_mono e h) (daa_mono e t)
end
mutual
theorem da_dp : ∀ {v : V} {d : PyData}, Da K B v d → Dp K B v d
  | _, _, .non => .non
  | _, _, .bl b => .bl b
  | _, _, .int i => .int i
  | _, _, .str x => .str x
  | _, _, .lst s a => .lst (SqL.of s) (daa_dp a)
  | _, _, .tup s a => .tup s (daa_dp a)
theorem daa_dp : ∀ {vs : List V} {ds : List PyData}, DaAll K B vs ds → DpAll K B vs ds
  | _, _, .nil => .nil
  | _, _, .cons h t => .cons (da_dp h) (daa_dp t)
end
theorem daa_len : ∀ {vs : List V} {ds : List PyData}, DaAll K B vs ds → vs.length = ds.length
  | _, _, .nil => rfl
  | _, _, .cons _ t => congrArg (· + 1) (daa_len t)
theorem daa_get : ∀ {vs : List V} {ds : List PyData} {i : Nat} {d : PyData}, DaAll K B vs ds → ds[i]? = some d → ∃ v, vs[i]? = some v ∧ Da K B v d
  | _, _, _, _, .nil, e => nomatch (show (none : Option PyData) = some _ from e)
  | _, _, 0, _, .cons h _, e => by
    cases (Option.some.inj e)
    exact ⟨_, rfl, h⟩
  | _, _, i + 1, d, .cons _ t, e => daa_get (i := i) (d := d) t e
theorem daa_at : ∀ {vs : List V} {ds : List PyData} {i : Nat} {v : V}, DaAll K B vs ds → vs[i]? = some v → ∃ d, ds[i]? = some d ∧ Da K B v d
  | _, _, _, _, .nil, e => nomatch (show (none : Option V) = some _ from e)
  | _, _, 0, _, .cons h _, e => by
    cases (Option.some.inj e)
    exact ⟨_, rfl, h⟩
  | _, _, i + 1, d, .cons _ t, e => daa_at (i := i) (v := d) t e
theorem daa_app : ∀ {vs ws : List V} {ds es : List PyData}, DaAll K B vs ds → DaAll K B ws es → DaAll K B (vs ++ ws) (ds ++ es)
  | _, _, _, _, .nil, s => s
  | _, _, _, _, .cons h t, s => .cons h (daa_app t s)
theorem daa_take : ∀ {vs : List V} {ds : List PyData} (n : Nat), DaAll K B vs ds → DaAll K B (vs.take n) (ds.take n)
  | _, _, 0, _ => .nil
  | _, _, _ + 1, .nil => .nil
  | _, _, n + 1, .cons h t => .cons h (daa_take n t)
theorem daa_drop : ∀ {vs : List V} {ds : List PyData} (n : Nat), DaAll K B vs ds → DaAll K B (vs.drop n) (ds.drop n)
  | _, _, 0, h => h
  | _, _, _ + 1, .nil => .nil
  | _, _, n + 1, .cons _ t => daa_drop n t
theorem daa_rep {vs : List V} {ds : List PyData} (h : DaAll K B vs ds) : ∀ n : Nat, DaAll K B (List.replicate n vs).flatten (List.replicate n ds).flatten
  | 0 => .nil
  | n + 1 => by
    rw [List.replicate_succ, List.replicate_succ, List.flatten_cons, List.flatten_cons]
    exact daa_app h (daa_rep h n)
end
structure Exc where
  cls : String
  arg : Option PyData
inductive R (α : Type) where
  | ok (a : α)
  | err (e : Exc)
  | bad
namespace R
variable {α β : Type}
def bind (x : R α) (f : α → R β) : R β := match x with
  | .ok a => f a
  | .err e => .err e
  | .bad => .bad
@[simp] theorem bind_ok {a : α} {f : α → R β} : bind (.ok a) f = f a := rfl
@[simp] theorem bind_err {e : Exc} {f : α → R β} : bind (.err e) f = .err e := rfl
@[simp] theorem bind_bad {f : α → R β} : bind .bad f = .bad := rfl
/-- only where c holds -/
def when (c : Prop) [Decidable c] (x : R α) : R α := if c then x else .bad
@[simp] theorem when_pos {c : Prop} [Decidable c] {x : R α} (h : c) : when c x = x := if_pos h
theorem when_neg {c : Prop} [Decidable c] {x : R α} (h : ¬ c) : when c x = .bad := if_neg h
end R
/-- a slot's worth: data that stay, a list of its own, a dict of its own -/
inductive SV where
  | dat (d : PyData)
  | own (ds : List PyData)
  | dic (kvs : List (Key × PyData))
  | scr (ns : List Int)
def SV.mine : SV → Bool
  | .dat _ => false
  | .scr _ => false
  | _ => true
abbrev SS := List (Option SV)
/-- the entry: the heap, what of it stays, the boxes (the first parameters), what errors are to meet -/
structure Ct (K : PySem.W.Frag) (n : Nat) where
  H0 : Hp
  B0 : Hp
  bx : List Addr
  hbx : bx.length = n
  er : Exc → V → Hp → Prop
section
variable {K : PySem.W.Frag} {n : Nat}
structure Base (C : Ct K n) (H B : Hp) : Prop where
  keep : ∀ a o, a ∉ C.bx → C.H0 a = some o → H a = some o
  b0 : Same C.B0 B
  bh : Same B H
  fr : ∀ a o, B a = some o → C.B0 a = some o ∨ C.H0 a = none
def DpKs (K : PySem.W.Frag) (B : Hp) (ws : List (Key × V)) (kvs : List (Key × PyData)) : Prop := Paired (fun w k => w.1 = k.1 ∧ Da K B w.2 k.2) ws kvs
def SR (C : Ct K n) (H B : Hp) (v : V) : SV → Prop
  | .scr ns => ∃ a, v = .ref a ∧ SqL K B a (ns.map V.int)
  | .dat d => Da K B v d
  | .own ds => ∃ a vs, v = .ref a ∧ H a = some (.lst vs) ∧ B a = none ∧ DaAll K B vs ds
  | .dic kvs => ∃ a ws, v = .ref a ∧ H a = some (.dK ws) ∧ B a = none ∧ DpKs K B ws kvs
structure Rep (C : Ct K n) (σ : L2.St) (H B : Hp) (S : SS) : Prop where
  base : Base C H B
  len : S.length = σ.length
  slot : ∀ (i : Nat) s, S[i]? = some (some s) → ∃ v, σ[i]? = some (some v) ∧ SR C H B v s
  dis : ∀ (i j : Nat) s u a, S[i]? = some (some s) → S[j]? = some (some u) → s.mine = true → u.mine = true → σ[i]? = some (some (.ref a)) → σ[j]? = some (some (.ref a)) → i = j
  ownf : ∀ (i : Nat) s a, S[i]? = some (some s) → s.mine = true → σ[i]? = some (some (.ref a)) → C.H0 a = none ∨ C.bx[i]? = some a
  box : ∀ (i : Nat) a, C.bx[i]? = some a → σ[i]? = some (some (.ref a)) ∧ ∃ s, S[i]? = some (some s) ∧ s.mine = true
/-- an error goes out -/
def Ct.Out (C : Ct K n) (e : Exc) : Prop := ∀ H B v, Base C H B → (∀ d, e.arg = some d → Da K B v d) → C.er e v H
def Post {α : Type} (C : Ct K n) (x : R α) (k : α → Prop) : Prop := match x with
  | .ok a => k a
  | .err e => C.Out e
  | .bad => False
section
variable {α β : Type} {C : Ct K n} {x : R α} {f : α → R β} {k k' : α → Prop} {g : β → Prop}
theorem post_bind : Post C (x.bind f) g ↔ Post C x fun a => Post C (f a) g := by cases x <;> exact Iff.rfl
theorem Post.mono (h : Post C x k) (m : ∀ a, k a → k' a) : Post C x k' := by
  cases x with
  | ok a => exact m a h
  | err e => exact h
  | bad => exact h
theorem post_when {c : Prop} [Decidable c] : Post C (R.when c x) k ↔ c ∧ Post C x k := by
  by_cases h : c
  · rw [R.when_pos h]
    exact ⟨fun q => ⟨h, q⟩, fun q => q.2⟩
  · rw [R.when_neg h]
    exact ⟨fun q => q.elim, fun q => (h q.1).elim⟩
end
/-! ### judgements: a reading's worth -/
abbrev VE := SS → R (PyData × SS)
abbrev VT := SS → R (Bool × SS)
abbrev VA := SS → R (List PyData × SS)
inductive FL where
  | nx (S : SS) | rt (d : PyData) (S : SS) | bk (S : SS) | ct (S : SS)
abbrev VS := SS → R FL
def SE (C : Ct K n) (t : TE) (f : VE) : Prop := ∀ (σ : L2.St) (H B : Hp) (S : SS) (Q : VK), Rep C σ H B S →
  Post C (f S) (fun p => ∀ v H' B', Rep C σ H' B' p.2 → Same B B' → Da K B' v p.1 → Q v H') → t σ H Q
def ST (C : Ct K n) (t : TT) (f : VT) : Prop := ∀ (σ : L2.St) (H B : Hp) (S : SS) (Q : Bool → Hp → Prop), Rep C σ H B S →
  Post C (f S) (fun p => ∀ H' B', Rep C σ H' B' p.2 → Same B B' → Q p.1 H') → t σ H Q
def SA (C : Ct K n) (t : TA) (f : VA) : Prop := ∀ (σ : L2.St) (H B : Hp) (S : SS) (Q : List V → Hp → Prop), Rep C σ H B S →
  Post C (f S) (fun p => ∀ vs H' B', Rep C σ H' B' p.2 → Same B B' → DaAll K B' vs p.1 → Q vs H') → t σ H Q
def FlPost (C : Ct K n) (B : Hp) (D : Ends) : FL → Prop
  | .nx S' => ∀ σ' H' B', Rep C σ' H' B' S' → Same B B' → D.nx σ' H'
  | .rt d S' => ∀ v σ' H' B', Rep C σ' H' B' S' → Same B B' → Da K B' v d → D.rt v H'
  | .bk S' => ∀ σ' H' B', Rep C σ' H' B' S' → Same B B' → D.bk σ' H'
  | .ct S' => ∀ σ' H' B', Rep C σ' H' B' S' → Same B B' → D.ct σ' H'
def SSt (C : Ct K n) (t : TS) (f : VS) : Prop := ∀ (σ : L2.St) (H B : Hp) (S : SS) (D : Ends), Rep C σ H B S → Post C (f S) (FlPost C B D) → t D σ H
/-! ### the state under changes -/
section
variable {C : Ct K n} {σ : L2.St} {H B : Hp} {S : SS}
theorem Rep.own_at (R : Rep C σ H B S) {i : Nat} {s : SV} (h : S[i]? = some (some s)) (m : s.mine = true) : ∃ a o, σ[i]? = some (some (.ref a)) ∧ H a = some o ∧ B a = none := by
  obtain ⟨v, hv, r⟩ := R.slot i s h
  cases s with
  | dat d => cases m
  | scr ns => cases m
  | own ds =>
    obtain ⟨a, vs, rfl, h1, h2, _⟩ := r
    exact ⟨a, _, hv, h1, h2⟩
  | dic ds =>
    obtain ⟨a, vs, rfl, h1, h2, _⟩ := r
    exact ⟨a, _, hv, h1, h2⟩
theorem Rep.new (R : Rep C σ H B S) {p : Addr} (hp : H p = none) : C.H0 p = none ∧ B p = none ∧ p ∉ C.bx := by
  have nb : p ∉ C.bx := fun hb => by
    obtain ⟨i, hi⟩ := List.getElem?_of_mem hb
    obtain ⟨e, s, hs, m⟩ := R.box i p hi
    obtain ⟨a, o, e2, h2, _⟩ := R.own_at hs m
    rw [e] at e2
    cases e2
    rw [hp] at h2
    cases h2
  refine ⟨?_, ?_, nb⟩
  · cases q : C.H0 p with
    | none => rfl
    | some o =>
      rw [R.base.keep p o nb q] at hp
      cases hp
  · cases q : B p with
    | none => rfl
    | some o =>
      rw [R.base.bh p o q] at hp
      cases hp
theorem dpks_mono {B B' : Hp} (e : Same B B') : ∀ {ws : List (Key × V)} {ks : List (Key × PyData)}, DpKs K B ws ks → DpKs K B' ws ks
  | _, _, .nil => .nil
  | _, _, .cons h t => .cons ⟨h.1, da_mono e h.2⟩ (dpks_mono e t)
theorem SR.mono {H' B' : Hp} {v : V} {s : SV} (eB : Same B B') (hh : s.mine = true → ∀ a, v = .ref a → ∀ o, H a = some o → B a = none → H' a = some o ∧ B' a = none) (h : SR C H B v s) : SR C H' B' v s := by
  cases s with
  | dat d => exact da_mono eB h
  | scr ns =>
    obtain ⟨a, e, q⟩ := h
    exact ⟨a, e, sm_l eB q⟩
  | own ds =>
    obtain ⟨a, vs, rfl, h1, h2, h3⟩ := h
    obtain ⟨q1, q2⟩ := hh rfl a rfl _ h1 h2
    exact ⟨a, vs, rfl, q1, q2, daa_mono eB h3⟩
  | dic ds =>
    obtain ⟨a, vs, rfl, h1, h2, h3⟩ := h
    obtain ⟨q1, q2⟩ := hh rfl a rfl _ h1 h2
    exact ⟨a, vs, rfl, q1, q2, dpks_mono eB h3⟩
/-- the heaps grow (or change where nothing of ours stands) -/
theorem Rep.grow {H' B' : Hp} (R : Rep C σ H B S) (b : Base C H' B') (eB : Same B B') (hh : ∀ a o, H a = some o → B a = none → (∃ i : Nat, ∃ s, S[i]? = some (some s) ∧ s.mine = true ∧ σ[i]? = some (some (.ref a))) → H' a = some o ∧ B' a = none) : Rep C σ H' B' S :=
  ⟨b, R.len, fun i s h => by
    obtain ⟨v, hv, r⟩ := R.slot i s h
    exact ⟨v, hv, SR.mono eB (fun m a e o h1 h2 => hh a o h1 h2 ⟨i, s, h, m, by rw [hv, e]⟩) r⟩, R.dis, R.ownf, R.box⟩
/-- a new thing that stays -/
theorem Rep.laid (R : Rep C σ H B S) {p : Addr} {o : HO} (hp : H p = none) : Rep C σ (upd H p o) (upd B p o) S ∧ Same B (upd B p o) := by
  obtain ⟨h0, hb, nb⟩ := R.new hp
  have eB : Same B (upd B p o) := sm_new hb
  refine ⟨R.grow ⟨fun a u n q => ?_, R.base.b0.trans eB, fun a u q => ?_, fun a u q => ?_⟩ eB fun a u h1 h2 _ => ?_, eB⟩
  · rw [upd_ne (ne_of_none q h0)]
    exact R.base.keep a u n q
  · by_cases e : a = p
    · subst e
      rw [upd_same] at q ⊢
      exact q
    · rw [upd_ne e] at q ⊢
      exact R.base.bh a u q
  · by_cases e : a = p
    · subst e
      exact .inr h0
    · rw [upd_ne e] at q
      exact R.base.fr a u q
  · have n := ne_of_none h1 hp
    rw [upd_ne n, upd_ne n]
    exact ⟨h1, h2⟩
/-- a new thing that does not stay (it may be taken by a slot) -/
theorem Rep.loose (R : Rep C σ H B S) {p : Addr} {o : HO} (hp : H p = none) : Rep C σ (upd H p o) B S := by
  obtain ⟨h0, hb, nb⟩ := R.new hp
  refine R.grow ⟨fun a u n q => ?_, R.base.b0, fun a u q => ?_, R.base.fr⟩ (Same.refl _) fun a u h1 h2 _ => ?_
  · rw [upd_ne (ne_of_none q h0)]
    exact R.base.keep a u n q
  · rw [upd_ne (ne_of_none q hb)]
    exact R.base.bh a u q
  · rw [upd_ne (ne_of_none h1 hp)]
    exact ⟨h1, h2⟩
/-- a slot is stored: data -/
theorem Rep.put (R : Rep C σ H B S) {i : Nat} {v : V} {d : PyData} (hb : n ≤ i) (h : Da K B v d) : Rep C (σ.set i (some v)) H B (S.set i (some (.dat d))) := by
  have ne : ∀ j s, (S.set i (some (.dat d)))[j]? = some (some s) → s.mine = true → j ≠ i ∧ S[j]? = some (some s) := fun j s h m => by
    by_cases e : j = i
    · subst e
      have hl : j < S.length := by
        have := (List.getElem?_eq_some_iff.mp h).1
        simpa using this
      rw [List.getElem?_set_self hl] at h
      cases h
      cases m
    · rw [List.getElem?_set_ne (Ne.symm e)] at h
      exact ⟨e, h⟩
  refine ⟨R.base, by simp [R.len], fun j s h2 => ?_, fun j k s u a h1 h2 m1 m2 e1 e2 => ?_, fun j s a h1 m e => ?_, fun j a h1 => ?_⟩
  · by_cases e : j = i
    · subst e
      have hl : j < S.length := by
        have := (List.getElem?_eq_some_iff.mp h2).1
        simpa using this
      rw [List.getElem?_set_self hl] at h2
      cases h2
      exact ⟨v, List.getElem?_set_self (by rw [← R.len]; exact hl), h⟩
    · rw [List.getElem?_set_ne (Ne.symm e)] at h2 ⊢
      exact R.slot j s h2
  · obtain ⟨n1, q1⟩ := ne j s h1 m1
    obtain ⟨n2, q2⟩ := ne k u h2 m2
    rw [List.getElem?_set_ne (Ne.symm n1)] at e1
    rw [List.getElem?_set_ne (Ne.symm n2)] at e2
    exact R.dis j k s u a q1 q2 m1 m2 e1 e2
  · obtain ⟨n1, q1⟩ := ne j s h1 m
    rw [List.getElem?_set_ne (Ne.symm n1)] at e
    exact R.ownf j s a q1 m e
  · have n1 : j ≠ i := by
      have := (List.getElem?_eq_some_iff.mp h1).1
      have := C.hbx
      omega
    rw [List.getElem?_set_ne (Ne.symm n1), List.getElem?_set_ne (Ne.symm n1)]
    exact R.box j a h1
/-- a slot takes a new list or dict -/
theorem Rep.take (R : Rep C σ H B S) {i : Nat} {p : Addr} {s : SV} (hb : n ≤ i) (m : s.mine = true) (h : SR C H B (.ref p) s) (h0 : C.H0 p = none)
    (hf : ∀ (j : Nat) u, S[j]? = some (some u) → u.mine = true → σ[j]? ≠ some (some (.ref p))) : Rep C (σ.set i (some (.ref p))) H B (S.set i (some s)) := by
  have at_ : ∀ j u, (S.set i (some s))[j]? = some (some u) → (j = i ∧ u = s ∧ (σ.set i (some (.ref p)))[j]? = some (some (.ref p))) ∨ (j ≠ i ∧ S[j]? = some (some u) ∧ (σ.set i (some (.ref p)))[j]? = σ[j]?) := fun j u h => by
    by_cases e : j = i
    · subst e
      have hl : j < S.length := by
        have := (List.getElem?_eq_some_iff.mp h).1
        simpa using this
      rw [List.getElem?_set_self hl] at h
      cases h
      exact .inl ⟨rfl, rfl, List.getElem?_set_self (by rw [← R.len]; exact hl)⟩
    · rw [List.getElem?_set_ne (Ne.symm e)] at h
      exact .inr ⟨e, h, List.getElem?_set_ne (Ne.symm e)⟩
  refine ⟨R.base, by simp [R.len], fun j u h2 => ?_, fun j k u w a h1 h2 m1 m2 e1 e2 => ?_, fun j u a h1 m e => ?_, fun j a h1 => ?_⟩
  · rcases at_ j u h2 with ⟨e, e2, e3⟩ | ⟨n, q, e3⟩
    · subst e2
      exact ⟨_, e3, h⟩
    · rw [e3]
      exact R.slot j u q
  · rcases at_ j u h1 with ⟨x1, x2, x3⟩ | ⟨x1, x2, x3⟩
    · rcases at_ k w h2 with ⟨y1, y2, y3⟩ | ⟨y1, y2, y3⟩
      · rw [x1, y1]
      · rw [x3] at e1
        cases e1
        rw [y3] at e2
        exact absurd e2 (hf k w y2 m2)
    · rcases at_ k w h2 with ⟨y1, y2, y3⟩ | ⟨y1, y2, y3⟩
      · rw [y3] at e2
        cases e2
        rw [x3] at e1
        exact absurd e1 (hf j u x2 m1)
      · rw [x3] at e1
        rw [y3] at e2
        exact R.dis j k u w a x2 y2 m1 m2 e1 e2
  · rcases at_ j u h1 with ⟨x1, x2, x3⟩ | ⟨x1, x2, x3⟩
    · rw [x3] at e
      cases e
      exact .inl h0
    · rw [x3] at e
      exact R.ownf j u a x2 m e
  · have n1 : j ≠ i := by
      have := (List.getElem?_eq_some_iff.mp h1).1
      have := C.hbx
      omega
    rw [List.getElem?_set_ne (Ne.symm n1), List.getElem?_set_ne (Ne.symm n1)]
    exact R.box j a h1
/-- a list or dict of a slot is changed -/
theorem Rep.write (R : Rep C σ H B S) {i : Nat} {a : Addr} {s s' : SV} {o : HO} (h : S[i]? = some (some s)) (m : s.mine = true) (m' : s'.mine = true) (hv : σ[i]? = some (some (.ref a))) (r : SR C (upd H a o) B (.ref a) s') :
    Rep C σ (upd H a o) B (S.set i (some s')) := by
  obtain ⟨a', o', e1, e2, e3⟩ := R.own_at h m
  rw [hv] at e1
  cases e1
  have hl : i < S.length := (List.getElem?_eq_some_iff.mp h).1
  have at_ : ∀ j u, (S.set i (some s'))[j]? = some (some u) → (j = i ∧ u = s') ∨ (j ≠ i ∧ S[j]? = some (some u)) := fun j u h => by
    by_cases e : j = i
    · subst e
      rw [List.getElem?_set_self hl] at h
      cases h
      exact .inl ⟨rfl, rfl⟩
    · rw [List.getElem?_set_ne (Ne.symm e)] at h
      exact .inr ⟨e, h⟩
  have old : ∀ (j : Nat) (u : SV), (S.set i (some s'))[j]? = some (some u) → u.mine = true → ∃ u' : SV, S[j]? = some (some u') ∧ u'.mine = true := fun j u h2 m2 => by
    rcases at_ j u h2 with ⟨x1, x2⟩ | ⟨x1, x2⟩
    · subst x1
      exact ⟨s, h, m⟩
    · exact ⟨u, x2, m2⟩
  refine ⟨⟨fun b u n q => ?_, R.base.b0, fun b u q => ?_, R.base.fr⟩, by simp [R.len], fun j u h2 => ?_, fun j k u w b h1 h2 m1 m2 q1 q2 => ?_, fun j u b h1 m e => ?_, fun j b h1 => ?_⟩
  · have : b ≠ a := by
      rintro rfl
      rcases R.ownf i s b h m hv with z | z
      · rw [z] at q
        cases q
      · exact n (List.mem_of_getElem? z)
    rw [upd_ne this]
    exact R.base.keep b u n q
  · rw [upd_ne (ne_of_none q e3)]
    exact R.base.bh b u q
  · rcases at_ j u h2 with ⟨x1, x2⟩ | ⟨x1, x2⟩
    · subst x1 x2
      exact ⟨_, hv, r⟩
    · obtain ⟨v, q1, q2⟩ := R.slot j u x2
      refine ⟨v, q1, SR.mono (Same.refl _) (fun mu b e ob h1 h2 => ⟨?_, h2⟩) q2⟩
      rw [upd_ne]
      · exact h1
      · rintro rfl
        exact x1 (R.dis j i u s b x2 h mu m (by rw [q1, e]) hv)
  · obtain ⟨u', z1, z2⟩ := old j u h1 m1
    obtain ⟨w', z3, z4⟩ := old k w h2 m2
    exact R.dis j k u' w' b z1 z3 z2 z4 q1 q2
  · obtain ⟨u', z1, z2⟩ := old j u h1 m
    exact R.ownf j u' b z1 z2 e
  · obtain ⟨q1, u, q2, q3⟩ := R.box j b h1
    refine ⟨q1, ?_⟩
    by_cases e : j = i
    · subst e
      exact ⟨s', List.getElem?_set_self hl, m'⟩
    · rw [List.getElem?_set_ne (Ne.symm e)]
      exact ⟨u, q2, q3⟩
/-- a list of a slot stays from here on -/
theorem Rep.rest (R : Rep C σ H B S) {i : Nat} {ds : List PyData} (hb : n ≤ i) (h : S[i]? = some (some (.own ds))) : ∃ B', Rep C σ H B' (S.set i (some (.dat (.list ds)))) ∧ Same B B' := by
  obtain ⟨v, hv, a, vs, rfl, h1, h2, h3⟩ := R.slot i _ h
  have hl : i < S.length := (List.getElem?_eq_some_iff.mp h).1
  have eB : Same B (upd B a (.lst vs)) := sm_new h2
  refine ⟨upd B a (.lst vs), ⟨⟨R.base.keep, R.base.b0.trans eB, fun b o q => ?_, fun b o q => ?_⟩, by simp [R.len], fun j s hj => ?_, fun j k s u b q1 q2 m1 m2 e1 e2 => ?_, fun j s b q m e => ?_, fun j b q => ?_⟩, eB⟩
  · by_cases e : b = a
    · subst e
      rw [upd_same] at q
      cases q
      exact h1
    · rw [upd_ne e] at q
      exact R.base.bh b o q
  · by_cases e : b = a
    · subst e
      rcases R.ownf i _ b h rfl hv with z | z
      · exact .inr z
      · have := (List.getElem?_eq_some_iff.mp z).1
        have := C.hbx
        omega
    · rw [upd_ne e] at q
      exact R.base.fr b o q
  · by_cases e : j = i
    · subst e
      rw [List.getElem?_set_self hl] at hj
      cases hj
      exact ⟨_, hv, .lst (upd_same) (daa_mono eB h3)⟩
    · rw [List.getElem?_set_ne (Ne.symm e)] at hj
      obtain ⟨v, q1, q2⟩ := R.slot j s hj
      refine ⟨v, q1, SR.mono eB (fun mu b e2 ob z1 z2 => ⟨z1, ?_⟩) q2⟩
      rw [upd_ne]
      · exact z2
      · rintro rfl
        exact e (R.dis j i s _ b hj h mu rfl (by rw [q1, e2]) hv)
  · have n1 : j ≠ i := fun e => by
      subst e
      rw [List.getElem?_set_self hl] at q1
      cases q1
      cases m1
    have n2 : k ≠ i := fun e => by
      subst e
      rw [List.getElem?_set_self hl] at q2
      cases q2
      cases m2
    rw [List.getElem?_set_ne (Ne.symm n1)] at q1
    rw [List.getElem?_set_ne (Ne.symm n2)] at q2
    exact R.dis j k s u b q1 q2 m1 m2 e1 e2
  · have n1 : j ≠ i := fun e => by
      subst e
      rw [List.getElem?_set_self hl] at q
      cases q
      cases m
    rw [List.getElem?_set_ne (Ne.symm n1)] at q
    exact R.ownf j s b q m e
  · have n1 : j ≠ i := by
      have := (List.getElem?_eq_some_iff.mp q).1
      have := C.hbx
      omega
    obtain ⟨q1, u, q2, q3⟩ := R.box j b q
    exact ⟨q1, u, by rw [List.getElem?_set_ne (Ne.symm n1)]; exact q2, q3⟩
end
end
end Bo

/-! ### expressions -/
namespace Bo
open PySem L2
section
variable {K : PySem.W.Frag} {n : Nat} {C : Ct K n} {σ : L2.St} {H B : Hp} {S : SS}
/-! names, constants -/
def vVar (i : Nat) : VE := fun S => match S[i]? with
  | some (some (.dat d)) => .ok (d, S)
  | _ => .bad
theorem s_var {i : Nat} : SE C (tVar i) (vVar i) := by
  intro σ H B S Q R h
  unfold vVar at h
  split at h
  · rename_i d e
    obtain ⟨v, hv, r⟩ := R.slot i _ e
    exact ⟨v, hv, h v H B R (Same.refl _) r⟩
  · exact h.elim
def vC (d : PyData) : VE := fun S => .ok (d, S)
theorem s_int {m : Int} : SE C (tC (.int m)) (vC (.int m)) := fun _ H B _ _ R h => h _ H B R (Same.refl _) (.int m)
theorem s_bl {b : Bool} : SE C (tC (.bl b)) (vC (.bool b)) := fun _ H B _ _ R h => h _ H B R (Same.refl _) (.bl b)
theorem s_str {x : Str} : SE C (tC (.str x)) (vC (.str x)) := fun _ H B _ _ R h => h _ H B R (Same.refl _) (.str x)
/-! operators -/
def SR2 (C : Ct K n) (r : R2) (g : PyData → PyData → R PyData) : Prop := ∀ (σ : L2.St) (H B : Hp) (S : SS) (x y : V) (d e : PyData) (Q : VK), Rep C σ H B S → Da K B x d → Da K B y e →
  Post C (g d e) (fun z => ∀ v H' B', Rep C σ H' B' S → Same B B' → Da K B' v z → Q v H') → r x y H Q
def vOp (g : PyData → PyData → R PyData) (fa fb : VE) : VE := fun S => (fa S).bind fun p => (fb p.2).bind fun q => (g p.1 q.1).bind fun z => .ok (z, q.2)
theorem s_op {r : R2} {g : PyData → PyData → R PyData} {ta tb : TE} {fa fb : VE} (hr : SR2 C r g) (ha : SE C ta fa) (hb : SE C tb fb) : SE C (tOp r ta tb) (vOp g fa fb) := by
  intro σ H B S Q R h
  unfold vOp at h
  rw [post_bind] at h
  refine ha σ H B S _ R (h.mono fun p h1 v H1 B1 R1 e1 d1 => ?_)
  rw [post_bind] at h1
  refine hb σ H1 B1 p.2 _ R1 (h1.mono fun q h2 w H2 B2 R2 e2 d2 => ?_)
  rw [post_bind] at h2
  exact hr σ H2 B2 q.2 v w p.1 q.1 Q R2 (da_mono e2 d1) d2 (h2.mono fun z h3 u H3 B3 R3 e3 d3 => h3 u H3 B3 R3 (e1.trans (e2.trans e3)) d3)
def gI (f : Int → Int → Int) : PyData → PyData → R PyData
  | .int i, .int j => .ok (.int (f i j))
  | _, _ => .bad
def gIC (c : Int → Int → Bool) (f : Int → Int → Int) : PyData → PyData → R PyData
  | .int i, .int j => R.when (c i j = true) (.ok (.int (f i j)))
  | _, _ => .bad
def gIB (f : Int → Int → Bool) : PyData → PyData → R PyData
  | .int i, .int j => .ok (.bool (f i j))
  | _, _ => .bad
theorem o_i0 {f : Int → Int → Int} : SR2 C (rI0 fun i j => .int (f i j)) (gI f) := by
  intro σ H B S x y d e Q R h1 h2 h
  cases h1 <;> cases h2 <;> first | exact h.elim | exact ⟨_, _, rfl, rfl, h _ H B R (Same.refl _) (.int _)⟩
theorem o_ib {f : Int → Int → Bool} : SR2 C (rI0 fun i j => .bl (f i j)) (gIB f) := by
  intro σ H B S x y d e Q R h1 h2 h
  cases h1 <;> cases h2 <;> first | exact h.elim | exact ⟨_, _, rfl, rfl, h _ H B R (Same.refl _) (.bl _)⟩
theorem o_ic {c : Int → Int → Bool} {p : Int → Int → Prop} {f : Int → Int → Int} (hc : ∀ i j, c i j = true → p i j) : SR2 C (rI p fun i j => .int (f i j)) (gIC c f) := by
  intro σ H B S x y d e Q R h1 h2 h
  cases h1 <;> cases h2 <;> first
    | exact h.elim
    | (obtain ⟨k, h⟩ := post_when.mp h
       exact ⟨_, _, rfl, rfl, hc _ _ k, h _ H B R (Same.refl _) (.int _)⟩)
/-- a product, neither factor too long -/
def cMul (i j : Int) : Bool := decide (i.natAbs < 2 ^ 400000 ∧ j.natAbs < 2 ^ 400000)
def cFdiv (_ j : Int) : Bool := decide (j ≠ 0 ∧ j.natAbs < 2 ^ 8999)
def cMod (_ j : Int) : Bool := decide (j ≠ 0)
theorem lg_lt {m k : Nat} (h : m < 2 ^ k) (hk : 0 < k) : m.log2 < k := by
  by_cases e : m = 0
  · subst e
    exact hk
  · exact (Nat.log2_lt e).mpr h
theorem o_fdiv : SR2 C (rI CDivX fun i j => .int (i.fdiv j)) (gIC cFdiv Int.fdiv) := o_ic fun i j h => by
  obtain ⟨h1, h2⟩ := of_decide_eq_true h
  exact ⟨h1, Nat.lt_trans (lg_lt h2 (by decide)) (by decide)⟩
theorem o_mod : SR2 C (rI (fun _ j => j ≠ 0) fun i j => .int (i.fmod j)) (gIC cMod Int.fmod) := o_ic fun i j h => of_decide_eq_true h
/-- == of plain values -/
def eqF : PyData → PyData → Option Bool
  | .int i, .int j => some (decide (i = j))
  | .bool i, .bool j => some (decide (i = j))
  | .str i, .str j => some (decide (i = j))
  | .none, .none => some true
  | .none, .int _ => some false
  | .int _, .none => some false
  | .none, .bool _ => some false
  | .bool _, .none => some false
  | .none, .str _ => some false
  | .str _, .none => some false
  | .int _, .str _ => some false
  | .str _, .int _ => some false
  | .bool _, .str _ => some false
  | .str _, .bool _ => some false
  | _, _ => none
def gEq (d e : PyData) : R PyData := match eqF d e with
  | some b => .ok (.bool b)
  | none => .bad
def gNe (d e : PyData) : R PyData := match eqF d e with
  | some b => .ok (.bool (!b))
  | none => .bad
theorem eqF_ok {x y : V} {d e : PyData} {b : Bool} (h1 : Da K B x d) (h2 : Da K B y e) (h : eqF d e = some b) : scal x y = true ∧ decide (x = y) = b := by
  cases h1 <;> cases h2 <;> first
    | (cases h; done)
    | (cases (Option.some.inj h); exact ⟨rfl, by simp⟩)
theorem o_eq : SR2 C rEq gEq := by
  intro σ H B S x y d e Q R h1 h2 h
  unfold gEq at h
  split at h
  · rename_i b q
    obtain ⟨k, k2⟩ := eqF_ok h1 h2 q
    exact ⟨k, by rw [k2]; exact h _ H B R (Same.refl _) (.bl _)⟩
  · exact h.elim
theorem o_ne : SR2 C rNe gNe := by
  intro σ H B S x y d e Q R h1 h2 h
  unfold gNe at h
  split at h
  · rename_i b q
    obtain ⟨k, k2⟩ := eqF_ok h1 h2 q
    exact ⟨k, by rw [k2]; exact h _ H B R (Same.refl _) (.bl _)⟩
  · exact h.elim
def isNone : PyData → Bool
  | .none => true
  | _ => false
/-- == of deep data -/
def gEqD (d e : PyData) : R PyData := R.when (SeqAt.shaped d = true ∧ SeqAt.shaped e = true) (.ok (.bool (PyData.eqv d e)))
def gNeD (d e : PyData) : R PyData := R.when (SeqAt.shaped d = true ∧ SeqAt.shaped e = true) (.ok (.bool (!PyData.eqv d e)))
theorem o_eqD : SR2 C (rEqD K) gEqD := by
  intro σ H B S x y d e Q R h1 h2 h
  obtain ⟨⟨k1, k2⟩, h⟩ := post_when.mp h
  exact ⟨d, e, da_dp (da_mono R.base.bh h1), da_dp (da_mono R.base.bh h2), k1, k2, h _ H B R (Same.refl _) (.bl _)⟩
/-- x in a sequence of plain values -/
def flatD : PyData → Bool
  | .none => true
  | .bool _ => true
  | .int _ => true
  | .str _ => true
  | _ => false
def eqP : PyData → PyData → Bool
  | .int i, .int j => decide (i = j)
  | .bool i, .bool j => decide (i = j)
  | .str i, .str j => decide (i = j)
  | .none, .none => true
  | .int i, .bool b => decide (i = if b then 1 else 0)
  | .bool b, .int i => decide ((if b then 1 else 0) = i)
  | _, _ => false
def inD (d : PyData) (ds : List PyData) : Bool := ds.any fun e => eqP e d
def itemsD : PyData → Option (List PyData)
  | .list ds => some ds
  | .tuple ds => some ds
  | _ => none
def gIn (neg : Bool) (d e : PyData) : R PyData := match itemsD e with
  | some ds => R.when (flatD d = true ∧ ds.all flatD = true) (.ok (.bool (if neg then !inD d ds else inD d ds)))
  | none => .bad
theorem flat_v {x : V} {d : PyData} (h : Da K B x d) (f : flatD d = true) : flatV x = true := by
  cases h <;> first | rfl | (cases f; done)
theorem eq_v {x y : V} {d e : PyData} (h : Da K B x d) (h2 : Da K B y e) (f : flatD d = true) (f2 : flatD e = true) : eqV x y = eqP d e := by
  cases h <;> first | (cases f; done) | (cases h2 <;> first | (cases f2; done) | rfl | simp [eqV, eqP])
theorem flats_v : ∀ {xs : List V} {ds : List PyData}, DaAll K B xs ds → ds.all flatD = true → xs.all flatV = true
  | _, _, .nil, _ => rfl
  | _, _, .cons h t, f => by
    rw [List.all_cons, Bool.and_eq_true] at f ⊢
    exact ⟨flat_v h f.1, flats_v t f.2⟩
theorem in_v {x : V} {d : PyData} (h : Da K B x d) (f : flatD d = true) : ∀ {xs : List V} {ds : List PyData}, DaAll K B xs ds → ds.all flatD = true → inV x xs = inD d ds
  | _, _, .nil, _ => rfl
  | _, _, .cons g t, q => by
    rw [List.all_cons, Bool.and_eq_true] at q
    show (eqV _ x || inV x _) = (eqP _ d || inD d _)
    rw [eq_v g h q.1 f, in_v h f t q.2]
theorem seq_of {y : V} {e : PyData} {ds : List PyData} (h : Da K B y e) (q : itemsD e = some ds) : ∃ p xs, y = .ref p ∧ (SqL K B p xs ∨ SqT K B p xs) ∧ DaAll K B xs ds := by
  cases h with
  | lst s a => cases (Option.some.inj q); exact ⟨_, _, rfl, .inl (SqL.of s), a⟩
  | tup s a => cases (Option.some.inj q); exact ⟨_, _, rfl, .inr s, a⟩
  | non => exact nomatch q
  | bl b => exact nomatch q
  | int i => exact nomatch q
  | str x => exact nomatch q
theorem seq_up {H : Hp} {p : Addr} {xs : List V} (e : Same B H) (h : SqL K B p xs ∨ SqT K B p xs) : SqL K H p xs ∨ SqT K H p xs := h.imp (sm_l e) (sm_t e)
theorem o_in {neg : Bool} : SR2 C (rIn K neg) (gIn neg) := by
  intro σ H B S x y d e Q R h1 h2 h
  unfold gIn at h
  split at h
  · rename_i ds q
    obtain ⟨⟨k1, k2⟩, h⟩ := post_when.mp h
    obtain ⟨p, xs, rfl, sq, da⟩ := seq_of h2 q
    refine ⟨p, xs, rfl, seq_up R.base.bh sq, flat_v h1 k1, flats_v da k2, ?_⟩
    rw [in_v h1 k1 da k2]
    exact h _ H B R (Same.refl _) (.bl _)
  · exact h.elim
/-- an item -/
def ixD (ds : List PyData) (i : Int) : R PyData := match atI ds i with
  | some d => .ok d
  | none => .bad
def gIxL : PyData → PyData → R PyData
  | .list ds, .int i => ixD ds i
  | _, _ => .bad
def gIxT : PyData → PyData → R PyData
  | .tuple ds, .int i => ixD ds i
  | _, _ => .bad
theorem at_da {xs : List V} {ds : List PyData} {i : Int} {d : PyData} (a : DaAll K B xs ds) (h : atI ds i = some d) : ∃ v, atI xs i = some v ∧ Da K B v d := by
  unfold atI at h ⊢
  rw [daa_len a]
  cases e : ixN ds.length i with
  | none => rw [e] at h; exact nomatch h
  | some j =>
    rw [e] at h
    exact daa_get a h
theorem o_ixL : SR2 C (rIxL K) gIxL := by
  intro σ H B S x y d e Q R h1 h2 h
  cases h1 with
  | lst s a =>
    cases h2 with
    | int i =>
      unfold gIxL ixD at h
      simp only at h
      split at h
      · rename_i z q
        obtain ⟨v, hv, dv⟩ := at_da a q
        exact ⟨_, _, _, v, rfl, rfl, SqL.of (R.base.bh _ _ s), hv, h v H B R (Same.refl _) dv⟩
      · exact h.elim
    | _ => exact h.elim
  | _ => exact h.elim
theorem o_ixT : SR2 C (rIxT K) gIxT := by
  intro σ H B S x y d e Q R h1 h2 h
  cases h1 with
  | tup s a =>
    cases h2 with
    | int i =>
      unfold gIxT ixD at h
      simp only at h
      split at h
      · rename_i z q
        obtain ⟨v, hv, dv⟩ := at_da a q
        exact ⟨_, _, _, v, rfl, rfl, sm_t R.base.bh s, hv, h v H B R (Same.refl _) dv⟩
      · exact h.elim
    | _ => exact h.elim
  | _ => exact h.elim
/-- + of lists, of tuples -/
def gCat : PyData → PyData → R PyData
  | .list ds, .list es => R.when (ds.length + es.length ≤ 100000) (.ok (.list (ds ++ es)))
  | _, _ => .bad
def gCatT : PyData → PyData → R PyData
  | .tuple ds, .tuple es => R.when (ds.length + es.length ≤ 100000) (.ok (.tuple (ds ++ es)))
  | _, _ => .bad
theorem line_le {m : Nat} (h : m ≤ 100000) : m ≤ sizeLine := Nat.le_trans h (by decide)
/-- a new list, a new tuple that stays -/
theorem Rep.lst (R : Rep C σ H B S) {p : Addr} {xs : List V} {ds : List PyData} (hp : H p = none) (a : DaAll K B xs ds) : ∃ B', Rep C σ (upd H p (.lst xs)) B' S ∧ Same B B' ∧ Da K B' (.ref p) (.list ds) := by
  obtain ⟨R1, e⟩ := R.laid (o := .lst xs) hp
  exact ⟨_, R1, e, .lst upd_same (daa_mono e a)⟩
theorem Rep.tup (R : Rep C σ H B S) {p : Addr} {xs : List V} {ds : List PyData} (hp : H p = none) (a : DaAll K B xs ds) : ∃ B', Rep C σ (upd H p (.tup xs)) B' S ∧ Same B B' ∧ Da K B' (.ref p) (.tuple ds) := by
  obtain ⟨R1, e⟩ := R.laid (o := .tup xs) hp
  exact ⟨_, R1, e, .tup (SqT.of upd_same) (daa_mono e a)⟩
theorem o_cat : SR2 C rCat gCat := by
  intro σ H B S x y d e Q R h1 h2 h
  cases h1 with
  | lst s a =>
    cases h2 with
    | lst s2 a2 =>
      obtain ⟨k, h⟩ := post_when.mp h
      refine ⟨_, _, _, _, rfl, rfl, R.base.bh _ _ s, R.base.bh _ _ s2, line_le (by rw [daa_len a, daa_len a2]; exact k), fun p hp => ?_⟩
      obtain ⟨B', R1, e1, d1⟩ := R.lst hp (daa_app a a2)
      exact h _ _ B' R1 e1 d1
    | _ => exact h.elim
  | _ => exact h.elim
theorem o_catT : SR2 C (rCatA K) gCatT := by
  intro σ H B S x y d e Q R h1 h2 h
  cases h1 with
  | tup s a =>
    cases h2 with
    | tup s2 a2 =>
      obtain ⟨k, h⟩ := post_when.mp h
      have l1 := daa_len a
      have l2 := daa_len a2
      refine ⟨_, _, _, _, rfl, rfl, sm_t R.base.bh s, sm_t R.base.bh s2, line_le (by rw [l1, l2]; exact k), fun e => ?_, fun _ e => ?_, fun _ _ p hp => ?_⟩
      · subst e
        cases a
        exact h _ H B R (Same.refl _) (.tup s2 a2)
      · subst e
        cases a2
        refine h _ H B R (Same.refl _) (.tup s ?_)
        rw [List.append_nil]
        exact a
      · obtain ⟨B', R1, e1, d1⟩ := R.tup hp (daa_app a a2)
        exact h _ _ B' R1 e1 d1
    | _ => exact h.elim
  | _ => exact h.elim
/-! one-place operators -/
def vUn (g : PyData → R PyData) (fa : VE) : VE := fun S => (fa S).bind fun p => (g p.1).bind fun z => .ok (z, p.2)
def gNeg : PyData → R PyData
  | .int i => .ok (.int (-i))
  | _ => .bad
theorem s_neg {ta : TE} {fa : VE} (ha : SE C ta fa) : SE C (tUn (rU fun i => .int (-i)) ta) (vUn gNeg fa) := by
  intro σ H B S Q R h
  unfold vUn at h
  rw [post_bind] at h
  refine ha σ H B S _ R (h.mono fun p h1 v H1 B1 R1 e1 d1 => ?_)
  rw [post_bind] at h1
  generalize p.1 = d at d1 h1
  cases d1 <;> first | exact h1.elim | exact ⟨_, rfl, h1 _ H1 B1 R1 e1 (.int _)⟩
/-! bools -/
def toB : PyData → R Bool
  | .bool b => .ok b
  | _ => .bad
theorem bl_of {v : V} {d : PyData} {k : Bool → Prop} (h : Da K B v d) (q : Post C (toB d) k) : ∃ b, v = .bl b ∧ d = .bool b ∧ k b := by
  cases h <;> first | exact q.elim | exact ⟨_, rfl, rfl, q⟩
def vAnd (fa fb : VE) : VE := fun S => (fa S).bind fun p => (toB p.1).bind fun b => if b = true then fb p.2 else .ok (.bool false, p.2)
def vOr (fa fb : VE) : VE := fun S => (fa S).bind fun p => (toB p.1).bind fun b => if b = true then .ok (.bool true, p.2) else fb p.2
def vNot (fa : VE) : VE := fun S => (fa S).bind fun p => (toB p.1).bind fun b => .ok (.bool (!b), p.2)
theorem s_andV {ta tb : TE} {fa fb : VE} (ha : SE C ta fa) (hb : SE C tb fb) : SE C (tAndV ta tb) (vAnd fa fb) := by
  intro σ H B S Q R h
  unfold vAnd at h
  rw [post_bind] at h
  refine ha σ H B S _ R (h.mono fun p h1 v H1 B1 R1 e1 d1 => ?_)
  rw [post_bind] at h1
  obtain ⟨b, rfl, _, h1⟩ := bl_of d1 h1
  refine ⟨b, rfl, ?_⟩
  cases b with
  | true => exact hb σ H1 B1 p.2 Q R1 (h1.mono fun q h2 w H2 B2 R2 e2 d2 => h2 w H2 B2 R2 (e1.trans e2) d2)
  | false => exact h1 _ H1 B1 R1 e1 (.bl _)
/-! tests -/
def vTst (fa : VE) : VT := fun S => (fa S).bind fun p => (toB p.1).bind fun b => .ok (b, p.2)
theorem s_tst {ta : TE} {fa : VE} (ha : SE C ta fa) : ST C (tTest ta) (vTst fa) := by
  intro σ H B S Q R h
  unfold vTst at h
  rw [post_bind] at h
  refine ha σ H B S _ R (h.mono fun p h1 v H1 B1 R1 e1 d1 => ?_)
  rw [post_bind] at h1
  obtain ⟨b, rfl, _, h1⟩ := bl_of d1 h1
  exact ⟨b, rfl, h1 H1 B1 R1 e1⟩
theorem s_tB {ta : TE} {fa : VE} (ha : SE C ta fa) : ST C (tB ta) (vTst fa) := s_tst ha
def tNotF (fa : VT) : VT := fun S => (fa S).bind fun p => .ok (!p.1, p.2)
theorem s_not {ta : TT} {fa : VT} (ha : ST C ta fa) : ST C (tNot ta) (tNotF fa) := by
  intro σ H B S Q R h
  unfold tNotF at h
  rw [post_bind] at h
  exact ha σ H B S _ R (h.mono fun p h1 H1 B1 R1 e1 => h1 H1 B1 R1 e1)
def tAndF (fa fb : VT) : VT := fun S => (fa S).bind fun p => if p.1 = true then fb p.2 else .ok (false, p.2)
def tOrF (fa fb : VT) : VT := fun S => (fa S).bind fun p => if p.1 = true then .ok (true, p.2) else fb p.2
theorem s_and {ta tb : TT} {fa fb : VT} (ha : ST C ta fa) (hb : ST C tb fb) : ST C (tAnd ta tb) (tAndF fa fb) := by
  intro σ H B S Q R h
  unfold tAndF at h
  rw [post_bind] at h
  refine ha σ H B S _ R (h.mono fun p h1 H1 B1 R1 e1 => ?_)
  obtain ⟨c, S1⟩ := p
  cases c with
  | true => exact hb σ H1 B1 S1 Q R1 (Post.mono h1 fun q h2 H2 B2 R2 e2 => h2 H2 B2 R2 (e1.trans e2))
  | false => exact h1 H1 B1 R1 e1
theorem s_or {ta tb : TT} {fa fb : VT} (ha : ST C ta fa) (hb : ST C tb fb) : ST C (tOr ta tb) (tOrF fa fb) := by
  intro σ H B S Q R h
  unfold tOrF at h
  rw [post_bind] at h
  refine ha σ H B S _ R (h.mono fun p h1 H1 B1 R1 e1 => ?_)
  obtain ⟨c, S1⟩ := p
  cases c with
  | false => exact hb σ H1 B1 S1 Q R1 (Post.mono h1 fun q h2 H2 B2 R2 e2 => h2 H2 B2 R2 (e1.trans e2))
  | true => exact h1 H1 B1 R1 e1
/-- by truth -/
def truD : PyData → R Bool
  | .none => .ok false
  | .bool b => .ok b
  | .int i => .ok (i != 0)
  | .str x => R.when (x.length ≤ 100000) (.ok ((x.length : Int) != 0))
  | .list ds => .ok (!ds.isEmpty)
  | .tuple ds => .ok (!ds.isEmpty)
  | _ => .bad
def vTru (fa : VE) : VT := fun S => (fa S).bind fun p => (truD p.1).bind fun b => .ok (b, p.2)
/-! x if c else y -/
def vIf (fc : VT) (fa fb : VE) : VE := fun S => (fc S).bind fun p => if p.1 = true then fa p.2 else fb p.2
/-! a < b < c -/
def vChain (g g' : PyData → PyData → R PyData) (fa fb fc : VE) : VE := fun S => (fa S).bind fun p => (fb p.2).bind fun q => (g p.1 q.1).bind fun z => (toB z).bind fun b =>
  if b = true then (fc q.2).bind fun r => (g' q.1 r.1).bind fun z => .ok (z, r.2) else .ok (.bool false, q.2)
theorem s_chain {r r' : R2} {g g' : PyData → PyData → R PyData} {ta tb tc : TE} {fa fb fc : VE} (hr : SR2 C r g) (hr' : SR2 C r' g') (ha : SE C ta fa) (hb : SE C tb fb) (hc : SE C tc fc) : SE C (tChain r r' ta tb tc) (vChain g g' fa fb fc) := by
  intro σ H B S Q R h
  unfold vChain at h
  rw [post_bind] at h
  refine ha σ H B S _ R (h.mono fun p h1 v H1 B1 R1 e1 d1 => ?_)
  rw [post_bind] at h1
  refine hb σ H1 B1 p.2 _ R1 (h1.mono fun q h2 w H2 B2 R2 e2 d2 => ?_)
  rw [post_bind] at h2
  refine hr σ H2 B2 q.2 v w p.1 q.1 _ R2 (da_mono e2 d1) d2 (h2.mono fun z h3 u H3 B3 R3 e3 d3 => ?_)
  rw [post_bind] at h3
  obtain ⟨b, rfl, _, h3⟩ := bl_of d3 h3
  refine ⟨b, rfl, ?_⟩
  cases b with
  | false => exact h3 _ H3 B3 R3 (e1.trans (e2.trans e3)) (.bl _)
  | true =>
    replace h3 : Post C ((fc q.2).bind fun r => (g' q.1 r.1).bind fun z => .ok (z, r.2)) _ := h3
    rw [post_bind] at h3
    refine hc σ H3 B3 q.2 _ R3 (h3.mono fun r h4 w4 H4 B4 R4 e4 d4 => ?_)
    rw [post_bind] at h4
    exact hr' σ H4 B4 r.2 w w4 q.1 r.1 Q R4 (da_mono (e3.trans e4) d2) d4 (h4.mono fun z h5 u H5 B5 R5 e5 d5 => h5 u H5 B5 R5 (e1.trans (e2.trans (e3.trans (e4.trans e5)))) d5)
/-! argument lists, displays, calls -/
def vNil : VA := fun S => .ok ([], S)
def vCons (fa : VE) (fr : VA) : VA := fun S => (fa S).bind fun p => (fr p.2).bind fun q => .ok (p.1 :: q.1, q.2)
theorem s_nil : SA C tNil vNil := fun _ H B _ _ R h => h _ H B R (Same.refl _) .nil
theorem s_cons {ta : TE} {tr : TA} {fa : VE} {fr : VA} (ha : SE C ta fa) (hr : SA C tr fr) : SA C (tCons ta tr) (vCons fa fr) := by
  intro σ H B S Q R h
  unfold vCons at h
  rw [post_bind] at h
  refine ha σ H B S _ R (h.mono fun p h1 v H1 B1 R1 e1 d1 => ?_)
  rw [post_bind] at h1
  exact hr σ H1 B1 p.2 _ R1 (h1.mono fun q h2 w H2 B2 R2 e2 d2 => h2 _ H2 B2 R2 (e1.trans e2) (.cons (da_mono e2 d1) d2))
def vTup (fa : VA) : VE := fun S => (fa S).bind fun p => R.when (p.1.length ≤ 100000) (.ok (.tuple p.1, p.2))
def vLst (fa : VA) : VE := fun S => (fa S).bind fun p => R.when (p.1.length ≤ 100000) (.ok (.list p.1, p.2))
theorem s_tup {ta : TA} {fa : VA} (ha : SA C ta fa) : SE C (tTup ta) (vTup fa) := by
  intro σ H B S Q R h
  unfold vTup at h
  rw [post_bind] at h
  refine ha σ H B S _ R (h.mono fun p h1 vs H1 B1 R1 e1 d1 => ?_)
  obtain ⟨k, h1⟩ := post_when.mp h1
  refine ⟨line_le (by rw [daa_len d1]; exact k), fun a ha => ?_⟩
  obtain ⟨B', R2, e2, d2⟩ := R1.tup ha d1
  exact h1 _ _ B' R2 (e1.trans e2) d2
theorem s_lst {ta : TA} {fa : VA} (ha : SA C ta fa) : SE C (tLst ta) (vLst fa) := by
  intro σ H B S Q R h
  unfold vLst at h
  rw [post_bind] at h
  refine ha σ H B S _ R (h.mono fun p h1 vs H1 B1 R1 e1 d1 => ?_)
  obtain ⟨k, h1⟩ := post_when.mp h1
  refine ⟨line_le (by rw [daa_len d1]; exact k), fun a ha => ?_⟩
  obtain ⟨B', R2, e2, d2⟩ := R1.lst ha d1
  exact h1 _ _ B' R2 (e1.trans e2) d2
/-- a built-in, by values -/
def SCR (C : Ct K n) (r : List V → Hp → VK → Prop) (g : List PyData → R PyData) : Prop := ∀ (σ : L2.St) (H B : Hp) (S : SS) (xs : List V) (ds : List PyData) (Q : VK), Rep C σ H B S → DaAll K B xs ds →
  Post C (g ds) (fun z => ∀ v H' B', Rep C σ H' B' S → Same B B' → Da K B' v z → Q v H') → r xs H Q
def vCall (g : List PyData → R PyData) (fa : VA) : VE := fun S => (fa S).bind fun p => (g p.1).bind fun z => .ok (z, p.2)
theorem s_cb {r : List V → Hp → VK → Prop} {g : List PyData → R PyData} {ta : TA} {fa : VA} (hr : SCR C r g) (ha : SA C ta fa) : SE C (tCB r ta) (vCall g fa) := by
  intro σ H B S Q R h
  unfold vCall at h
  rw [post_bind] at h
  refine ha σ H B S _ R (h.mono fun p h1 vs H1 B1 R1 e1 d1 => ?_)
  rw [post_bind] at h1
  exact hr σ H1 B1 p.2 vs p.1 Q R1 d1 (h1.mono fun z h2 v H2 B2 R2 e2 d2 => h2 v H2 B2 R2 (e1.trans e2) d2)
def gLen : List PyData → R PyData
  | [.list ds] => .ok (.int ds.length)
  | [.tuple ds] => .ok (.int ds.length)
  | _ => .bad
theorem c_len : SCR C (fun xs H Q => ∃ p ys, xs = [.ref p] ∧ (SqL K H p ys ∨ SqT K H p ys) ∧ Q (.int ys.length) H) gLen := by
  intro σ H B S xs ds Q R d h
  cases d with
  | nil => exact h.elim
  | cons h1 t =>
    cases t with
    | cons h2 t => cases h1 <;> exact h.elim
    | nil =>
      cases h1 with
      | lst s a => exact ⟨_, _, rfl, .inl (SqL.of (R.base.bh _ _ s)), by rw [daa_len a]; exact h _ H B R (Same.refl _) (.int _)⟩
      | tup s a => exact ⟨_, _, rfl, .inr (sm_t R.base.bh s), by rw [daa_len a]; exact h _ H B R (Same.refl _) (.int _)⟩
      | _ => exact h.elim
def gInt : List PyData → R PyData
  | [.int i] => .ok (.int i)
  | [.bool b] => .ok (.int (if b then 1 else 0))
  | _ => .bad
theorem c_int : SCR C (fun xs H Q => (∃ i, xs = [.int i] ∧ Q (.int i) H) ∨ ∃ k, xs = [.bl k] ∧ Q (.int (if k then 1 else 0)) H) gInt := by
  intro σ H B S xs ds Q R d h
  cases d with
  | nil => exact h.elim
  | cons h1 t =>
    cases t with
    | cons h2 t => cases h1 <;> exact h.elim
    | nil => cases h1 <;> first | exact h.elim | exact .inl ⟨_, rfl, h _ H B R (Same.refl _) (.int _)⟩ | exact .inr ⟨_, rfl, h _ H B R (Same.refl _) (.int _)⟩
def gGcd : List PyData → R PyData
  | [.int i, .int j] => .ok (.int ((Nat.gcd i.natAbs j.natAbs : Nat) : Int))
  | _ => .bad
theorem c_gcd : SCR C rGcd gGcd := by
  intro σ H B S xs ds Q R d h
  cases d with
  | nil => exact h.elim
  | cons h1 t =>
    cases t with
    | nil => cases h1 <;> exact h.elim
    | cons h2 t =>
      cases t with
      | cons h3 t => cases h1 <;> first | exact h.elim | (cases h2 <;> exact h.elim)
      | nil => cases h1 <;> first | exact h.elim | (cases h2 <;> first | exact h.elim | exact ⟨_, _, rfl, h _ H B R (Same.refl _) (.int _)⟩)
def gTuple : List PyData → R PyData
  | [.list ds] => .ok (.tuple ds)
  | [.tuple ds] => .ok (.tuple ds)
  | _ => .bad
def gList : List PyData → R PyData
  | [.list ds] => .ok (.list ds)
  | [.tuple ds] => .ok (.list ds)
  | _ => .bad
theorem c_tuple : SCR C (fun xs H Q => ∃ p ys, xs = [.ref p] ∧ ((SqL K H p ys ∧ ∀ l, H l = none → Q (.ref l) (upd H l (.tup ys))) ∨ (SqT K H p ys ∧ Q (.ref p) H))) gTuple := by
  intro σ H B S xs ds Q R d h
  cases d with
  | nil => exact h.elim
  | cons h1 t =>
    cases t with
    | cons h2 t => cases h1 <;> exact h.elim
    | nil =>
      cases h1 with
      | lst s a =>
        refine ⟨_, _, rfl, .inl ⟨SqL.of (R.base.bh _ _ s), fun l hl => ?_⟩⟩
        obtain ⟨B', R1, e1, d1⟩ := R.tup hl a
        exact h _ _ B' R1 e1 d1
      | tup s a => exact ⟨_, _, rfl, .inr ⟨sm_t R.base.bh s, h _ H B R (Same.refl _) (.tup s a)⟩⟩
      | _ => exact h.elim
/-- ints, bools of data -/
def intsD : List PyData → Option (List Int)
  | [] => some []
  | .int i :: ds => (intsD ds).map (i :: ·)
  | _ :: _ => none
def boolsD : List PyData → Option (List Bool)
  | [] => some []
  | .bool i :: ds => (boolsD ds).map (i :: ·)
  | _ :: _ => none
theorem bools_v : ∀ {xs : List V} {ds : List PyData} {ns : List Bool}, DaAll K B xs ds → boolsD ds = some ns → xs = ns.map V.bl ∧ ds = ns.map PyData.bool
  | _, _, _, .nil, h => by cases h; exact ⟨rfl, rfl⟩
  | _, _, _, .cons h1 t, h => by
    cases h1 with
    | bl i =>
      unfold boolsD at h
      obtain ⟨ms, h2, rfl⟩ := Option.map_eq_some_iff.mp h
      obtain ⟨e1, e2⟩ := bools_v t h2
      exact ⟨by rw [e1]; rfl, by rw [e2]; rfl⟩
    | _ => exact nomatch h
theorem ints_map : ∀ ns : List Int, intsD (ns.map PyData.int) = some ns
  | [] => rfl
  | n :: ns => by
    show (intsD (ns.map PyData.int)).map (n :: ·) = _
    rw [ints_map ns]
    rfl
theorem bools_map : ∀ ns : List Bool, boolsD (ns.map PyData.bool) = some ns
  | [] => rfl
  | n :: ns => by
    show (boolsD (ns.map PyData.bool)).map (n :: ·) = _
    rw [bools_map ns]
    rfl
def gInts (g : List Int → PyData) : List PyData → R PyData
  | [.list ds] => match intsD ds with
    | some ns => .ok (g ns)
    | none => .bad
  | _ => .bad
def gBools (g : List Bool → PyData) : List PyData → R PyData
  | [.list ds] => match boolsD ds with
    | some ns => .ok (g ns)
    | none => .bad
  | _ => .bad
theorem c_all : SCR C (rAll K) (gBools fun bs => .bool (bs.all id)) := by
  intro σ H B S xs ds Q R d h
  cases d with
  | nil => exact h.elim
  | cons h1 t =>
    cases t with
    | cons h2 t => cases h1 <;> exact h.elim
    | nil =>
      cases h1 with
      | lst s a =>
        unfold gBools at h
        simp only at h
        split at h
        · rename_i ns q
          obtain ⟨rfl, rfl⟩ := bools_v a q
          exact ⟨_, ns, rfl, SqL.of (R.base.bh _ _ s), h _ H B R (Same.refl _) (.bl _)⟩
        · exact h.elim
      | _ => exact h.elim
end
end Bo

namespace Bo
open PySem L2
section
variable {K : PySem.W.Frag} {n : Nat} {C : Ct K n} {σ : L2.St} {H B : Hp} {S : SS}
/-! ### new lists -/
/-- nobody else has it -/
structure Loose (C : Ct K n) (σ : L2.St) (S : SS) (B : Hp) (a : Addr) : Prop where
  b : B a = none
  h0 : C.H0 a = none
  no : ∀ (j : Nat) (u : SV), S[j]? = some (some u) → u.mine = true → σ[j]? ≠ some (some (.ref a))
abbrev VF := SS → R (List PyData × SS)
/-- a new list: what it holds -/
def SEF (C : Ct K n) (t : TE) (f : VF) : Prop := ∀ (σ : L2.St) (H B : Hp) (S : SS) (Q : VK), Rep C σ H B S →
  Post C (f S) (fun p => ∀ a vs H' B', Rep C σ H' B' p.2 → Same B B' → H' a = some (.lst vs) → Loose C σ p.2 B' a → DaAll K B' vs p.1 → Q (.ref a) H') → t σ H Q
theorem Rep.settle (R : Rep C σ H B S) {a : Addr} {vs : List V} (h : H a = some (.lst vs)) (L : Loose C σ S B a) : Rep C σ H (upd B a (.lst vs)) S ∧ Same B (upd B a (.lst vs)) := by
  have e : Same B (upd B a (.lst vs)) := sm_new L.b
  refine ⟨R.grow ⟨R.base.keep, R.base.b0.trans e, fun b o q => ?_, fun b o q => ?_⟩ e fun b o h1 h2 ⟨j, u, q1, q2, q3⟩ => ⟨h1, ?_⟩, e⟩
  · by_cases z : b = a
    · subst z
      rw [upd_same] at q
      cases q
      exact h
    · rw [upd_ne z] at q
      exact R.base.bh b o q
  · by_cases z : b = a
    · subst z
      exact .inr L.h0
    · rw [upd_ne z] at q
      exact R.base.fr b o q
  · rw [upd_ne]
    · exact h2
    · rintro rfl
      exact L.no j u q1 q2 q3
def vFr (f : VF) : VE := fun S => (f S).bind fun p => .ok (.list p.1, p.2)
/-- a new list that stays -/
theorem s_fr {t : TE} {f : VF} (h : SEF C t f) : SE C t (vFr f) := by
  intro σ H B S Q R q
  unfold vFr at q
  rw [post_bind] at q
  refine h σ H B S Q R (q.mono fun p q a vs H' B' R1 e1 ha L d => ?_)
  obtain ⟨R2, e2⟩ := R1.settle ha L
  exact q _ H' _ R2 (e1.trans e2) (.lst upd_same (daa_mono e2 d))
/-- laid where nothing stood -/
theorem Rep.newLoose (R : Rep C σ H B S) {p : Addr} {o : HO} (hp : H p = none) : Rep C σ (upd H p o) B S ∧ Loose C σ S B p := by
  obtain ⟨h0, hb, _⟩ := R.new hp
  refine ⟨R.loose hp, hb, h0, fun j u q m e => ?_⟩
  obtain ⟨a, o, e1, e2, _⟩ := R.own_at q m
  rw [e] at e1
  cases e1
  rw [hp] at e2
  cases e2
def vLstF (fa : VA) : VF := fun S => (fa S).bind fun p => R.when (p.1.length ≤ 100000) (.ok p)
theorem f_lst {ta : TA} {fa : VA} (ha : SA C ta fa) : SEF C (tLst ta) (vLstF fa) := by
  intro σ H B S Q R h
  unfold vLstF at h
  rw [post_bind] at h
  refine ha σ H B S _ R (h.mono fun p h1 vs H1 B1 R1 e1 d1 => ?_)
  obtain ⟨k, h1⟩ := post_when.mp h1
  refine ⟨line_le (by rw [daa_len d1]; exact k), fun a ha => ?_⟩
  obtain ⟨R2, L⟩ := R1.newLoose (o := .lst vs) ha
  exact h1 a vs _ B1 R2 e1 upd_same L d1
/-- list(x) -/
def vListF (fa : VE) : VF := fun S => (fa S).bind fun p => match itemsD p.1 with
  | some ds => .ok (ds, p.2)
  | none => .bad
/-! ### slices -/
abbrev VO := SS → R (Option Int × SS)
def SO (C : Ct K n) (t : TO) (f : VO) : Prop := ∀ (σ : L2.St) (H B : Hp) (S : SS) (Q : Option Int → Hp → Prop), Rep C σ H B S →
  Post C (f S) (fun p => ∀ H' B', Rep C σ H' B' p.2 → Same B B' → Q p.1 H') → t σ H Q
def vNoPart : VO := fun S => .ok (none, S)
def toI : PyData → R Int
  | .int i => .ok i
  | _ => .bad
def vPart (fa : VE) : VO := fun S => (fa S).bind fun p => (toI p.1).bind fun i => .ok (some i, p.2)
theorem s_noPart : SO C tNoPart vNoPart := fun _ H B _ _ R h => h H B R (Same.refl _)
theorem int_of {v : V} {d : PyData} {k : Int → Prop} (h : Da K B v d) (q : Post C (toI d) k) : ∃ b, v = .int b ∧ d = .int b ∧ k b := by
  cases h <;> first | exact q.elim | exact ⟨_, rfl, rfl, q⟩
theorem s_part {ta : TE} {fa : VE} (ha : SE C ta fa) : SO C (tPart ta) (vPart fa) := by
  intro σ H B S Q R h
  unfold vPart at h
  rw [post_bind] at h
  refine ha σ H B S _ R (h.mono fun p h1 v H1 B1 R1 e1 d1 => ?_)
  rw [post_bind] at h1
  obtain ⟨i, rfl, _, h1⟩ := int_of d1 h1
  exact ⟨i, rfl, h1 H1 B1 R1 e1⟩
def cutD {α : Type} (l : List α) (lo hi : Option Int) : List α := (l.drop (HT.sIx l.length 0 lo)).take (HT.sIx l.length l.length hi - HT.sIx l.length 0 lo)
theorem daa_cut {vs : List V} {ds : List PyData} {lo hi : Option Int} (h : DaAll K B vs ds) : DaAll K B (cutV vs lo hi) (cutD ds lo hi) := by
  unfold cutV cutD
  rw [daa_len h]
  exact daa_take _ (daa_drop _ h)
def SSl (C : Ct K n) (r : V → Option Int → Option Int → Hp → VK → Prop) (g : PyData → Option Int → Option Int → R PyData) : Prop := ∀ (σ : L2.St) (H B : Hp) (S : SS) (x : V) (d : PyData) (lo hi : Option Int) (Q : VK), Rep C σ H B S → Da K B x d →
  Post C (g d lo hi) (fun z => ∀ v H' B', Rep C σ H' B' S → Same B B' → Da K B' v z → Q v H') → r x lo hi H Q
def vSl (g : PyData → Option Int → Option Int → R PyData) (fa : VE) (fl fh : VO) : VE := fun S => (fa S).bind fun p => (fl p.2).bind fun l => (fh l.2).bind fun h => (g p.1 l.1 h.1).bind fun z => .ok (z, h.2)
theorem s_sl {r : V → Option Int → Option Int → Hp → VK → Prop} {g : PyData → Option Int → Option Int → R PyData} {ta : TE} {tl th : TO} {fa : VE} {fl fh : VO} (hr : SSl C r g) (ha : SE C ta fa) (hl : SO C tl fl) (hh : SO C th fh) : SE C (tSl r ta tl th) (vSl g fa fl fh) := by
  intro σ H B S Q R h
  unfold vSl at h
  rw [post_bind] at h
  refine ha σ H B S _ R (h.mono fun p h1 v H1 B1 R1 e1 d1 => ?_)
  rw [post_bind] at h1
  refine hl σ H1 B1 p.2 _ R1 (h1.mono fun l h2 H2 B2 R2 e2 => ?_)
  rw [post_bind] at h2
  refine hh σ H2 B2 l.2 _ R2 (h2.mono fun u h3 H3 B3 R3 e3 => ?_)
  rw [post_bind] at h3
  exact hr σ H3 B3 u.2 v p.1 l.1 u.1 Q R3 (da_mono (e2.trans e3) d1) (h3.mono fun z h4 w H4 B4 R4 e4 d4 => h4 w H4 B4 R4 (e1.trans (e2.trans (e3.trans e4))) d4)
def gSlL (d : PyData) (lo hi : Option Int) : R PyData := match d with
  | .list ds => .ok (.list (cutD ds lo hi))
  | _ => .bad
def gSlT (d : PyData) (lo hi : Option Int) : R PyData := match d with
  | .tuple ds => .ok (.tuple (cutD ds lo hi))
  | _ => .bad
theorem l_slL : SSl C (rSlL K) gSlL := by
  intro σ H B S x d lo hi Q R h1 h
  cases h1 with
  | lst s a =>
    refine ⟨_, _, rfl, SqL.of (R.base.bh _ _ s), fun p hp => ?_⟩
    obtain ⟨B', R1, e1, d1⟩ := R.lst hp (daa_cut a)
    exact h _ _ B' R1 e1 d1
  | _ => exact h.elim
/-- xs[::-1] -/
def gRevL : PyData → R PyData
  | .list ds => .ok (.list ds.reverse)
  | _ => .bad
/-! ### targets -/
def SG (C : Ct K n) (g : TG) (fg : PyData → SS → R SS) (ts : List Nat) : Prop := ∀ (σ : L2.St) (H B : Hp) (S : SS) (v : V) (d : PyData) (Q : L2.St → Hp → Prop), Rep C σ H B S → Da K B v d →
  Post C (fg d S) (fun S' => ∀ σ', Rep C σ' H B S' → σ'.length = σ.length → (∀ i, i ∉ ts → σ'[i]? = σ[i]?) → Q σ' H) → g v σ H Q
def SGs (C : Ct K n) (g : TGs) (fg : List PyData → SS → R SS) (ts : List Nat) : Prop := ∀ (σ : L2.St) (H B : Hp) (S : SS) (vs : List V) (ds : List PyData) (Q : L2.St → Hp → Prop), Rep C σ H B S → DaAll K B vs ds →
  Post C (fg ds S) (fun S' => ∀ σ', Rep C σ' H B S' → σ'.length = σ.length → (∀ i, i ∉ ts → σ'[i]? = σ[i]?) → Q σ' H) → g vs σ H Q
def aName (i : Nat) : PyData → SS → R SS := fun d S => .ok (S.set i (some (.dat d)))
theorem g_name {i : Nat} (hi : n ≤ i) : SG C (gName i) (aName i) [i] := by
  intro σ H B S v d Q R dv h
  exact h _ (R.put hi dv) (by simp) fun j hj => List.getElem?_set_ne (fun e => hj (by simp [e]))
def aNil : List PyData → SS → R SS := fun ds S => match ds with
  | [] => .ok S
  | _ => .bad
def aCons (f : PyData → SS → R SS) (g : List PyData → SS → R SS) : List PyData → SS → R SS := fun ds S => match ds with
  | d :: ds => (f d S).bind fun S1 => g ds S1
  | [] => .bad
theorem g_nil : SGs C gNil aNil [] := by
  intro σ H B S vs ds Q R dv h
  cases dv with
  | nil => exact ⟨rfl, h σ R rfl fun _ _ => rfl⟩
  | cons => exact h.elim
theorem g_cons {g : TG} {gs : TGs} {f : PyData → SS → R SS} {fs : List PyData → SS → R SS} {ts us : List Nat} (h1 : SG C g f ts) (h2 : SGs C gs fs us) : SGs C (gCons g gs) (aCons f fs) (ts ++ us) := by
  intro σ H B S vs ds Q R dv h
  cases dv with
  | nil => exact h.elim
  | cons d t =>
    replace h := post_bind.mp h
    refine ⟨_, _, rfl, h1 σ H B S _ _ _ R d (h.mono fun S1 h σ1 R1 l1 k1 => ?_)⟩
    exact h2 σ1 H B S1 _ _ _ R1 t (h.mono fun S2 h σ2 R2 l2 k2 => h σ2 R2 (l2.trans l1) fun i hi => by
      rw [List.mem_append] at hi
      exact (k2 i fun z => hi (.inr z)).trans (k1 i fun z => hi (.inl z)))
def aTup (m : Nat) (f : List PyData → SS → R SS) : PyData → SS → R SS := fun d S => match d with
  | .tuple ds => R.when (ds.length = m) (f ds S)
  | _ => .bad
theorem g_tup {m : Nat} {gs : TGs} {fs : List PyData → SS → R SS} {ts : List Nat} (h1 : SGs C gs fs ts) : SG C (gTup K m gs) (aTup m fs) ts := by
  intro σ H B S v d Q R dv h
  cases dv with
  | tup s a =>
    obtain ⟨k, h⟩ := post_when.mp h
    exact ⟨_, _, rfl, sm_t R.base.bh s, (daa_len a).trans k, h1 σ H B S _ _ Q R a h⟩
  | _ => exact h.elim
/-! ### what is walked -/
/-- the walk J over ds, whatever else changes -/
structure Walks (C : Ct K n) (B : Hp) (J : It) (ds : List PyData) : Prop where
  go : ∀ (i : Nat) (H : Hp), i < ds.length → Same B H → J.go i H
  stop : ∀ (H : Hp), Same B H → J.stop ds.length H
  yld : ∀ (i : Nat) (H H' : Hp) (x : V) (d : PyData), ds[i]? = some d → J.yld i H x H' → ∀ (C : Ct K n) σ B1 S, Rep C σ H B1 S → Same B B1 → ∃ B', Rep C σ H' B' S ∧ Same B1 B' ∧ Da K B' x d ∧ ∀ D o, H D = some o → H' D = some o
def SI (C : Ct K n) (w : TI) (f : VF) : Prop := ∀ (σ : L2.St) (H B : Hp) (S : SS) (Rr : It → Hp → Prop), Rep C σ H B S →
  Post C (f S) (fun p => ∀ J H' B', Rep C σ H' B' p.2 → Same B B' → Walks C B' J p.1 → Rr J H') → w σ H Rr
theorem walks_list {a : Addr} {xs : List V} {ds : List PyData} (s : B a = some (.lst xs)) (h : DaAll K B xs ds) : Walks C B (Itl K a) ds where
  go := fun i H hi e => by
    rw [← daa_len h] at hi
    exact ⟨xs, xs[i], SqL.of (e _ _ s), List.getElem?_eq_getElem hi⟩
  stop := fun H e => ⟨xs, SqL.of (e _ _ s), by rw [daa_len h]; exact Nat.le_refl _⟩
  yld := fun i H H' x d hd y C σ B1 S R e => by
    obtain ⟨rfl, y⟩ := y
    have hx := y xs (SqL.of (R.base.bh _ _ (e _ _ s)))
    obtain ⟨d', q1, q2⟩ := daa_at h hx
    rw [hd] at q1
    cases q1
    exact ⟨B1, R, Same.refl _, da_mono e q2, fun _ _ z => z⟩
theorem walks_tup {a : Addr} {xs : List V} {ds : List PyData} (s : SqT K B a xs) (h : DaAll K B xs ds) : Walks C B (Itt K a) ds where
  go := fun i H hi e => by
    rw [← daa_len h] at hi
    exact ⟨xs, xs[i], sm_t e s, List.getElem?_eq_getElem hi⟩
  stop := fun H e => ⟨xs, sm_t e s, by rw [daa_len h]; exact Nat.le_refl _⟩
  yld := fun i H H' x d hd y C σ B1 S R e => by
    obtain ⟨rfl, y⟩ := y
    have hx := y xs (sm_t (e.trans R.base.bh) s)
    obtain ⟨d', q1, q2⟩ := daa_at h hx
    rw [hd] at q1
    cases q1
    exact ⟨B1, R, Same.refl _, da_mono e q2, fun _ _ z => z⟩
def rangeD (lo : Int) (m : Nat) : List PyData := (List.range m).map fun i => .int (lo + (i : Nat))
theorem walks_range {lo : Int} {m : Nat} : Walks C B (Itr lo m) (rangeD lo m) where
  go := fun i H hi _ => by
    unfold rangeD at hi
    rw [List.length_map, List.length_range] at hi
    exact hi
  stop := fun H _ => by
    unfold rangeD
    rw [List.length_map, List.length_range]
    exact Nat.le_refl m
  yld := fun i H H' x d hd y C σ B1 S R e => by
    obtain ⟨rfl, rfl⟩ := y
    unfold rangeD at hd
    rw [List.getElem?_map] at hd
    have hi : i < m := by
      rcases Nat.lt_or_ge i m with q | q
      · exact q
      · rw [List.getElem?_eq_none (by rw [List.length_range]; exact q)] at hd
        cases hd
    rw [List.getElem?_range hi] at hd
    cases hd
    exact ⟨B1, R, Same.refl _, .int _, fun _ _ z => z⟩
def vIter (fa : VE) : VF := fun S => (fa S).bind fun p => match p.1 with
  | .list ds => .ok (ds, p.2)
  | _ => .bad
def vIterT (fa : VE) : VF := fun S => (fa S).bind fun p => match p.1 with
  | .tuple ds => .ok (ds, p.2)
  | _ => .bad
theorem i_list {ta : TE} {fa : VE} (ha : SE C ta fa) : SI C (iList K ta) (vIter fa) := by
  intro σ H B S Rr R h
  replace h := post_bind.mp h
  refine ha σ H B S _ R (h.mono fun p h1 v H1 B1 R1 e1 d1 => ?_)
  obtain ⟨d, S1⟩ := p
  dsimp only at d1 h1 R1
  cases d1 with
  | lst s a => exact ⟨_, rfl, ⟨_, SqL.of (R1.base.bh _ _ s)⟩, h1 _ H1 B1 R1 e1 (walks_list s a)⟩
  | _ => exact h1.elim
theorem i_tup {ta : TE} {fa : VE} (ha : SE C ta fa) : SI C (iTup K ta) (vIterT fa) := by
  intro σ H B S Rr R h
  replace h := post_bind.mp h
  refine ha σ H B S _ R (h.mono fun p h1 v H1 B1 R1 e1 d1 => ?_)
  obtain ⟨d, S1⟩ := p
  dsimp only at d1 h1 R1
  cases d1 with
  | tup s a => exact ⟨_, rfl, ⟨_, sm_t R1.base.bh s⟩, h1 _ H1 B1 R1 e1 (walks_tup s a)⟩
  | _ => exact h1.elim
def vRange1 (fa : VA) : VF := fun S => (fa S).bind fun p => match p.1 with
  | [.int j] => R.when (-1000000 ≤ j ∧ j ≤ 1000000) (.ok (rangeD 0 j.toNat, p.2))
  | _ => .bad
def vRange2 (fa : VA) : VF := fun S => (fa S).bind fun p => match p.1 with
  | [.int i, .int j] => R.when ((-1000000 ≤ i ∧ i ≤ 1000000) ∧ -1000000 ≤ j ∧ j ≤ 1000000) (.ok (rangeD i (j - i).toNat, p.2))
  | _ => .bad
theorem i_range1 {ta : TA} {fa : VA} (ha : SA C ta fa) : SI C (iRng1 ta) (vRange1 fa) := by
  intro σ H B S Rr R h
  replace h := post_bind.mp h
  refine ha σ H B S _ R (h.mono fun p h1 v H1 B1 R1 e1 d1 => ?_)
  obtain ⟨d, S1⟩ := p
  dsimp only at d1 h1 R1
  split at h1
  · rename_i j
    obtain ⟨⟨k1, k2⟩, h1⟩ := post_when.mp h1
    cases d1 with
    | cons q1 t =>
      cases t
      cases q1
      exact ⟨j, rfl, by omega, by omega, h1 _ H1 B1 R1 e1 walks_range⟩
  · exact h1.elim
/-! zip of two lists -/
def zipD (ds es : List PyData) : List PyData := (ds.zip es).map fun p => .tuple [p.1, p.2]
/-! enumerate of a list -/
def enumD (ds : List PyData) : List PyData := (ds.zipIdx).map fun p => .tuple [.int (p.2 : Nat), p.1]
theorem enumD_get {ds : List PyData} {i : Nat} {d : PyData} (h : ds[i]? = some d) : (enumD ds)[i]? = some (.tuple [.int (i : Nat), d]) := by
  unfold enumD
  rw [List.getElem?_map, List.getElem?_zipIdx, h]
  simp
theorem enumD_len {ds : List PyData} : (enumD ds).length = ds.length := by simp [enumD]
/-! ### statements -/
def vNext : VS := fun S => .ok (.nx S)
def vBrk : VS := fun S => .ok (.bk S)
def vCnt : VS := fun S => .ok (.ct S)
def vRet (fa : VE) : VS := fun S => (fa S).bind fun p => .ok (.rt p.1 p.2)
def vRetN : VS := fun S => .ok (.rt .none S)
def vDrop (fa : VE) : VS := fun S => (fa S).bind fun p => .ok (.nx p.2)
def seqF (fb : VS) : FL → R FL
  | .nx S => fb S
  | f => .ok f
def vSeq (fa fb : VS) : VS := fun S => (fa S).bind (seqF fb)
def vIfS (fc : VT) (fa fb : VS) : VS := fun S => (fc S).bind fun p => if p.1 = true then fa p.2 else fb p.2
def vAsg (fa : VE) (fg : PyData → SS → R SS) : VS := fun S => (fa S).bind fun p => (fg p.1 p.2).bind fun S => .ok (.nx S)
theorem st_next : SSt C tNext vNext := fun σ H B _ _ R h => h σ H B R (Same.refl _)
theorem st_ret {ta : TE} {fa : VE} (ha : SE C ta fa) : SSt C (tRet ta) (vRet fa) := by
  intro σ H B S D R h
  replace h := post_bind.mp h
  exact ha σ H B S _ R (h.mono fun p h1 v H1 B1 R1 e1 d1 => h1 v σ H1 B1 R1 e1 d1)
theorem st_drop {ta : TE} {fa : VE} (ha : SE C ta fa) : SSt C (tDrop ta) (vDrop fa) := by
  intro σ H B S D R h
  replace h := post_bind.mp h
  exact ha σ H B S _ R (h.mono fun p h1 v H1 B1 R1 e1 d1 => h1 σ H1 B1 R1 e1)
theorem FlPost.from {B0 : Hp} {D : Ends} {fl : FL} (h : FlPost C B0 D fl) (e : Same B0 B) : FlPost C B D fl := by
  cases fl with
  | nx S => exact fun σ' H' B' R e' => h σ' H' B' R (e.trans e')
  | rt d S => exact fun v σ' H' B' R e' => h v σ' H' B' R (e.trans e')
  | bk S => exact fun σ' H' B' R e' => h σ' H' B' R (e.trans e')
  | ct S => exact fun σ' H' B' R e' => h σ' H' B' R (e.trans e')
theorem st_seq {ta tb : TS} {fa fb : VS} (ha : SSt C ta fa) (hb : SSt C tb fb) : SSt C (tSeq ta tb) (vSeq fa fb) := by
  intro σ H B S D R h
  replace h := post_bind.mp h
  refine ha σ H B S _ R (h.mono fun fl h1 => ?_)
  cases fl with
  | nx S1 => exact fun σ' H' B' R1 e1 => hb σ' H' B' S1 D R1 (Post.mono h1 fun fl q => q.from e1)
  | rt d S1 => exact h1
  | bk S1 => exact h1
  | ct S1 => exact h1
theorem st_if {tc : TT} {ta tb : TS} {fc : VT} {fa fb : VS} (hc : ST C tc fc) (ha : SSt C ta fa) (hb : SSt C tb fb) : SSt C (tIfS tc ta tb) (vIfS fc fa fb) := by
  intro σ H B S D R h
  replace h := post_bind.mp h
  refine hc σ H B S _ R (h.mono fun p h1 H1 B1 R1 e1 => ?_)
  obtain ⟨c, S1⟩ := p
  cases c with
  | true => exact ha σ H1 B1 S1 D R1 (Post.mono h1 fun fl q => q.from e1)
  | false => exact hb σ H1 B1 S1 D R1 (Post.mono h1 fun fl q => q.from e1)
theorem st_asg {ta : TE} {fa : VE} {g : TG} {fg : PyData → SS → R SS} {ts : List Nat} (ha : SE C ta fa) (hg : SG C g fg ts) : SSt C (tAsg ta g) (vAsg fa fg) := by
  intro σ H B S D R h
  replace h := post_bind.mp h
  refine ha σ H B S _ R (h.mono fun p h1 v H1 B1 R1 e1 d1 => ?_)
  exact hg σ H1 B1 p.2 v p.1 _ R1 d1 ((post_bind.mp h1).mono fun S2 h2 σ' R2 _ _ => h2 σ' H1 B1 R2 e1)
/-- a new list for a slot of its own -/
def vOwn (i : Nat) (f : VF) : VS := fun S => (f S).bind fun p => .ok (.nx (p.2.set i (some (.own p.1))))
theorem st_own {ta : TE} {f : VF} {i : Nat} (hi : n ≤ i) (ha : SEF C ta f) : SSt C (tAsg ta (gName i)) (vOwn i f) := by
  intro σ H B S D R h
  replace h := post_bind.mp h
  refine ha σ H B S _ R (h.mono fun p h1 a vs H1 B1 R1 e1 ha L d1 => ?_)
  exact h1 _ H1 B1 (R1.take hi rfl ⟨a, vs, rfl, ha, L.b, d1⟩ L.h0 L.no) e1
/-- from here on the lists of these slots stay -/
def frzS (i : Nat) (S : SS) : SS := match S[i]? with
  | some (some (.own ds)) => S.set i (some (.dat (.list ds)))
  | _ => S
def vFrz (i : Nat) (f : VS) : VS := fun S => f (frzS i S)
theorem st_frz {t : TS} {f : VS} {i : Nat} (hi : n ≤ i) (h : SSt C t f) : SSt C t (vFrz i f) := by
  intro σ H B S D R q
  unfold vFrz frzS at q
  split at q
  · rename_i ds e
    obtain ⟨B1, R1, e1⟩ := R.rest hi e
    exact h σ H B1 _ D R1 (q.mono fun fl q => q.from e1)
  · exact h σ H B S D R q
/-! ### loops -/
def loopF (fg : PyData → SS → R SS) (fb : VS) : List PyData → SS → R FL
  | [], S => .ok (.nx S)
  | d :: ds, S => (fg d S).bind fun S1 => (fb S1).bind fun fl => match fl with
    | .nx S2 => loopF fg fb ds S2
    | .ct S2 => loopF fg fb ds S2
    | .bk S2 => .ok (.nx S2)
    | .rt d S2 => .ok (.rt d S2)
def vFor (fi : VF) (fg : PyData → SS → R SS) (fb : VS) : VS := fun S => (fi S).bind fun p => loopF fg fb p.1 p.2
theorem st_for {wi : TI} {g : TG} {tb : TS} {fi : VF} {fg : PyData → SS → R SS} {fb : VS} {ts : List Nat} (hi : SI C wi fi) (hg : SG C g fg ts) (hb : SSt C tb fb) : SSt C (tFor wi g tb) (vFor fi fg fb) := by
  intro σ H B S D R h
  replace h := post_bind.mp h
  refine hi σ H B S _ R (h.mono fun p h1 J H1 B1 R1 e1 W => ?_)
  obtain ⟨ds, S1⟩ := p
  dsimp only at h1 R1 W
  refine ⟨fun i m σ' H' => m = ds.length - i ∧ i ≤ ds.length ∧ ∃ B' S', Rep C σ' H' B' S' ∧ Same B1 B' ∧ Post C (loopF fg fb (ds.drop i) S') (FlPost C B D), ⟨ds.length, by simp, Nat.zero_le _, B1, S1, R1, Same.refl _, h1⟩, ?_⟩
  rintro i m σ' H' ⟨rfl, hi, B', S', R', e', q⟩
  have eH : Same B1 H' := e'.trans R'.base.bh
  rcases Nat.lt_or_ge i ds.length with hlt | hge
  · refine .inr ⟨W.go i H' hlt eH, fun σ2 H2 => ∃ B2 S2, Rep C σ2 H2 B2 S2 ∧ Same B1 B2 ∧ Post C (loopF fg fb (ds.drop (i + 1)) S2) (FlPost C B D), ?_, ?_⟩
    · rintro σ2 H2 ⟨B2, S2, R2, e2, q2⟩
      exact ⟨ds.length - (i + 1), by omega, rfl, hlt, B2, S2, R2, e2, q2⟩
    · intro x H2 y
      obtain ⟨B2, R2, e2, dx, _⟩ := W.yld i H' H2 x ds[i] (List.getElem?_eq_getElem hlt) y C σ' B' S' R' e'
      rw [List.drop_eq_getElem_cons hlt] at q
      replace q := post_bind.mp q
      refine hg σ' H2 B2 S' x ds[i] _ R2 dx (q.mono fun S3 q σ3 R3 _ _ => ?_)
      replace q := post_bind.mp q
      refine hb σ3 H2 B2 S3 _ R3 (q.mono fun fl q => ?_)
      have e3 : Same B1 B2 := e'.trans e2
      cases fl with
      | nx S4 => exact fun σ4 H4 B4 R4 e4 => ⟨B4, S4, R4, e3.trans e4, q⟩
      | ct S4 => exact fun σ4 H4 B4 R4 e4 => ⟨B4, S4, R4, e3.trans e4, q⟩
      | bk S4 => exact fun σ4 H4 B4 R4 e4 => q σ4 H4 B4 R4 (e1.trans (e3.trans e4))
      | rt d S4 => exact fun v σ4 H4 B4 R4 e4 => q v σ4 H4 B4 R4 (e1.trans (e3.trans e4))
  · have ei : i = ds.length := by omega
    subst ei
    rw [List.drop_length] at q
    exact .inl ⟨W.stop H' eH, q σ' H' B' R' (e1.trans e')⟩
end
end Bo

namespace Bo
open PySem L2
section
variable {K : PySem.W.Frag} {n : Nat} {C : Ct K n} {σ : L2.St} {H B : Hp} {S : SS}
/-! ### a list that is held aside -/
def Ct.hold (C : Ct K n) (D : Addr) (xs : List V) : Ct K n := { C with H0 := upd C.H0 D (.lst xs) }
section
variable {D : Addr} {xs : List V}
theorem hold_base (h0 : C.H0 D = none) (b : Base (C.hold D xs) H B) : Base C H B := by
  refine ⟨fun a o n q => b.keep a o n (by show upd C.H0 D _ a = _; rw [upd_ne (ne_of_none q h0)]; exact q), b.b0, b.bh, fun a o q => ?_⟩
  rcases b.fr a o q with z | z
  · exact .inl z
  · refine .inr ?_
    have z' : upd C.H0 D (.lst xs) a = none := z
    by_cases e : a = D
    · subst e
      exact h0
    · rw [upd_ne e] at z'
      exact z'
theorem hold_out {e : Exc} (h0 : C.H0 D = none) (h : C.Out e) : (C.hold D xs).Out e := fun H B v b d => h H B v (hold_base h0 b) d
theorem hold_post {α : Type} {x : R α} {k : α → Prop} (h0 : C.H0 D = none) (h : Post C x k) : Post (C.hold D xs) x k := by
  cases x with
  | ok a => exact h
  | err e => exact hold_out h0 h
  | bad => exact h
theorem Rep.hold (R : Rep C σ H B S) (hD : H D = some (.lst xs)) (L : Loose C σ S B D) : Rep (C.hold D xs) σ H B S := by
  refine ⟨⟨fun a o n q => ?_, R.base.b0, R.base.bh, fun a o q => ?_⟩, R.len, fun i s h => ?_, R.dis, fun i s a h m e => ?_, R.box⟩
  · have q' : upd C.H0 D (.lst xs) a = some o := q
    by_cases z : a = D
    · subst z
      rw [upd_same] at q'
      cases q'
      exact hD
    · rw [upd_ne z] at q'
      exact R.base.keep a o n q'
  · rcases R.base.fr a o q with z | z
    · exact .inl z
    · refine .inr ?_
      show upd C.H0 D (.lst xs) a = none
      rw [upd_ne (ne_of_none q L.b)]
      exact z
  · obtain ⟨v, hv, r⟩ := R.slot i s h
    exact ⟨v, hv, by cases s <;> exact r⟩
  · rcases R.ownf i s a h m e with z | z
    · refine .inl ?_
      show upd C.H0 D (.lst xs) a = none
      rw [upd_ne (fun q => L.no i s h m (by rw [← q]; exact e))]
      exact z
    · exact .inr z
theorem Rep.unhold (h0 : C.H0 D = none) (hB : C.B0 D = none) (nb : D ∉ C.bx) (R : Rep (C.hold D xs) σ H B S) : Rep C σ H B S ∧ H D = some (.lst xs) ∧ Loose C σ S B D := by
  have hH : (C.hold D xs).H0 D = some (.lst xs) := upd_same
  have bD : B D = none := by
    cases q : B D with
    | none => rfl
    | some o =>
      rcases R.base.fr D o q with z | z
      · exact nomatch (z.symm.trans hB)
      · exact nomatch (z.symm.trans hH)
  refine ⟨⟨hold_base h0 R.base, R.len, fun i s h => ?_, R.dis, fun i s a h m e => ?_, R.box⟩, R.base.keep D _ nb hH, bD, h0, fun j u q m e => ?_⟩
  · obtain ⟨v, hv, r⟩ := R.slot i s h
    exact ⟨v, hv, by cases s <;> exact r⟩
  · rcases R.ownf i s a h m e with z | z
    · refine .inl ?_
      have z' : upd C.H0 D (.lst xs) a = none := z
      by_cases q : a = D
      · subst q
        exact h0
      · rw [upd_ne q] at z'
        exact z'
    · exact .inr z
  · rcases R.ownf j u D q m e with z | z
    · exact nomatch (z.symm.trans hH)
    · exact nb (List.mem_of_getElem? z)
end
/-! ### slots set aside -/
def wipeS (S : SS) : List Nat → SS
  | [] => S
  | v :: vs => (wipeS S vs).set v none
def backS (S0 S : SS) : List Nat → SS
  | [] => S
  | v :: vs => (backS S0 S vs).set v (S0[v]?.join)
theorem wipeS_len : ∀ vs : List Nat, (wipeS S vs).length = S.length
  | [] => rfl
  | v :: vs => by
    unfold wipeS
    rw [List.length_set, wipeS_len vs]
theorem backS_len {S0 : SS} : ∀ vs : List Nat, (backS S0 S vs).length = S.length
  | [] => rfl
  | v :: vs => by
    unfold backS
    rw [List.length_set, backS_len vs]
theorem wipeS_some {i : Nat} {s : SV} : ∀ {vs : List Nat}, (wipeS S vs)[i]? = some (some s) → i ∉ vs ∧ S[i]? = some (some s)
  | [], h => ⟨by simp, h⟩
  | v :: vs, h => by
    unfold wipeS at h
    by_cases e : i = v
    · subst e
      have hl := (List.getElem?_eq_some_iff.mp h).1
      rw [List.length_set] at hl
      rw [List.getElem?_set_self hl] at h
      cases h
    · rw [List.getElem?_set_ne (Ne.symm e)] at h
      obtain ⟨h1, h2⟩ := wipeS_some h
      exact ⟨fun z => (List.mem_cons.mp z).elim e h1, h2⟩
theorem backS_some {S0 : SS} {i : Nat} {s : SV} : ∀ {vs : List Nat}, (backS S0 S vs)[i]? = some (some s) → (i ∈ vs ∧ S0[i]? = some (some s)) ∨ (i ∉ vs ∧ S[i]? = some (some s))
  | [], h => .inr ⟨by simp, h⟩
  | v :: vs, h => by
    unfold backS at h
    by_cases e : i = v
    · subst e
      have hl := (List.getElem?_eq_some_iff.mp h).1
      rw [List.length_set] at hl
      rw [List.getElem?_set_self hl] at h
      refine .inl ⟨List.mem_cons_self, ?_⟩
      cases q : S0[i]? with
      | none => rw [q] at h; cases h
      | some o => rw [q] at h; exact h
    · rw [List.getElem?_set_ne (Ne.symm e)] at h
      rcases backS_some h with ⟨h1, h2⟩ | ⟨h1, h2⟩
      · exact .inl ⟨List.mem_cons_of_mem _ h1, h2⟩
      · exact .inr ⟨fun z => (List.mem_cons.mp z).elim e h1, h2⟩
theorem wipe_ext {σ σ' : L2.St} {vs : List Nat} (hl : σ'.length = σ.length) (h : ∀ i, i ∉ vs → σ'[i]? = σ[i]?) : wipe σ' vs = wipe σ vs := by
  have key : ∀ us : List Nat, ∀ i, i ∈ us → ∀ τ : L2.St, i < τ.length → (wipe τ us)[i]? = some none := by
    intro us
    induction us with
    | nil => intro i hi; exact absurd hi (by simp)
    | cons u us ih =>
      intro i hi τ hτ
      unfold wipe
      by_cases e : i = u
      · subst e
        rw [List.getElem?_set_self (by rw [wipe_length]; exact hτ)]
      · rw [List.getElem?_set_ne (Ne.symm e)]
        rcases List.mem_cons.mp hi with z | z
        · exact absurd z e
        · exact ih i z τ hτ
  refine List.ext_getElem? fun i => ?_
  by_cases hi : i ∈ vs
  · by_cases hb : i < σ.length
    · rw [key vs i hi σ hb, key vs i hi σ' (by omega)]
    · rw [List.getElem?_eq_none (by rw [wipe_length]; omega), List.getElem?_eq_none (by rw [wipe_length]; omega)]
  · rw [wipe_out hi, wipe_out hi, h i hi]
theorem Rep.wiped (R : Rep C σ H B S) {vs : List Nat} (hv : ∀ v ∈ vs, n ≤ v) : Rep C (wipe σ vs) H B (wipeS S vs) := by
  refine ⟨R.base, by rw [wipeS_len, wipe_length]; exact R.len, fun i s h => ?_, fun i j s u a h1 h2 m1 m2 e1 e2 => ?_, fun i s a h m e => ?_, fun i a h => ?_⟩
  · obtain ⟨h1, h2⟩ := wipeS_some h
    rw [wipe_out h1]
    exact R.slot i s h2
  · obtain ⟨p1, p2⟩ := wipeS_some h1
    obtain ⟨q1, q2⟩ := wipeS_some h2
    rw [wipe_out p1] at e1
    rw [wipe_out q1] at e2
    exact R.dis i j s u a p2 q2 m1 m2 e1 e2
  · obtain ⟨p1, p2⟩ := wipeS_some h
    rw [wipe_out p1] at e
    exact R.ownf i s a p2 m e
  · have hn : i ∉ vs := fun z => by
      have := hv i z
      have := (List.getElem?_eq_some_iff.mp h).1
      have := C.hbx
      omega
    obtain ⟨q1, s, q2, q3⟩ := R.box i a h
    refine ⟨by rw [wipe_out hn]; exact q1, s, ?_, q3⟩
    have out : ∀ us : List Nat, i ∉ us → (wipeS S us)[i]? = S[i]? := by
      intro us
      induction us with
      | nil => intro _; rfl
      | cons u us ih =>
        intro hu
        unfold wipeS
        rw [List.getElem?_set_ne (fun e => hu (by simp [e]))]
        exact ih fun z => hu (List.mem_cons_of_mem _ z)
    rw [out vs hn]
    exact q2
/-- no slot to be set aside has a list of its own -/
def okS (vs : List Nat) (S : SS) : Bool := vs.all fun v => match S[v]? with
  | some (some s) => !s.mine
  | _ => true
theorem okS_at {vs : List Nat} {i : Nat} {s : SV} (h : okS vs S = true) (hi : i ∈ vs) (e : S[i]? = some (some s)) : s.mine = false := by
  have := List.all_eq_true.mp h i hi
  rw [e] at this
  simpa using this
theorem Rep.back {H1 B1 : Hp} {S1 : SS} {vs : List Nat} (R : Rep C σ H B S) (R1 : Rep C (wipe σ vs) H1 B1 S1) (e : Same B B1) (ok : okS vs S = true) (hv : ∀ v ∈ vs, n ≤ v) : Rep C σ H1 B1 (backS S S1 vs) := by
  have mine : ∀ (i : Nat) s, (backS S S1 vs)[i]? = some (some s) → s.mine = true → i ∉ vs ∧ S1[i]? = some (some s) := fun i s h m => by
    rcases backS_some h with ⟨h1, h2⟩ | h
    · rw [okS_at ok h1 h2] at m
      cases m
    · exact h
  refine ⟨R1.base, by rw [backS_len, R1.len, wipe_length], fun i s h => ?_, fun i j s u a h1 h2 m1 m2 e1 e2 => ?_, fun i s a h m q => ?_, fun i a h => ?_⟩
  · rcases backS_some h with ⟨h1, h2⟩ | ⟨h1, h2⟩
    · obtain ⟨v, hv, r⟩ := R.slot i s h2
      have hm := okS_at ok h1 h2
      exact ⟨v, hv, SR.mono e (fun m => by rw [hm] at m; cases m) r⟩
    · obtain ⟨v, q, r⟩ := R1.slot i s h2
      rw [wipe_out h1] at q
      exact ⟨v, q, r⟩
  · obtain ⟨p1, p2⟩ := mine i s h1 m1
    obtain ⟨q1, q2⟩ := mine j u h2 m2
    exact R1.dis i j s u a p2 q2 m1 m2 (by rw [wipe_out p1]; exact e1) (by rw [wipe_out q1]; exact e2)
  · obtain ⟨p1, p2⟩ := mine i s h m
    exact R1.ownf i s a p2 m (by rw [wipe_out p1]; exact q)
  · have hn : i ∉ vs := fun z => by
      have := hv i z
      have := (List.getElem?_eq_some_iff.mp h).1
      have := C.hbx
      omega
    obtain ⟨q1, s, q2, q3⟩ := R1.box i a h
    refine ⟨by rw [← wipe_out hn]; exact q1, s, ?_, q3⟩
    have out : ∀ us : List Nat, i ∉ us → (backS S S1 us)[i]? = S1[i]? := by
      intro us
      induction us with
      | nil => intro _; rfl
      | cons u us ih =>
        intro hu
        unfold backS
        rw [List.getElem?_set_ne (fun e => hu (by simp [e]))]
        exact ih fun z => hu (List.mem_cons_of_mem _ z)
    rw [out vs hn]
    exact q2
/-! ### comprehensions -/
def lcF (fg : PyData → SS → R SS) (ft : VT) (fe : VE) (vs : List Nat) : List PyData → SS → R (List PyData × SS)
  | [], S => .ok ([], S)
  | d :: ds, S => (fg d S).bind fun S1 => (ft S1).bind fun p => if p.1 = true then (fe p.2).bind fun q => (lcF fg ft fe vs ds (wipeS q.2 vs)).bind fun r => .ok (q.1 :: r.1, r.2) else lcF fg ft fe vs ds (wipeS p.2 vs)
def vLc (vs : List Nat) (fi : VF) (fg : PyData → SS → R SS) (ft : VT) (fe : VE) : VF := fun S => (fi S).bind fun p => R.when (okS vs p.2 = true ∧ p.1.length ≤ 100000) ((lcF fg ft fe vs p.1 (wipeS p.2 vs)).bind fun r => .ok (r.1, backS p.2 r.2 vs))
def vYes : VT := fun S => .ok (true, S)
theorem s_yes : ST C tYes vYes := fun σ H B S Q R h => h H B R (Same.refl _)
theorem f_lc {wi : TI} {g : TG} {tt : TT} {te : TE} {vs ts : List Nat} {fi : VF} {fg : PyData → SS → R SS} {ft : VT} {fe : VE} (hv : vs.all (fun v => decide (n ≤ v)) = true) (hts : ts.all (fun t => decide (t ∈ vs)) = true) (hi : SI C wi fi)
    (hg : ∀ C' : Ct K n, SG C' g fg ts) (ht : ∀ C' : Ct K n, ST C' tt ft) (he : ∀ C' : Ct K n, SE C' te fe) : SEF C (tLc wi g tt te vs) (vLc vs fi fg ft fe) := by
  intro σ H B S Q R h
  have hv' : ∀ v ∈ vs, n ≤ v := fun v m => of_decide_eq_true (List.all_eq_true.mp hv v m)
  have hts' : ∀ t ∈ ts, t ∈ vs := fun t m => of_decide_eq_true (List.all_eq_true.mp hts t m)
  replace h := post_bind.mp h
  refine hi σ H B S _ R (h.mono fun p h J H1 B1 R1 e1 W => ?_)
  obtain ⟨ds, S1⟩ := p
  dsimp only at h R1 W
  obtain ⟨⟨ok, hlen⟩, h⟩ := post_when.mp h
  replace h := post_bind.mp h
  intro D hD
  obtain ⟨h0, hB1, nb⟩ := R1.new hD
  have hB0 : C.B0 D = none := by
    cases q : C.B0 D with
    | none => rfl
    | some o =>
      rw [R1.base.b0 D o q] at hB1
      cases hB1
  refine ⟨fun i m H' => m = ds.length - i ∧ i ≤ ds.length ∧ ∃ B' S' acc accd, Rep C (wipe σ vs) H' B' S' ∧ Same B1 B' ∧ H' D = some (.lst acc) ∧ Loose C (wipe σ vs) S' B' D ∧ DaAll K B' acc accd ∧ accd.length ≤ i ∧
    Post C (lcF fg ft fe vs (ds.drop i) S') (fun r => ∀ a us H'' B'', Rep C σ H'' B'' (backS S1 r.2 vs) → Same B B'' → H'' a = some (.lst us) → Loose C σ (backS S1 r.2 vs) B'' a → DaAll K B'' us (accd ++ r.1) → Q (.ref a) H''), ⟨ds.length, ?_⟩, ?_⟩
  · obtain ⟨R2, L2⟩ := (R1.wiped hv').newLoose (o := .lst []) hD
    exact ⟨by simp, Nat.zero_le _, B1, wipeS S1 vs, [], [], R2, Same.refl _, upd_same, L2, .nil, Nat.le_refl _, h.mono fun r q => q⟩
  rintro i m H' ⟨rfl, hi, B', S', acc, accd, R', e', hA, L, dA, lA, q⟩
  have eH : Same B1 H' := e'.trans R'.base.bh
  rcases Nat.lt_or_ge i ds.length with hlt | hge
  · refine .inr ⟨W.go i H' hlt eH, _, fun H2 z => ⟨ds.length - (i + 1), by omega, rfl, hlt, z⟩, ?_⟩
    intro x H2 y
    have Rh := R'.hold hA L
    obtain ⟨B2, R2, e2, dx, _⟩ := W.yld i H' H2 x ds[i] (List.getElem?_eq_getElem hlt) y (C.hold D acc) (wipe σ vs) B' S' Rh e'
    rw [List.drop_eq_getElem_cons hlt] at q
    replace q := post_bind.mp q
    refine hg (C.hold D acc) (wipe σ vs) H2 B2 S' x ds[i] _ R2 dx (hold_post h0 (q.mono fun S3 q σ3 R3 l3 k3 => ?_))
    have hw : wipe σ3 vs = wipe σ vs := by
      have hw1 : wipe σ3 vs = wipe (wipe σ vs) vs := wipe_ext l3 fun j hj => k3 j fun z => hj (hts' j z)
      have hw2 : wipe (wipe σ vs) vs = wipe σ vs := wipe_ext (wipe_length _ _) fun j hj => wipe_out hj
      rw [hw1, hw2]
    refine ⟨hw, ?_⟩
    replace q := post_bind.mp q
    -- what a turn leaves is the next turn's start
    have next : ∀ {H4 B4 : Hp} {S4 : SS}, Rep (C.hold D acc) σ3 H4 B4 S4 → Rep C (wipe σ vs) H4 B4 (wipeS S4 vs) ∧ H4 D = some (.lst acc) ∧ Loose C (wipe σ vs) (wipeS S4 vs) B4 D ∧ Rep C σ3 H4 B4 S4 ∧ Loose C σ3 S4 B4 D := fun R4 => by
      obtain ⟨R5, hD5, L5⟩ := R4.unhold h0 hB0 nb
      have R6 := R5.wiped hv'
      rw [hw] at R6
      refine ⟨R6, hD5, ⟨L5.b, h0, fun j u z m e => ?_⟩, R5, L5⟩
      obtain ⟨z1, z2⟩ := wipeS_some z
      refine L5.no j u z2 m ?_
      rw [← hw, wipe_out z1] at e
      exact e
    refine ht (C.hold D acc) σ3 H2 B2 S3 _ R3 (hold_post h0 (q.mono fun p q H3 B3 R4 e3 => ?_))
    obtain ⟨c, S4⟩ := p
    cases c with
    | false =>
      obtain ⟨R6, hD6, L6, _, _⟩ := next R4
      have e13 := e2.trans e3
      exact ⟨B3, wipeS S4 vs, acc, accd, R6, e'.trans e13, hD6, L6, daa_mono e13 dA, by omega, q⟩
    | true =>
      replace q : Post C ((fe S4).bind _) _ := q
      replace q := post_bind.mp q
      refine he (C.hold D acc) σ3 H3 B3 S4 _ R4 (hold_post h0 (q.mono fun r q v H5 B5 R5 e5 d5 => ?_))
      replace q := post_bind.mp q
      obtain ⟨R6, hD6, L6, R7, L7⟩ := next R5
      have e15 := e2.trans (e3.trans e5)
      refine ⟨acc, hD6, Nat.lt_of_lt_of_le (Nat.lt_of_le_of_lt (Nat.le_of_eq (daa_len dA)) (Nat.lt_of_le_of_lt lA hlt)) (line_le hlen), ?_⟩
      have R8 : Rep C (wipe σ vs) (upd H5 D (.lst (acc ++ [v]))) B5 (wipeS r.2 vs) := by
        refine R6.grow ⟨fun a o na z => ?_, R6.base.b0, fun a o z => ?_, R6.base.fr⟩ (Same.refl _) fun a o z1 z2 ⟨j, u, z3, z4, z5⟩ => ⟨?_, z2⟩
        · rw [upd_ne (ne_of_none z h0)]
          exact R6.base.keep a o na z
        · rw [upd_ne (ne_of_none z L6.b)]
          exact R6.base.bh a o z
        · rw [upd_ne]
          · exact z1
          · rintro rfl
            exact L6.no j u z3 z4 z5
      refine ⟨B5, wipeS r.2 vs, acc ++ [v], accd ++ [r.1], R8, e'.trans e15, upd_same, L6, daa_app (daa_mono e15 dA) (.cons d5 .nil), ?_, ?_⟩
      · rw [List.length_append, List.length_singleton]
        omega
      · refine q.mono fun w q a us H'' B'' Ra eb hA' L' d' => q a us H'' B'' Ra eb hA' L' ?_
        rw [List.append_assoc] at d'
        exact d'
  · have ei : i = ds.length := by omega
    subst ei
    rw [List.drop_length] at q
    refine .inl ⟨W.stop H' eH, ?_⟩
    have Rb := R1.back R' e' ok hv'
    refine q D acc H' B' Rb (e1.trans e') hA ⟨L.b, h0, fun j u z m e => ?_⟩ (by rw [List.append_nil]; exact dA)
    rcases backS_some z with ⟨z1, z2⟩ | ⟨z1, z2⟩
    · rw [okS_at ok z1 z2] at m
      cases m
    · exact L.no j u z2 m (by rw [wipe_out z1]; exact e)
end
end Bo

namespace Bo
open PySem L2
section
variable {K : PySem.W.Frag} {n : Nat} {C : Ct K n} {σ : L2.St} {H B : Hp} {S : SS}
/-! ### a slot's own list, read -/
def ownD (S : SS) (i : Nat) : R (List PyData) := match S[i]? with
  | some (some (.own ds)) => .ok ds
  | _ => .bad
theorem own_of {i : Nat} {k : List PyData → Prop} (R : Rep C σ H B S) (h : Post C (ownD S i) k) : ∃ ds a vs, S[i]? = some (some (.own ds)) ∧ σ[i]? = some (some (.ref a)) ∧ H a = some (.lst vs) ∧ DaAll K B vs ds ∧ k ds := by
  unfold ownD at h
  split at h
  · rename_i ds e
    obtain ⟨v, hv, a, vs, rfl, h1, _, h3⟩ := R.slot i _ e
    exact ⟨ds, a, vs, e, hv, h1, h3, h⟩
  · exact h.elim
def vLenO (i : Nat) : VE := fun S => (ownD S i).bind fun ds => .ok (.int ds.length, S)
theorem s_lenO {i : Nat} : SE C (tCB (fun xs H Q => ∃ p ys, xs = [.ref p] ∧ (SqL K H p ys ∨ SqT K H p ys) ∧ Q (.int ys.length) H) (tCons (tVar i) tNil)) (vLenO i) := by
  intro σ H B S Q R h
  obtain ⟨ds, a, vs, e1, e2, e3, e4, h⟩ := own_of R (post_bind.mp h)
  exact ⟨_, e2, a, vs, rfl, .inl (SqL.of e3), by rw [daa_len e4]; exact h _ H B R (Same.refl _) (.int _)⟩
def vIxO (i : Nat) (fk : VE) : VE := fun S => (ownD S i).bind fun _ => (fk S).bind fun p => (ownD p.2 i).bind fun ds => (toI p.1).bind fun k => (ixD ds k).bind fun d => .ok (d, p.2)
def vInO (neg : Bool) (fa : VE) (i : Nat) : VE := fun S => (fa S).bind fun p => (ownD p.2 i).bind fun ds => R.when (flatD p.1 = true ∧ ds.all flatD = true) (.ok (.bool (if neg then !inD p.1 ds else inD p.1 ds), p.2))
def vTupleO (i : Nat) : VE := fun S => (ownD S i).bind fun ds => .ok (.tuple ds, S)
theorem s_tupleO {i : Nat} : SE C (tCB (fun xs H Q => ∃ p ys, xs = [.ref p] ∧ ((SqL K H p ys ∧ ∀ l, H l = none → Q (.ref l) (upd H l (.tup ys))) ∨ (SqT K H p ys ∧ Q (.ref p) H))) (tCons (tVar i) tNil)) (vTupleO i) := by
  intro σ H B S Q R h
  obtain ⟨ds, a, vs, e1, e2, e3, e4, h⟩ := own_of R (post_bind.mp h)
  refine ⟨_, e2, a, vs, rfl, .inl ⟨SqL.of e3, fun l hl => ?_⟩⟩
  obtain ⟨B', R1, e1, d1⟩ := R.tup hl e4
  exact h _ _ B' R1 e1 d1
def vListO (i : Nat) : VF := fun S => (ownD S i).bind fun ds => .ok (ds, S)
def vTruO (i : Nat) : VT := fun S => (ownD S i).bind fun ds => .ok (!ds.isEmpty, S)
/-! ### a slot's own list, changed -/
/-- xs.append(e) -/
def vApp (i : Nat) (fe : VE) : VE := fun S => (ownD S i).bind fun _ => (fe S).bind fun p => (ownD p.2 i).bind fun ds => R.when (ds.length < 100000) (.ok (.none, p.2.set i (some (.own (ds ++ [p.1])))))
theorem s_app {i : Nat} {te : TE} {fe : VE} (he : SE C te fe) : SE C (tBM K "list" rAppend (tVar i) (tCons te tNil)) (vApp i fe) := by
  intro σ H B S Q R h
  obtain ⟨ds0, a0, vs0, q1, q2, q3, q4, h⟩ := own_of R (post_bind.mp h)
  refine ⟨_, q2, .inl ⟨rfl, _, SqL.of q3⟩, ?_⟩
  replace h := post_bind.mp h
  refine he σ H B S _ R (h.mono fun p h1 v H1 B1 R1 e1 d1 => ?_)
  obtain ⟨ds, a, vs, p1, p2, p3, p4, h1⟩ := own_of R1 (post_bind.mp h1)
  rw [q2] at p2
  cases p2
  obtain ⟨k, h1⟩ := post_when.mp h1
  refine ⟨_, vs, v, rfl, rfl, p3, Nat.lt_of_lt_of_le (by rw [daa_len p4]; exact k) (by decide), ?_⟩
  obtain ⟨_, _, w1, w2, w3⟩ := R1.own_at p1 rfl
  rw [q2] at w1
  cases w1
  exact h1 _ _ B1 (R1.write p1 rfl rfl q2 ⟨_, vs ++ [v], rfl, upd_same, w3, daa_app p4 (.cons d1 .nil)⟩) e1 .non
/-- xs[k] = e -/
def vSetI (i : Nat) (fk fe : VE) : VS := fun S => (fe S).bind fun p => (ownD p.2 i).bind fun _ => (fk p.2).bind fun q => (ownD q.2 i).bind fun ds => (toI q.1).bind fun k => match ixN ds.length k with
  | some j => .ok (.nx (q.2.set i (some (.own (ds.set j p.1)))))
  | none => .bad
/-! ### dicts of a slot -/
def keyD : PyData → R Key
  | .int i => .ok (.inl i)
  | .str x => .ok (.inr x)
  | _ => .bad
theorem key_of {v : V} {d : PyData} {k : Key → Prop} (h : Da K B v d) (q : Post C (keyD d) k) : ∃ y, v = kV y ∧ keyD d = .ok y ∧ k y := by
  cases h <;> first | exact q.elim | exact ⟨_, rfl, rfl, q⟩
def putD (kvs : List (Key × PyData)) (k : Key) (d : PyData) : List (Key × PyData) :=
  if (kvs.any fun kv => decide (kv.1 = k)) = true then kvs.map (fun kv => if kv.1 = k then (kv.1, d) else kv) else kvs ++ [(k, d)]
theorem dpks_any {ws : List (Key × V)} {kvs : List (Key × PyData)} {k : Key} : DpKs K B ws kvs → (ws.any fun kv => decide (kv.1 = k)) = kvs.any fun kv => decide (kv.1 = k)
  | .nil => rfl
  | .cons h t => by
    have ih := dpks_any (k := k) t
    rw [List.any_cons, List.any_cons, h.1, ih]
theorem dpks_map {ws : List (Key × V)} {kvs : List (Key × PyData)} {k : Key} {v : V} {d : PyData} (dv : Da K B v d) : DpKs K B ws kvs → DpKs K B (ws.map fun kv => if kv.1 = k then (kv.1, v) else kv) (kvs.map fun kv => if kv.1 = k then (kv.1, d) else kv)
  | .nil => .nil
  | .cons (b := b) h t => by
    refine .cons ?_ (dpks_map dv t)
    dsimp only
    rw [h.1]
    by_cases e : b.1 = k
    · rw [if_pos e, if_pos e]
      exact ⟨rfl, dv⟩
    · rw [if_neg e, if_neg e]
      exact h
theorem dpks_app {ws xs : List (Key × V)} {kvs es : List (Key × PyData)} (s : DpKs K B xs es) : DpKs K B ws kvs → DpKs K B (ws ++ xs) (kvs ++ es)
  | .nil => s
  | .cons h t => .cons h (dpks_app s t)
theorem dpks_len {ws : List (Key × V)} {kvs : List (Key × PyData)} : DpKs K B ws kvs → ws.length = kvs.length
  | .nil => rfl
  | .cons _ t => congrArg (· + 1) (dpks_len t)
theorem dpks_put {ws : List (Key × V)} {kvs : List (Key × PyData)} {k : Key} {v : V} {d : PyData} (h : DpKs K B ws kvs) (dv : Da K B v d) : DpKs K B (putK ws k v) (putD kvs k d) := by
  unfold putK putD
  rw [dpks_any h]
  split
  · exact dpks_map dv h
  · exact dpks_app (.cons ⟨rfl, dv⟩ .nil) h
def dicD (S : SS) (i : Nat) : R (List (Key × PyData)) := match S[i]? with
  | some (some (.dic ds)) => .ok ds
  | _ => .bad
theorem dic_of {i : Nat} {k : List (Key × PyData) → Prop} (R : Rep C σ H B S) (h : Post C (dicD S i) k) : ∃ ds a vs, S[i]? = some (some (.dic ds)) ∧ σ[i]? = some (some (.ref a)) ∧ H a = some (.dK vs) ∧ DpKs K B vs ds ∧ k ds := by
  unfold dicD at h
  split at h
  · rename_i ds e
    obtain ⟨v, hv, a, vs, rfl, h1, _, h3⟩ := R.slot i _ e
    exact ⟨ds, a, vs, e, hv, h1, h3, h⟩
  · exact h.elim
/-- d[k] = e: the value first -/
def vPutD (i : Nat) (fk fe : VE) : VS := fun S => (fe S).bind fun p => (dicD p.2 i).bind fun _ => (fk p.2).bind fun q => (keyD q.1).bind fun y => (dicD q.2 i).bind fun kvs => R.when (kvs.length < 100000) (.ok (.nx (q.2.set i (some (.dic (putD kvs y p.1))))))
theorem st_putD {i : Nat} {tk te : TE} {fk fe : VE} (hk : SE C tk fk) (he : SE C te fe) : SSt C (sDPut (tVar i) tk te) (vPutD i fk fe) := by
  intro σ H B S D R h
  replace h := post_bind.mp h
  refine he σ H B S _ R (h.mono fun p h1 v H1 B1 R1 e1 d1 => ?_)
  obtain ⟨ds0, a0, vs0, q1, q2, q3, q4, h1⟩ := dic_of R1 (post_bind.mp h1)
  refine ⟨_, q2, ?_⟩
  replace h1 := post_bind.mp h1
  refine hk σ H1 B1 p.2 _ R1 (h1.mono fun q h2 w H2 B2 R2 e2 d2 => ?_)
  obtain ⟨y, rfl, _, h2⟩ := key_of d2 (post_bind.mp h2)
  obtain ⟨kvs, a, ws, p1, p2, p3, p4, h2⟩ := dic_of R2 (post_bind.mp h2)
  rw [q2] at p2
  cases p2
  obtain ⟨k, h2⟩ := post_when.mp h2
  obtain ⟨_, _, w1, w2, w3⟩ := R2.own_at p1 rfl
  rw [q2] at w1
  cases w1
  refine ⟨_, _, rfl, .inl ⟨ws, y, p3, rfl, Nat.lt_of_lt_of_le (by rw [dpks_len p4]; exact k) (by decide), rfl⟩, ?_⟩
  exact h2 _ _ B2 (R2.write p1 rfl rfl q2 ⟨_, putK ws y v, rfl, upd_same, w3, dpks_put p4 (da_mono e2 d1)⟩) (e1.trans e2)
/-! ### calls -/
def Frz (H B B' : Hp) : Prop := ∀ a o, B' a = some o → B a = some o ∨ H a = none
def R.okTo {α : Type} (x : R α) (k : α → Prop) : Prop := match x with
  | .ok a => k a
  | _ => False
def R.noErr {α : Type} (x : R α) : R α := match x with
  | .ok a => .ok a
  | _ => .bad
/-- a def that changes nothing and raises nothing -/
def spP (K : PySem.W.Frag) (m : Nat) (den : List PyData → R PyData) : Sp := fun vs H Q _ => ∃ (ds : List PyData) (B : Hp), DaAll K B vs ds ∧ Same B H ∧ ds.length = m ∧
  (den ds).okTo fun z => ∀ v H' B', Same H H' → Same B B' → Same B' H' → Frz H B B' → Da K B' v z → Q v H'
/-- .. a dict -/
def spD (K : PySem.W.Frag) (m : Nat) (den : List (Key × PyData) → List PyData → R (PyData × List (Key × PyData))) : Sp := fun vs H Q _ => ∃ (a : Addr) (us : List V) (ws : List (Key × V)) (bs : List (Key × PyData)) (ds : List PyData) (B : Hp), vs = .ref a :: us ∧ H a = some (.dK ws) ∧ B a = none ∧ DpKs K B ws bs ∧ DaAll K B us ds ∧ Same B H ∧ ds.length = m ∧
  (den bs ds).okTo fun z => ∀ v H' B' ws', (∀ b o, b ≠ a → H b = some o → H' b = some o) → Same B B' → Same B' H' → Frz H B B' → B' a = none → H' a = some (.dK ws') → DpKs K B' ws' z.2 → Da K B' v z.1 → Q v H'
/-- a def of the script -/
def spS (K : PySem.W.Frag) (den : List Int → R PyData) : Sp := fun vs H Q _ => ∃ (a : Addr) (ns : List Int) (B : Hp), vs = [.ref a] ∧ SqL K B a (ns.map V.int) ∧ Same B H ∧
  (den ns).okTo fun z => ∀ v H' B', Same H H' → Same B B' → Same B' H' → Frz H B B' → Da K B' v z → Q v H'
theorem okTo_of {α : Type} {x : R α} {k : α → Prop} (h : Post C x.noErr k) : x.okTo k := by
  cases x with
  | ok a => exact h
  | err e => exact h.elim
  | bad => exact h.elim
theorem R.okTo.mono {α : Type} {x : R α} {k k' : α → Prop} (h : x.okTo k) (m : ∀ a, k a → k' a) : x.okTo k' := by
  cases x with
  | ok a => exact m a h
  | err e => exact h
  | bad => exact h
/-- behind a call that changed nothing of ours -/
theorem Rep.after {H' B' : Hp} (R : Rep C σ H B S) (sH : Same H H') (sB : Same B B') (bh : Same B' H') (fz : Frz H B B') : Rep C σ H' B' S := by
  refine R.grow ⟨fun a o na q => sH a o (R.base.keep a o na q), R.base.b0.trans sB, bh, fun a o q => ?_⟩ sB fun a o h1 h2 _ => ⟨sH a o h1, ?_⟩
  · rcases fz a o q with z | z
    · exact R.base.fr a o z
    · exact .inr (R.new z).1
  · cases q : B' a with
    | none => rfl
    | some u =>
      rcases fz a u q with z | z
      · exact nomatch (h2.symm.trans z)
      · exact nomatch (h1.symm.trans z)
def vCallP (m : Nat) (den : List PyData → R PyData) (fa : VA) : VE := fun S => (fa S).bind fun p => R.when (p.1.length = m) (((den p.1).noErr).bind fun z => .ok (z, p.2))
theorem s_callP {m : Nat} {den : List PyData → R PyData} {E : XK} {ta : TA} {fa : VA} (ha : SA C ta fa) : SE C (tCall (spP K m den) [] E ta) (vCallP m den fa) := by
  intro σ H B S Q R h
  replace h := post_bind.mp h
  refine ha σ H B S _ R (h.mono fun p h1 vs H1 B1 R1 e1 d1 => ?_)
  obtain ⟨k, h1⟩ := post_when.mp h1
  replace h1 := post_bind.mp h1
  rw [List.append_nil]
  exact ⟨p.1, B1, d1, R1.base.bh, k, (okTo_of h1).mono fun z h2 v H' B' sH sB bh fz dv => h2 v H' B' (R1.after sH sB bh fz) (e1.trans sB) dv⟩
/-- behind a call that changed our slot's list -/
theorem Rep.afterB {H' B' : Hp} {i : Nat} {a : Addr} {s s' : SV} {o' : HO} (R : Rep C σ H B S) (h : S[i]? = some (some s)) (m : s.mine = true) (m' : s'.mine = true) (hv : σ[i]? = some (some (.ref a))) (sH : ∀ b o, b ≠ a → H b = some o → H' b = some o) (sB : Same B B') (bh : Same B' H') (fz : Frz H B B')
    (hb : B' a = none) (hH : H' a = some o') (r : SR C H' B' (.ref a) s') : Rep C σ H' B' (S.set i (some s')) := by
  obtain ⟨a', o, e1, e2, e3⟩ := R.own_at h m
  rw [hv] at e1
  cases e1
  -- first the change at a alone, then the growth of the rest
  have hl : i < S.length := (List.getElem?_eq_some_iff.mp h).1
  have at_ : ∀ j u, (S.set i (some s'))[j]? = some (some u) → (j = i ∧ u = s') ∨ (j ≠ i ∧ S[j]? = some (some u)) := fun j u h => by
    by_cases e : j = i
    · subst e
      rw [List.getElem?_set_self hl] at h
      cases h
      exact .inl ⟨rfl, rfl⟩
    · rw [List.getElem?_set_ne (Ne.symm e)] at h
      exact .inr ⟨e, h⟩
  have old : ∀ (j : Nat) (u : SV), (S.set i (some s'))[j]? = some (some u) → u.mine = true → ∃ u' : SV, S[j]? = some (some u') ∧ u'.mine = true := fun j u h2 m2 => by
    rcases at_ j u h2 with ⟨x1, x2⟩ | ⟨x1, x2⟩
    · subst x1
      exact ⟨s, h, m⟩
    · exact ⟨u, x2, m2⟩
  refine ⟨⟨fun b u nb q => ?_, R.base.b0.trans sB, bh, fun b u q => ?_⟩, by simp [R.len], fun j u h2 => ?_, fun j k u w b h1 h2 m1 m2 q1 q2 => ?_, fun j u b h1 m e => ?_, fun j b h1 => ?_⟩
  · refine sH b u ?_ (R.base.keep b u nb q)
    rintro rfl
    rcases R.ownf i s b h m hv with z | z
    · rw [z] at q
      cases q
    · exact nb (List.mem_of_getElem? z)
  · rcases fz b u q with z | z
    · exact R.base.fr b u z
    · exact .inr (R.new z).1
  · rcases at_ j u h2 with ⟨x1, x2⟩ | ⟨x1, x2⟩
    · subst x1 x2
      exact ⟨_, hv, r⟩
    · obtain ⟨v, q1, q2⟩ := R.slot j u x2
      refine ⟨v, q1, SR.mono sB (fun mu b e ob h1 h2 => ⟨sH b ob ?_ h1, ?_⟩) q2⟩
      · rintro rfl
        exact x1 (R.dis j i u s b x2 h mu m (by rw [q1, e]) hv)
      · cases q : B' b with
        | none => rfl
        | some w =>
          rcases fz b w q with z | z
          · exact nomatch (h2.symm.trans z)
          · exact nomatch (h1.symm.trans z)
  · obtain ⟨u', z1, z2⟩ := old j u h1 m1
    obtain ⟨w', z3, z4⟩ := old k w h2 m2
    exact R.dis j k u' w' b z1 z3 z2 z4 q1 q2
  · obtain ⟨u', z1, z2⟩ := old j u h1 m
    exact R.ownf j u' b z1 z2 e
  · obtain ⟨q1, u, q2, q3⟩ := R.box j b h1
    refine ⟨q1, ?_⟩
    by_cases e : j = i
    · subst e
      exact ⟨s', List.getElem?_set_self hl, m'⟩
    · rw [List.getElem?_set_ne (Ne.symm e)]
      exact ⟨u, q2, q3⟩
def vCallB (m : Nat) (den : List PyData → List PyData → R (PyData × List PyData)) (i : Nat) (fa : VA) : VE := fun S => (ownD S i).bind fun _ => (fa S).bind fun p => (ownD p.2 i).bind fun bs => R.when (p.1.length = m) (((den bs p.1).noErr).bind fun z => .ok (z.1, p.2.set i (some (.own z.2))))
def vCallD (m : Nat) (den : List (Key × PyData) → List PyData → R (PyData × List (Key × PyData))) (i : Nat) (fa : VA) : VE := fun S => (dicD S i).bind fun _ => (fa S).bind fun p => (dicD p.2 i).bind fun bs => R.when (p.1.length = m) (((den bs p.1).noErr).bind fun z => .ok (z.1, p.2.set i (some (.dic z.2))))
theorem s_callD {m i : Nat} {den : List (Key × PyData) → List PyData → R (PyData × List (Key × PyData))} {E : XK} {ta : TA} {fa : VA} (ha : SA C ta fa) : SE C (tCall (spD K m den) [] E (tCons (tVar i) ta)) (vCallD m den i fa) := by
  intro σ H B S Q R h
  obtain ⟨ds0, a0, vs0, q1, q2, q3, q4, h⟩ := dic_of R (post_bind.mp h)
  refine ⟨_, q2, ?_⟩
  replace h := post_bind.mp h
  refine ha σ H B S _ R (h.mono fun p h1 vs H1 B1 R1 e1 d1 => ?_)
  obtain ⟨bs, a, ws, p1, p2, p3, p4, h1⟩ := dic_of R1 (post_bind.mp h1)
  rw [q2] at p2
  cases p2
  obtain ⟨k, h1⟩ := post_when.mp h1
  replace h1 := post_bind.mp h1
  obtain ⟨_, _, w1, w2, w3⟩ := R1.own_at p1 rfl
  rw [q2] at w1
  cases w1
  rw [List.append_nil]
  exact ⟨_, vs, ws, bs, p.1, B1, rfl, p3, w3, p4, d1, R1.base.bh, k, (okTo_of h1).mono fun z h2 v H' B' ws' sH sB bh fz hb hH dw dv =>
    h2 v H' B' (R1.afterB p1 rfl rfl q2 sH sB bh fz hb hH ⟨_, ws', rfl, hH, hb, dw⟩) (e1.trans sB) dv⟩
/-- the script -/
def vCallS (den : List Int → R PyData) (i : Nat) : VE := fun S => match S[i]? with
  | some (some (.scr ns)) => ((den ns).noErr).bind fun z => .ok (z, S)
  | _ => .bad
/-- for x in script -/
theorem walks_scr {a : Addr} {ns : List Int} (s : SqL K B a (ns.map V.int)) : Walks C B (Itl K a) (ns.map PyData.int) where
  go := fun i H hi e => by
    rw [List.length_map] at hi
    exact ⟨_, .int ns[i], sm_l e s, by rw [List.getElem?_map, List.getElem?_eq_getElem hi]; rfl⟩
  stop := fun H e => ⟨_, sm_l e s, by rw [List.length_map, List.length_map]; exact Nat.le_refl _⟩
  yld := fun i H H' x d hd y C σ B1 S R e => by
    obtain ⟨rfl, y⟩ := y
    have hx := y _ (sm_l (e.trans R.base.bh) s)
    rw [List.getElem?_map] at hx hd
    cases q : ns[i]? with
    | none => rw [q] at hd; cases hd
    | some z =>
      rw [q] at hx hd
      cases hx
      cases hd
      exact ⟨B1, R, Same.refl _, .int _, fun _ _ z => z⟩
def vScr (i : Nat) : VF := fun S => match S[i]? with
  | some (some (.scr ns)) => .ok (ns.map PyData.int, S)
  | _ => .bad
theorem i_scr {i : Nat} : SI C (iList K (tVar i)) (vScr i) := by
  intro σ H B S Rr R h
  unfold vScr at h
  split at h
  · rename_i ns e
    obtain ⟨v, hv, a, rfl, sq⟩ := R.slot i _ e
    exact ⟨_, hv, a, rfl, ⟨_, sm_l R.base.bh sq⟩, h _ H B R (Same.refl _) (walks_scr sq)⟩
  · exact h.elim
/-! ### a def by its body -/
def endP (x : R FL) : R PyData := x.bind fun fl => match fl with
  | .nx _ => .ok .none
  | .rt d _ => .ok d
  | _ => .bad
def startS (N : Nat) (ds : List PyData) : SS := ds.map (fun d => some (.dat d)) ++ List.replicate (N - ds.length) none
/-- what a def is worth: N names, its body -/
def denP (N : Nat) (f : VS) : List PyData → R PyData := fun ds => endP (f (startS N ds))
theorem startS_some {N : Nat} {ds : List PyData} {i : Nat} {s : SV} (h : (startS N ds)[i]? = some (some s)) : ∃ d, ds[i]? = some d ∧ s = .dat d := by
  unfold startS at h
  by_cases hi : i < ds.length
  · rw [List.getElem?_append_left (by rw [List.length_map]; exact hi), List.getElem?_map, List.getElem?_eq_getElem hi] at h
    cases h
    exact ⟨_, List.getElem?_eq_getElem hi, rfl⟩
  · rw [List.getElem?_append_right (by rw [List.length_map]; omega), List.getElem?_replicate] at h
    split at h <;> cases h
theorem start_get {N : List Str} {vs : List V} {i : Nat} {v : V} (h : vs[i]? = some v) : (L2.start N vs)[i]? = some (some v) := by
  have hi := (List.getElem?_eq_some_iff.mp h).1
  unfold L2.start
  rw [List.getElem?_append_left (by rw [List.length_map]; exact hi), List.getElem?_map, h]
  rfl
def ct0 (H B : Hp) (er : Exc → V → Hp → Prop) : Ct K 0 := ⟨H, B, [], rfl, er⟩
theorem rep_start {N : List Str} {vs : List V} {ds : List PyData} {er : Exc → V → Hp → Prop} (d : DaAll K B vs ds) (bh : Same B H) : Rep (ct0 (K := K) H B er) (L2.start N vs) H B (startS N.length ds) := by
  have nomine : ∀ (i : Nat) s, (startS N.length ds)[i]? = some (some s) → s.mine = true → False := fun i s h m => by
    obtain ⟨d, _, rfl⟩ := startS_some h
    cases m
  refine ⟨⟨fun a o _ q => q, Same.refl _, bh, fun a o q => .inl q⟩, ?_, fun i s h => ?_, fun i j s u a h1 h2 m1 m2 e1 e2 => (nomine i s h1 m1).elim, fun i s a h m e => (nomine i s h m).elim, fun i a h => nomatch (show (none : Option Addr) = some a from h)⟩
  · unfold startS L2.start
    rw [List.length_append, List.length_append, List.length_map, List.length_map, List.length_replicate, List.length_replicate, daa_len d]
  · obtain ⟨d', h1, rfl⟩ := startS_some h
    obtain ⟨v, h2, h3⟩ := daa_get d h1
    exact ⟨v, start_get h2, h3⟩
theorem len_P {m : Nat} {den : List PyData → R PyData} {vs : List V} {Q : VK} {E : XK} (h : spP K m den vs H Q E) : vs.length = m := by
  obtain ⟨ds, B, d, _, e, _⟩ := h
  rw [daa_len d, e]
theorem post_okTo {α : Type} {x : R α} {k : α → Prop} {n : Nat} {C : Ct K n} (h : x.okTo k) : Post C x k := by
  cases x with
  | ok a => exact h
  | err e => exact h.elim
  | bad => exact h.elim
theorem run_P {m : Nat} {N : List Str} {f : VS} {t : TS} {vs : List V} {Q : VK} {E : XK} (s : ∀ C : Ct K 0, SSt C t f) (h : spP K m (denP N.length f) vs H Q E) : t { nx := fun _ H' => Q .non H', rt := Q } (L2.start N vs) H := by
  obtain ⟨ds, B, d, bh, _, h⟩ := h
  have R := rep_start (N := N) (er := fun _ _ _ => True) d bh
  refine s _ _ H B _ _ R ?_
  unfold denP endP at h
  have h2 := post_okTo (C := ct0 (K := K) H B fun _ _ _ => True) h
  refine (post_bind.mp h2).mono fun fl q => ?_
  cases fl with
  | nx S => exact fun σ' H' B' R' e => q .non H' B' (fun a o z => R'.base.keep a o (by simp [ct0]) z) e R'.base.bh (fun a o z => R'.base.fr a o z) .non
  | rt d S => exact fun v σ' H' B' R' e dv => q v H' B' (fun a o z => R'.base.keep a o (by simp [ct0]) z) e R'.base.bh (fun a o z => R'.base.fr a o z) dv
  | bk S => exact q.elim
  | ct S => exact q.elim
/-- .. with a list that it may change -/
def endB (x : R FL) : R (PyData × List PyData) := x.bind fun fl => match fl with
  | .nx S => (ownD S 0).bind fun bs => .ok (.none, bs)
  | .rt d S => (ownD S 0).bind fun bs => .ok (d, bs)
  | _ => .bad
def denB (N : Nat) (f : VS) : List PyData → List PyData → R (PyData × List PyData) := fun bs ds => endB (f (some (.own bs) :: startS (N - 1) ds))
def endD (x : R FL) : R (PyData × List (Key × PyData)) := x.bind fun fl => match fl with
  | .nx S => (dicD S 0).bind fun bs => .ok (.none, bs)
  | .rt d S => (dicD S 0).bind fun bs => .ok (d, bs)
  | _ => .bad
def denD (N : Nat) (f : VS) : List (Key × PyData) → List PyData → R (PyData × List (Key × PyData)) := fun bs ds => endD (f (some (.dic bs) :: startS (N - 1) ds))
def ct1 (H B : Hp) (a : Addr) (er : Exc → V → Hp → Prop) : Ct K 1 := ⟨H, B, [a], rfl, er⟩
theorem rep_startB {x : Str} {N : List Str} {a : Addr} {us : List V} {ds : List PyData} {s : SV} {er : Exc → V → Hp → Prop} (m : s.mine = true) (r : SR (ct1 (K := K) H B a er) H B (.ref a) s) (d : DaAll K B us ds) (bh : Same B H) :
    Rep (ct1 (K := K) H B a er) (L2.start (x :: N) (.ref a :: us)) H B (some s :: startS N.length ds) := by
  have e0 : L2.start (x :: N) (.ref a :: us) = some (.ref a) :: L2.start N us := by
    unfold L2.start
    rw [List.map_cons, List.length_cons, List.length_cons, Nat.add_sub_add_right]
    rfl
  rw [e0]
  have mine : ∀ (i : Nat) u, (some s :: startS N.length ds)[i]? = some (some u) → u.mine = true → i = 0 := fun i u h mu => by
    cases i with
    | zero => rfl
    | succ i =>
      obtain ⟨d, _, rfl⟩ := startS_some (show (startS N.length ds)[i]? = some (some u) from h)
      cases mu
  refine ⟨⟨fun a o _ q => q, Same.refl _, bh, fun a o q => .inl q⟩, ?_, fun i u h => ?_, fun i j s u a h1 h2 m1 m2 e1 e2 => by rw [mine i s h1 m1, mine j u h2 m2], fun i u b h mu e => ?_, fun i b h => ?_⟩
  · unfold startS L2.start
    rw [List.length_cons, List.length_cons, List.length_append, List.length_append, List.length_map, List.length_map, List.length_replicate, List.length_replicate, daa_len d]
  · cases i with
    | zero =>
      cases (Option.some.inj (Option.some.inj (show some (some s) = some (some u) from h)))
      exact ⟨_, rfl, r⟩
    | succ i =>
      obtain ⟨d', h1, rfl⟩ := startS_some (show (startS N.length ds)[i]? = some (some u) from h)
      obtain ⟨v, h2, h3⟩ := daa_get d h1
      exact ⟨v, start_get h2, h3⟩
  · have z := mine i u h mu
    subst z
    have e' : some (some (V.ref a)) = some (some (V.ref b)) := e
    cases e'
    exact .inr rfl
  · cases i with
    | zero =>
      have h' : some a = some b := h
      cases h'
      exact ⟨rfl, s, rfl, m⟩
    | succ i => exact nomatch (show (none : Option Addr) = some b from h)
theorem len_D {m : Nat} {den : List (Key × PyData) → List PyData → R (PyData × List (Key × PyData))} {vs : List V} {Q : VK} {E : XK} (h : spD K m den vs H Q E) : vs.length = m + 1 := by
  obtain ⟨a, us, ws, bs, ds, B, rfl, _, _, _, d, _, e, _⟩ := h
  rw [List.length_cons, daa_len d, e]
theorem run_D {m : Nat} {x : Str} {N : List Str} {f : VS} {t : TS} {vs : List V} {Q : VK} {E : XK} (s : ∀ C : Ct K 1, SSt C t f) (h : spD K m (denD (x :: N).length f) vs H Q E) : t { nx := fun _ H' => Q .non H', rt := Q } (L2.start (x :: N) vs) H := by
  obtain ⟨a, us, ws, bs, ds, B, rfl, hH, hB, dw, d, bh, _, h⟩ := h
  have R := rep_startB (x := x) (N := N) (er := fun _ _ _ => True) (s := .dic bs) rfl ⟨a, ws, rfl, hH, hB, dw⟩ d bh
  refine s _ _ H B _ _ R ?_
  unfold denD endD at h
  have h2 := post_okTo (C := ct1 (K := K) H B a fun _ _ _ => True) h
  refine (post_bind.mp h2).mono fun fl q => ?_
  have fin : ∀ {S : SS} {z : PyData} {σ' : L2.St} {H' B' : Hp} {v : V}, Post (ct1 (K := K) H B a fun _ _ _ => True) (dicD S 0) (fun bs => ∀ v H' B' ws', (∀ b o, b ≠ a → H b = some o → H' b = some o) → Same B B' → Same B' H' → Frz H B B' → B' a = none → H' a = some (.dK ws') → DpKs K B' ws' bs → Da K B' v z → Q v H') →
      Rep (ct1 (K := K) H B a fun _ _ _ => True) σ' H' B' S → Same B B' → Da K B' v z → Q v H' := fun {S z σ' H' B' v} q R' e dv => by
    obtain ⟨bs', a', ws', q1, q2, q3, q4, q⟩ := dic_of R' q
    obtain ⟨e0, _⟩ := R'.box 0 a rfl
    rw [q2] at e0
    cases e0
    obtain ⟨_, _, w1, w2, w3⟩ := R'.own_at q1 rfl
    rw [q2] at w1
    cases w1
    exact q v H' B' ws' (fun b o nb z => R'.base.keep b o (by simpa [ct1] using nb) z) e R'.base.bh (fun b o z => R'.base.fr b o z) w3 q3 q4 dv
  cases fl with
  | nx S => exact fun σ' H' B' R' e => fin (post_bind.mp q) R' e .non
  | rt d S => exact fun v σ' H' B' R' e dv => fin (post_bind.mp q) R' e dv
  | bk S => exact q.elim
  | ct S => exact q.elim
/-- .. of the script -/
def denS (N : Nat) (f : VS) : List Int → R PyData := fun ns => endP (f (some (.scr ns) :: List.replicate (N - 1) none))
theorem len_S {den : List Int → R PyData} {vs : List V} {Q : VK} {E : XK} (h : spS K den vs H Q E) : vs.length = 1 := by
  obtain ⟨a, ns, B, rfl, _⟩ := h
  rfl
theorem run_S {x : Str} {N : List Str} {f : VS} {t : TS} {vs : List V} {Q : VK} {E : XK} (s : ∀ C : Ct K 0, SSt C t f) (h : spS K (denS (x :: N).length f) vs H Q E) : t { nx := fun _ H' => Q .non H', rt := Q } (L2.start (x :: N) vs) H := by
  obtain ⟨a, ns, B, rfl, sq, bh, h⟩ := h
  have at_ : ∀ (i : Nat) u, (some (SV.scr ns) :: List.replicate ((x :: N).length - 1) none)[i]? = some (some u) → i = 0 ∧ u = .scr ns := fun i u q => by
    cases i with
    | zero => exact ⟨rfl, (Option.some.inj (Option.some.inj (show some (some (SV.scr ns)) = some (some u) from q))).symm⟩
    | succ i =>
      have q' : (List.replicate ((x :: N).length - 1) (none : Option SV))[i]? = some (some u) := q
      rw [List.getElem?_replicate] at q'
      split at q' <;> cases q'
  have R : Rep (ct0 (K := K) H B fun _ _ _ => True) (L2.start (x :: N) [V.ref a]) H B (some (.scr ns) :: List.replicate ((x :: N).length - 1) none) := by
    refine ⟨⟨fun a o _ q => q, Same.refl _, bh, fun a o q => .inl q⟩, ?_, fun i s h => ?_, fun i j s u a h1 h2 m1 m2 e1 e2 => ?_, fun i s a h m e => ?_, fun i a h => nomatch (show (none : Option Addr) = some a from h)⟩
    · unfold L2.start
      simp
    · obtain ⟨rfl, rfl⟩ := at_ i s h
      exact ⟨_, start_get rfl, a, rfl, sq⟩
    · obtain ⟨rfl, rfl⟩ := at_ i s h1
      cases m1
    · obtain ⟨rfl, rfl⟩ := at_ i s h
      cases m
  refine s _ _ H B _ _ R ?_
  unfold denS endP at h
  have h2 := post_okTo (C := ct0 (K := K) H B fun _ _ _ => True) h
  refine (post_bind.mp h2).mono fun fl q => ?_
  cases fl with
  | nx S => exact fun σ' H' B' R' e => q .non H' B' (fun a o z => R'.base.keep a o (by simp [ct0]) z) e R'.base.bh (fun a o z => R'.base.fr a o z) .non
  | rt d S => exact fun v σ' H' B' R' e dv => q v H' B' (fun a o z => R'.base.keep a o (by simp [ct0]) z) e R'.base.bh (fun a o z => R'.base.fr a o z) dv
  | bk S => exact q.elim
  | ct S => exact q.elim
end
end Bo

namespace Bo
open PySem L2
section
variable {K : PySem.W.Frag} {n : Nat} {C : Ct K n} {σ : L2.St} {H B : Hp} {S : SS}
def cMulS (i j : Int) : Bool := decide ((-(2 ^ 64) < i ∧ i < 2 ^ 64) ∨ (-(2 ^ 64) < j ∧ j < 2 ^ 64))
theorem o_mulS : SR2 C (rI CMul fun i j => .int (i * j)) (gIC cMulS fun i j => i * j) := o_ic fun i j h => by
  unfold cMulS at h
  have h' := of_decide_eq_true h
  exact h'
def cPow (i j : Int) : Bool := decide (0 ≤ j ∧ j ≤ 1000000 ∧ i.natAbs < 2 ^ 64)
theorem o_pow : SR2 C (rI CPow fun i j => .int (i ^ j.toNat)) (gIC cPow fun i j => i ^ j.toNat) := o_ic fun i j h => by
  unfold cPow at h
  have h' := of_decide_eq_true h
  exact h'
/-! new lists by + and * -/
def vRepF (fa fb : VE) : VF := fun S => (fa S).bind fun p => (fb p.2).bind fun q => match p.1, q.1 with
  | .list ds, .int k => R.when (ds.length * k.toNat ≤ 100000 ∧ k ≤ 100000 ∧ -100000 ≤ k) (.ok ((List.replicate k.toNat ds).flatten, q.2))
  | _, _ => .bad
/-! texts -/
/-! equal data -/
end
end Bo

/-! ### enumerate and zip over lists and tuples in any mix: out of what next tells of any two sources -/
namespace Bo
open PySem L2
/-- a list, or a tuple -/
inductive Kd where
  | L | T
namespace Kd
def Sq (k : Kd) (K : PySem.W.Frag) (H : Hp) (a : Addr) (xs : List V) : Prop := match k with
  | .L => SqL K H a xs
  | .T => SqT K H a xs
def Is (k : Kd) (h : Heap) (a : Addr) (items : Array Value) : Prop := match k with
  | .L => h.IsList a items
  | .T => h.IsTuple a items
def At (k : Kd) (h : Heap) (it a : Addr) (i : Nat) : Prop := match k with
  | .L => h.IsListIter it a i
  | .T => h.IsTupleIter it a i
def ob (k : Kd) (a : Addr) : Obj := match k with
  | .L => { cls := .type "list_iterator", data := .fields #[.ref a, .int 0 0] }
  | .T => { cls := .type "tuple_iterator", data := .fields #[.ref a, .int 0 0] }
variable {k : Kd} {K : PySem.W.Frag} {a it : Addr} {h h' : Heap} {items : Array Value}
theorem begins : Begins (.ref a) (k.ob a) (fun h => k.Is h a items) := match k with
  | .L => begins_list a items
  | .T => begins_tuple a items
theorem start_ (e : h.get? it = some (k.ob a)) : k.At h it a 0 := match k with
  | .L => ⟨_, e, rfl, rfl⟩
  | .T => ⟨_, e, rfl, rfl⟩
theorem live {i : Nat} (st : k.At h it a i) : ∃ o, h.get? it = some o ∧ ∀ v, o.data ≠ .cell v := match k, st with
  | .L, ⟨o, e, _, d⟩ => ⟨o, e, fun v z => nomatch (d.symm.trans z)⟩
  | .T, ⟨o, e, _, d⟩ => ⟨o, e, fun v z => nomatch (d.symm.trans z)⟩
theorem stay {i : Nat} (st : k.At h it a i) (e : ∀ o, h.get? it = some o → h'.get? it = some o) : k.At h' it a i := match k, st with
  | .L, st => Heap.IsListIter.at st e
  | .T, st => Heap.IsTupleIter.at st e
theorem draws {P : Program} {w : World} {A : Around} (hh : A.handled = none) (ne : a ≠ it) : Draws P w A it [it, a] items.size (fun i v => items[i]? = some v) (fun i h => k.At h it a i ∧ k.Is h a items) := match k with
  | .L => Draws.list hh it a ne items
  | .T => Draws.tuple hh it a ne items
theorem told {X : Cx} {pins : List (Addr × Obj)} {σ : L2.St} {H : Hp} {s : Shared} {xs : List V} (I : Inv X pins σ H s) (q : k.Sq X.K H a xs) : ∃ its : List Value, Vals xs its ∧ k.Is s.heap a its.toArray := match k, q with
  | .L, q => let ⟨its, r, p, _⟩ := I.list q; ⟨its, r, p.isList⟩
  | .T, q => let ⟨its, r, p, _⟩ := I.tuple q; ⟨its, r, p⟩
theorem one {X : Cx} {pins : List (Addr × Obj)} {σ : L2.St} {H : Hp} {s : Shared} {xs ys : List V} (I : Inv X pins σ H s) (q : k.Sq X.K H a xs) (q2 : k.Sq X.K H a ys) : xs = ys := match k, q, q2 with
  | .L, q, q2 => I.list_inj q q2
  | .T, q, q2 => I.tuple_inj q q2
theorem below (p : k.Is h a items) : a < h.objs.size := match k, p with
  | .L, ⟨_, e, _⟩ => Heap.lt_size e
  | .T, ⟨_, e, _⟩ => Heap.lt_size e
end Kd
/-- a new pair at each turn: at turn i that of i and the i-th item of a, or of the i-th items of a and b -/
def ItP (go : Nat → Hp → Prop) (pr : Nat → Hp → V → V → Prop) (stop : Nat → Hp → Prop) : It :=
  ⟨go, fun i H v H' => ∃ q x y, v = .ref q ∧ H q = none ∧ H' = upd H q (.tup [x, y]) ∧ pr i H x y, stop⟩
/-- the step of such a walk, by what next tells -/
theorem pair_step {X : Cx} {pins : List (Addr × Obj)} {σ : L2.St} {H : Hp} {s : Shared} {wr : List Addr} {x y : V} {u v : Value} {q : Addr} {h' : Heap} {tk : Nat} (I : Inv X pins σ H s) (hw : ∀ b ∈ wr, FpOk X pins H b)
    (keep : ∀ b o, b ∉ wr → s.heap.get? b = some o → h'.get? b = some o) (hq : s.heap.objs.size ≤ q) (ht : h'.IsTuple q #[u, v]) (rx : RelV x u) (ry : RelV y v) : Inv X pins σ (upd H q (.tup [x, y])) { s with heap := h', toks := tk } :=
  I.turnedNew (ch := wr) keep hw hq ⟨(by show 2 ≤ sizeLine; decide), [u, v], .cons rx (.cons ry .nil), ht⟩
section
variable {P : Program} {w : World} {K : PySem.W.Frag} {elts : List Expr} {kk : Nat} {tpos : Pos}
structure ZFp (z p q i j a b : Addr) : Prop where
  s : ZipSep2 z p q i j [i, a] [j, b]
  na : a ≠ i
  nb : b ≠ j
def ItN (K : PySem.W.Frag) (k : Kd) (a : Addr) : It :=
  ItP (fun i H => ∃ xs x, k.Sq K H a xs ∧ xs[i]? = some x) (fun i H x y => x = .int (i : Nat) ∧ ∀ xs, k.Sq K H a xs → xs[i]? = some y) (fun i H => ∃ xs, k.Sq K H a xs ∧ i = xs.length)
theorem turn_enumK {k : Kd} {e it a : Addr} (ne : e ≠ it) (na : a ≠ it) (nea : a ≠ e) : Turn P w K (.Tuple elts kk tpos) (ItN K k a) [e, it] e (fun i h => (∃ old, IsEnum h e it (0 + (i : Int)) old) ∧ k.At h it a i) where
  mem := List.mem_cons_self
  obj := fun i h st c hc => by
    obtain ⟨⟨_, he⟩, h1⟩ := st
    simp only [List.mem_cons, List.not_mem_nil, or_false] at hc
    rcases hc with rfl | rfl
    · exact ⟨_, he, fun v z => nomatch z⟩
    · exact Kd.live h1
  keep := fun i h h' st k' => by
    obtain ⟨⟨old, he⟩, h1⟩ := st
    exact ⟨⟨old, k' e (by simp) _ he⟩, Kd.stay h1 fun o => k' it (by simp) o⟩
  item := by
    intro X hP hw hK hc i pins s σ H E I hf st hg
    subst hP hw hK
    obtain ⟨he, h1⟩ := st
    obtain ⟨xs, x, sx, ex⟩ := hg
    obtain ⟨us, ru, pu⟩ := Kd.told I sx
    have lu := ru.length
    have l1 := (List.getElem?_eq_some_iff.mp ex).1
    have W := GoesN.enumFrom (prog := X.prog) (w := X.w) (A := X.A) (elts := elts) (x1 := kk) (pos := tpos) 0 (k.draws (items := us.toArray) (show X.A.in1.handled = none from I.ok.hd hc) na) e ne (by simp [ne, Ne.symm nea]) (by simp)
    refine W.goes i s _ E (by rw [List.size_toArray]; omega) ⟨he, h1, pu⟩ fun v h' tk hY st' hk _ => ?_
    obtain ⟨t, tt, u1, rfl, ht, e1, hT⟩ := hY
    obtain ⟨u, hu, r1⟩ := ru.get ex
    have q1 : u1 = u := Option.some.inj (e1.symm.trans (by simpa using hu))
    subst q1
    have z0 : (0 : Int) + (i : Int) = (i : Nat) := Int.zero_add _
    rw [z0] at hT
    refine ⟨.ref t, _, pair_step I (wr := [e, it]) hf hk ht hT (x := .int (i : Nat)) ⟨tt, rfl⟩ r1, rfl, ⟨t, _, x, rfl, I.hok.fresh ht, rfl, rfl, fun xs' s' => by rw [Kd.one I s' sx]; exact ex⟩, ⟨st'.1, st'.2.1⟩, fun c hc' => ?_⟩
    have hlt : c < s.heap.objs.size := by
      obtain ⟨o, e⟩ : ∃ o, s.heap.get? c = some o := by
        simp only [List.mem_cons, List.not_mem_nil, or_false] at hc'
        obtain ⟨_, he'⟩ := he
        rcases hc' with rfl | rfl
        · exact ⟨_, he'⟩
        · exact ⟨_, (Kd.live h1).choose_spec.1⟩
      exact Heap.lt_size e
    rw [upd_ne (Nat.ne_of_lt (Nat.lt_of_lt_of_le hlt ht))]
    exact (hf c hc').1
  done := by
    intro X hP hw hK hc i pins s σ H E I hf st hg
    subst hP hw hK
    obtain ⟨he, h1⟩ := st
    obtain ⟨xs, sx, ei⟩ := hg
    obtain ⟨us, ru, pu⟩ := Kd.told I sx
    have W := GoesN.enumFrom (prog := X.prog) (w := X.w) (A := X.A) (elts := elts) (x1 := kk) (pos := tpos) 0 (k.draws (items := us.toArray) (show X.A.in1.handled = none from I.ok.hd hc) na) e ne (by simp [ne, Ne.symm nea]) (by simp)
    have ei' : us.toArray.size = i := by rw [List.size_toArray, ← ru.length, ei]
    exact W.stops s _ E (by rw [ei']; exact ⟨he, h1, pu⟩) fun h' tk hk _ => I.turnedL (t' := tk) (ch := [e, it]) hk hf
  self := fun A i s Q E st h => by
    obtain ⟨⟨_, he⟩, _⟩ := st
    exact wpAny_pyIter_enum he h
end
/-! the calls -/
section
variable {X : Cx} {e e2 : Expr} {ta : TA} {p pos tpos : Pos} {elts : List Expr} {kk : Nat}
open PySem.Spec PyProof.Rows in
/-- the enumeration is made -/
theorem enum_meets {v : Value} {o : Obj} {Z : Heap → Prop} (B : Begins v o Z) :
    Meets (Builtin.«enumerate.__new__» ⟨[.type "enumerate", v], []⟩) (fun _ R s => Z s.heap ∧ R (.ok (.ret (.ref (s.heap.push o).objs.size))) { s with heap := (s.heap.push o).push { cls := .type "enumerate", data := .fields #[.none, .bool false, .ref s.heap.objs.size, rawInt 0, .none, .none] } }) := by
  refine Meets.of_wp fun P w A R s hs => ?_
  obtain ⟨hz, hR⟩ := hs
  have known := sub_enumerate
  have first_ : ∀ {A' : Around} {E : Value → Shared → Prop} {Q : Value → Shared → Prop}, Q (.ref s.heap.objs.size) { s with heap := s.heap.push o } → wpAny (model P w) A' (pyIter v) Q E s := fun z => B.iter P w _ _ s _ hz z
  cases s with
  | mk hp g d tk os =>
    wp_walk using first_
    refine wpAny_stack_any fun st => wpAny_pure ?_
    split <;> first
      | (rename_i c _ _ _ _ _
         cases hc : (c == Value.type "enumerate") <;> (wp_walk using first_; exact ⟨_, rfl, hR⟩))
      | (wp_walk using first_; exact ⟨_, rfl, hR⟩)
def iEnumK (k : Kd) (K : PySem.W.Frag) (ta : TA) : TI := fun σ H R => ta σ H fun vs H1 => ∃ a xs, vs = [.ref a] ∧ k.Sq K H1 a xs ∧ R (ItN K k a) H1
open PySem.Spec PyProof.Rows in
theorem pi_enumK (k : Kd) (hg : Gl X "enumerate") (hm : X.mg "enumerate" = none) (ha : PA X [e] ta) (hs : starEach [e] X.env = [(false, eval e X.env)] := by rfl) : PI X (.Tuple elts kk tpos) (.Call (.Name "enumerate" p) [e] [] pos) (iEnumK k X.K ta) := by
  constructor
  intro pins s σ H R I h
  refine Call_ (ld_blt I hg hm boot_enumerate (callWith_type1 ?_ hs rfl))
  refine thn (ha.run pos pins s σ H _ I h) ?_
  rintro us s1 ⟨vs, H1, I1, rv, a, xs, rfl, qa, q⟩
  cases rv with
  | cons ra rest =>
    cases rest
    cases ra
    obtain ⟨ua, _, pa⟩ := Kd.told I1 qa
    have B := k.begins (a := a) (items := ua.toArray)
    have la := Kd.below pa
    refine callType_new F.called_enumerate (by decide) (F.typeCall_enumerate_1 _) (F.newCall_enumerate_1 _) (fun obj => F.args_object_init_2 obj _) F.entry_enumerate_new (enum_meets B) ⟨pa, ?_⟩
    have sz : (s1.heap.push (k.ob a)).objs.size = s1.heap.objs.size + 1 := Heap.size_push ..
    have e0 := Heap.get?_push_size (s1.heap.push (k.ob a)) (o := { cls := .type "enumerate", data := .fields #[.none, .bool false, .ref s1.heap.objs.size, rawInt 0, .none, .none] }) rfl
    rw [sz] at e0
    have old : ∀ c o, s1.heap.get? c = some o → ((s1.heap.push (k.ob a)).push { cls := .type "enumerate", data := .fields #[.none, .bool false, .ref s1.heap.objs.size, rawInt 0, .none, .none] }).get? c = some o := fun c o z => Heap.get?_push_of_some _ (Heap.get?_push_of_some _ z)
    have e1 := Heap.get?_push_of_some { cls := .type "enumerate", data := .fields #[.none, .bool false, .ref s1.heap.objs.size, rawInt 0, .none, .none] } (Heap.get?_push_size s1.heap (o := k.ob a) B.free)
    have en : IsEnum ((s1.heap.push (k.ob a)).push { cls := .type "enumerate", data := .fields #[.none, .bool false, .ref s1.heap.objs.size, rawInt 0, .none, .none] }) (s1.heap.objs.size + 1) s1.heap.objs.size (0 + ((0 : Nat) : Int)) .none := e0
    have ge : ∀ c ∈ [s1.heap.objs.size + 1, s1.heap.objs.size], s1.heap.objs.size ≤ c := fun c hc => by
      simp only [List.mem_cons, List.not_mem_nil, or_false] at hc
      omega
    rw [sz]
    exact ⟨⟨_, en, rfl⟩, wpAny_pyIter_enum en ⟨s1.heap.objs.size + 1, _, _, _, H1, rfl, I1.kept (t' := s1.toks) old, turn_enumK (Nat.succ_ne_self _) (Nat.ne_of_lt la) (Nat.ne_of_lt (Nat.lt_succ_of_lt la)), ⟨⟨_, en⟩, Kd.start_ e1⟩,
      fun c hc => I1.fpOk (ge c hc) (I1.hok.fresh (ge c hc)), q⟩⟩
end
end Bo

/-! ### sorted(d.items()): the pairs are made, then the list of them is sorted -/
namespace Bo
open PySem L2 L2.DX
section
variable {X : Cx}
end
section
variable {K : PySem.W.Frag} {n : Nat} {C : Ct K n} {σ : L2.St} {H B : Hp} {S : SS}
/-- all that is new but the list at l stays -/
theorem Rep.fresh {H' : Hp} {l : Addr} {zs : List V} (R : Rep C σ H B S) (sH : Same H H') (hl : H l = none) (hl' : H' l = some (.lst zs)) : ∃ B', Rep C σ H' B' S ∧ Same B B' ∧ Loose C σ S B' l ∧ ∀ a, H a = none → a ≠ l → B' a = H' a := by
  classical
  obtain ⟨h0, hb, _⟩ := R.new hl
  let B' : Hp := fun a => if H a = none ∧ a ≠ l then H' a else B a
  have bB : ∀ a o, H a = some o → B' a = B a := fun a o z => if_neg fun q => by
    rw [q.1] at z
    cases z
  have bN : ∀ a, H a = none → a ≠ l → B' a = H' a := fun a z n => if_pos ⟨z, n⟩
  have bL : B' l = none := (if_neg fun q => q.2 rfl).trans hb
  have sB : Same B B' := fun a o z => (bB a o (R.base.bh a o z)).trans z
  have bh : Same B' H' := fun a o z => by
    cases q : H a with
    | some u =>
      rw [bB a u q] at z
      exact sH a o (R.base.bh a o z)
    | none =>
      by_cases e : a = l
      · subst e
        exact nomatch (z.symm.trans bL)
      · rw [← bN a q e]
        exact z
  refine ⟨B', R.after sH sB bh (fun a o z => ?_), sB, ⟨bL, h0, fun j u q m e => ?_⟩, bN⟩
  · cases q : H a with
    | some u =>
      rw [bB a u q] at z
      exact .inl z
    | none => exact .inr rfl
  · obtain ⟨a, o, e1, e2, _⟩ := R.own_at q m
    rw [e] at e1
    cases e1
    exact nomatch (e2.symm.trans hl)
abbrev prD (e : Int × Int) : PyData := .tuple [.int e.1, .int e.2]
/-! enumerate, zip -/
theorem Kd.up {k : Kd} {p : Addr} {xs : List V} (e : Same B H) (h : k.Sq K B p xs) : k.Sq K H p xs := match k, h with
  | .L, h => sm_l e h
  | .T, h => sm_t e h
def listD : PyData → Option (List PyData)
  | .list ds => some ds
  | _ => none
def tupleD : PyData → Option (List PyData)
  | .tuple ds => some ds
  | _ => none
def kdD (k : Kd) : PyData → Option (List PyData) := match k with
  | .L => listD
  | .T => tupleD
theorem kd_of {k : Kd} {y : V} {e : PyData} {ds : List PyData} (h : Da K B y e) (q : kdD k e = some ds) : ∃ (p : Addr) (xs : List V), y = .ref p ∧ k.Sq K B p xs ∧ DaAll K B xs ds := by
  cases k with
  | L =>
    cases h with
    | lst s a => cases (Option.some.inj q); exact ⟨_, _, rfl, SqL.of s, a⟩
    | _ => exact nomatch q
  | T =>
    cases h with
    | tup s a => cases (Option.some.inj q); exact ⟨_, _, rfl, s, a⟩
    | _ => exact nomatch q
theorem walks_enumK {k : Kd} {a : Addr} {xs : List V} {ds : List PyData} (s : k.Sq K B a xs) (h : DaAll K B xs ds) (uniq : ∀ (C : Ct K n) σ H1 B1 S, Rep C σ H1 B1 S → Same B B1 → ∀ v H' i y, (ItN K k a).yld i H1 v H' → (∀ zs, k.Sq K H1 a zs → zs[i]? = some y) → True := by intros; trivial) : Walks C B (ItN K k a) (enumD ds) where
  go := fun i H hi e => by
    rw [enumD_len, ← daa_len h] at hi
    exact ⟨xs, xs[i], Kd.up e s, List.getElem?_eq_getElem hi⟩
  stop := fun H e => ⟨xs, Kd.up e s, by rw [enumD_len, daa_len h]⟩
  yld := fun i H H' x d hd y C σ B1 S R e => by
    obtain ⟨T, x0, x1, rfl, hT, rfl, rfl, y1⟩ := y
    have hx := y1 xs (Kd.up (e.trans R.base.bh) s)
    obtain ⟨d1, q1, q2⟩ := daa_at h hx
    obtain ⟨B', R1, e1, da⟩ := R.tup (xs := [.int (i : Nat), x1]) (ds := [.int (i : Nat), d1]) hT (.cons (.int _) (.cons (da_mono e q2) .nil))
    rw [enumD_get q1] at hd
    cases hd
    exact ⟨B', R1, e1, da, fun D o z => by rw [upd_ne (ne_of_none z hT)]; exact z⟩
def vEnumK (k : Kd) (fa : VA) : VF := fun S => (fa S).bind fun p => match p.1 with
  | [d] => match kdD k d with
    | some ds => .ok (enumD ds, p.2)
    | none => .bad
  | _ => .bad
theorem i_enumK {k : Kd} {ta : TA} {fa : VA} (ha : SA C ta fa) : SI C (iEnumK k K ta) (vEnumK k fa) := by
  intro σ H B S Rr R h
  replace h := post_bind.mp h
  refine ha σ H B S _ R (h.mono fun p h1 v H1 B1 R1 e1 d1 => ?_)
  obtain ⟨d, S1⟩ := p
  dsimp only at d1 h1 R1
  split at h1
  · cases d1 with
    | cons q1 t =>
      cases t
      split at h1
      · rename_i ds q
        obtain ⟨p, xs, rfl, sq, da⟩ := kd_of q1 q
        exact ⟨p, xs, rfl, Kd.up R1.base.bh sq, h1 _ H1 B1 R1 e1 (walks_enumK sq da)⟩
      · exact h1.elim
  · exact h1.elim
def vZipK (k l : Kd) (fa : VA) : VF := fun S => (fa S).bind fun p => match p.1 with
  | [d, e] => match kdD k d, kdD l e with
    | some ds, some es => .ok (zipD ds es, p.2)
    | _, _ => .bad
  | _ => .bad
/-! list(range(n)), sorted(ints) -/
def vListRg (fa : VE) : VF := fun S => (fa S).bind fun p => (toI p.1).bind fun j => R.when (-1000000 ≤ j ∧ j ≤ 1000000) (.ok (rangeD 0 j.toNat, p.2))
def gSortI : List PyData → R PyData
  | [.list ds] => match intsD ds with
    | some ns => .ok (.list ((ns.mergeSort fun a b => decide (a ≤ b)).map PyData.int))
    | none => .bad
  | _ => .bad
end
end Bo

/-! ### the rules with K named, and some more statements -/
namespace Bo
open PySem L2
section
variable {X : Cx} (K : PySem.W.Frag) (h : X.K = K := by rfl)
include h
theorem k_in : OpR X (compareOp .In) (rIn K false) := h ▸ op_in_seq
theorem k_len : CallR X (.builtin "len") (fun xs H Q => ∃ p ys, xs = [.ref p] ∧ (SqL K H p ys ∨ SqT K H p ys) ∧ Q (.int ys.length) H) := h ▸ call_len_seq
theorem k_tuple : CallR X (.type "tuple") (fun xs H Q => ∃ p ys, xs = [.ref p] ∧ ((SqL K H p ys ∧ ∀ l, H l = none → Q (.ref l) (upd H l (.tup ys))) ∨ (SqT K H p ys ∧ Q (.ref p) H))) := h ▸ call_tuple_of
theorem k_catA : OpR X (binaryOp .Add) (rCatA K) := h ▸ op_catA
theorem k_eqD (hu : X.A.units + 64 < cLine) : OpR X (compareOp .Eq) (rEqD K) := h ▸ op_eqD hu
theorem k_slL : SlR X (rSlL K) := h ▸ sl_list
theorem k_all (hc : X.calm = true) : CallR X (.builtin "all") (rAll K) := h ▸ cr_all hc
theorem k_iList {tg l : Expr} {tl : TE} (hl : PE X l tl) : PI X tg l (iList K tl) := h ▸ pi_list hl
theorem k_iTup {tg l : Expr} {tl : TE} (hl : PE X l tl) : PI X tg l (iTup K tl) := h ▸ pi_tup hl
theorem k_gTup {es : List Expr} {k : Nat} {t : TGs} {n : Nat} {pos : Pos} (hc : X.calm = true) (hh : PGs X es t) (hn : (assignEach es X.env).length = n := by rfl) (hst : (assignEach es X.env).findIdx? (·.1) = none := by rfl) : PG X (.Tuple es k pos) (gTup K n t) := h ▸ pg_tup hc hh hn hst
end
section
variable {K : PySem.W.Frag} {n : Nat} {C : Ct K n} {σ : L2.St} {H B : Hp} {S : SS}
/-- x += e, ints -/
def vAug (i : Nat) (f : Int → Int → Int) (fe : VE) : VS := fun S => match S[i]? with
  | some (some (.dat (.int a))) => (fe S).bind fun p => (toI p.1).bind fun b => .ok (.nx (p.2.set i (some (.dat (.int (f a b))))))
  | _ => .bad
end
end Bo

/-! ### lists of a slot, lent to a call that tells a plain value, and walked -/
namespace Bo
open PySem L2
section
variable {K : PySem.W.Frag} {n : Nat} {C : Ct K n} {σ : L2.St} {H B : Hp} {S : SS}
def vConsO (i : Nat) (fr : VA) : VA := fun S => (ownD S i).bind fun _ => (fr S).bind fun q => (ownD q.2 i).bind fun ds => .ok (.list ds :: q.1, q.2)
def vCallL (m : Nat) (den : List PyData → R PyData) (fa : VA) : VE := fun S => (fa S).bind fun p => R.when (p.1.length = m) (((den p.1).noErr).bind fun z => R.when (flatD z = true) (.ok (z, p.2)))
/-! walks over a slot's list, as it stands at each turn -/
/-- a turn's item, by place -/
def itO (pair : Bool) (k : Nat) (d : PyData) : PyData := if pair = true then .tuple [.int (k : Nat), d] else d
/-- the walk J over the list of slot i, told by Rep -/
structure WalkO (C : Ct K n) (σ : L2.St) (i : Nat) (J : It) (pair : Bool) : Prop where
  go : ∀ (k : Nat) H B S ds, Rep C σ H B S → S[i]? = some (some (.own ds)) → k < ds.length → J.go k H
  stop : ∀ (k : Nat) H B S ds, Rep C σ H B S → S[i]? = some (some (.own ds)) → k = ds.length → J.stop k H
  yld : ∀ (k : Nat) H H' B S ds d x, Rep C σ H B S → S[i]? = some (some (.own ds)) → ds[k]? = some d → J.yld k H x H' → ∃ B', Rep C σ H' B' S ∧ Same B B' ∧ Da K B' x (itO pair k d) ∧ ∀ D o, H D = some o → H' D = some o
/-- turns from place k on -/
def lcO (pair : Bool) (i : Nat) (fg : PyData → SS → R SS) (ft : VT) (fe : VE) (vs : List Nat) : Nat → Nat → SS → R (List PyData × SS)
  | 0, _, _ => .bad
  | m + 1, k, S => (ownD S i).bind fun ds => match ds[k]? with
    | none => R.when (k = ds.length) (.ok ([], S))
    | some d => (fg (itO pair k d) S).bind fun S1 => (ft S1).bind fun p => if p.1 = true then (fe p.2).bind fun q => (lcO pair i fg ft fe vs m (k + 1) (wipeS q.2 vs)).bind fun r => .ok (q.1 :: r.1, r.2) else lcO pair i fg ft fe vs m (k + 1) (wipeS p.2 vs)
def vLcO (pair : Bool) (i : Nat) (vs : List Nat) (fg : PyData → SS → R SS) (ft : VT) (fe : VE) : VF := fun S => (ownD S i).bind fun _ => R.when (okS vs S = true) ((lcO pair i fg ft fe vs 100000 0 (wipeS S vs)).bind fun r => .ok (r.1, backS S r.2 vs))
end
end Bo

/-! ### the laws' own draws: what their defs are worth -/
namespace Bo
open PySem L2
end Bo

/-! ### reasoning about what code is worth -/
namespace Bo
open PySem L2
section
variable {α β : Type} {x : R α} {f : α → R β} {k : β → Prop}
theorem okTo_bind : (x.bind f).okTo k ↔ x.okTo fun a => (f a).okTo k := by cases x <;> exact Iff.rfl
theorem okTo_ok {a : β} : (R.ok a).okTo k ↔ k a := Iff.rfl
theorem okTo_noErr {x : R β} : x.noErr.okTo k ↔ x.okTo k := by cases x <;> exact Iff.rfl
theorem okTo_when {c : Prop} [Decidable c] {x : R β} : (R.when c x).okTo k ↔ c ∧ x.okTo k := by
  by_cases h : c
  · rw [R.when_pos h]
    exact ⟨fun q => ⟨h, q⟩, fun q => q.2⟩
  · rw [R.when_neg h]
    exact ⟨fun q => q.elim, fun q => (h q.1).elim⟩
theorem okTo_eq {x : R α} {a : α} {k : α → Prop} (e : x = .ok a) (h : k a) : x.okTo k := by rw [e]; exact h
end
/-- a loop by what holds between its turns -/
theorem loop_ok {fg : PyData → SS → R SS} {fb : VS} {ds : List PyData} {k : FL → Prop} (I : Nat → SS → Prop)
    (step : ∀ i d S, ds[i]? = some d → I i S → (fg d S).okTo fun S1 => (fb S1).okTo fun fl => match fl with
      | .nx S2 => I (i + 1) S2
      | .ct S2 => I (i + 1) S2
      | .bk S2 => k (.nx S2)
      | .rt d S2 => k (.rt d S2)) (done : ∀ S, I ds.length S → k (.nx S)) {S : SS} (h0 : I 0 S) : (loopF fg fb ds S).okTo k := by
  have go : ∀ (es : List PyData) (i : Nat) (S : SS), ds.drop i = es → i + es.length = ds.length → I i S → (loopF fg fb es S).okTo k := by
    intro es
    induction es with
    | nil =>
      intro i S _ hl h
      have e : i = ds.length := by simpa using hl
      rw [e] at h
      exact done S h
    | cons d es ih =>
      intro i S hd hl h
      have hi : ds[i]? = some d := by
        have := congrArg (fun l => l[0]?) hd
        simpa using this
      have hd2 : ds.drop (i + 1) = es := by
        have := congrArg List.tail hd
        simpa using this
      have hl2 : i + 1 + es.length = ds.length := by
        rw [List.length_cons] at hl
        omega
      unfold loopF
      rw [okTo_bind]
      refine (step i d S hi h).mono fun S1 h1 => ?_
      rw [okTo_bind]
      refine h1.mono fun fl h2 => ?_
      cases fl with
      | nx S2 => exact ih (i + 1) S2 hd2 hl2 h2
      | ct S2 => exact ih (i + 1) S2 hd2 hl2 h2
      | bk S2 => exact h2
      | rt d S2 => exact h2
  exact go ds 0 S rfl (by omega) h0
/-- a comprehension by what holds between its turns -/
theorem lc_ok {fg : PyData → SS → R SS} {ft : VT} {fe : VE} {vs : List Nat} {ds : List PyData} {k : List PyData × SS → Prop} (I : Nat → List PyData → SS → Prop)
    (step : ∀ i d acc S, ds[i]? = some d → I i acc S → (fg d S).okTo fun S1 => (ft S1).okTo fun p => if p.1 = true then (fe p.2).okTo fun q => I (i + 1) (acc ++ [q.1]) (wipeS q.2 vs) else I (i + 1) acc (wipeS p.2 vs))
    (done : ∀ acc S, I ds.length acc S → k (acc, S)) {S : SS} (h0 : I 0 [] S) : (lcF fg ft fe vs ds S).okTo k := by
  have go : ∀ (es : List PyData) (i : Nat) (acc : List PyData) (S : SS), ds.drop i = es → i + es.length = ds.length → I i acc S → (lcF fg ft fe vs es S).okTo fun r => k (acc ++ r.1, r.2) := by
    intro es
    induction es with
    | nil =>
      intro i acc S _ hl h
      have e : i = ds.length := by simpa using hl
      rw [e] at h
      show k (acc ++ [], S)
      rw [List.append_nil]
      exact done acc S h
    | cons d es ih =>
      intro i acc S hd hl h
      have hi : ds[i]? = some d := by
        have := congrArg (fun l => l[0]?) hd
        simpa using this
      have hd2 : ds.drop (i + 1) = es := by
        have := congrArg List.tail hd
        simpa using this
      have hl2 : i + 1 + es.length = ds.length := by
        rw [List.length_cons] at hl
        omega
      unfold lcF
      rw [okTo_bind]
      refine (step i d acc S hi h).mono fun S1 h1 => ?_
      rw [okTo_bind]
      refine h1.mono fun p h2 => ?_
      by_cases c : p.1 = true
      · rw [if_pos c] at h2 ⊢
        rw [okTo_bind]
        refine h2.mono fun q h3 => ?_
        rw [okTo_bind]
        refine (ih (i + 1) (acc ++ [q.1]) _ hd2 hl2 h3).mono fun r h4 => ?_
        rw [List.append_assoc] at h4
        exact h4
      · rw [if_neg c] at h2 ⊢
        exact ih (i + 1) acc _ hd2 hl2 h2
  exact (go ds 0 [] S rfl (by omega) h0).mono fun r h => h
/-! ### the draws -/
def dL (ns : List Int) : PyData := .list (ns.map PyData.int)
def TapeOk (ts : List Int) : Prop := (∀ x ∈ ts, 0 ≤ x ∧ x < 2147483629) ∧ ts.length ≤ 3000
theorem rangeD_get {lo : Int} {m i : Nat} {d : PyData} (h : (rangeD lo m)[i]? = some d) : i < m ∧ d = .int (lo + (i : Nat)) := by
  unfold rangeD at h
  rw [List.getElem?_map] at h
  obtain ⟨j, h1, rfl⟩ := Option.map_eq_some_iff.mp h
  obtain ⟨h2, h3⟩ := List.getElem?_eq_some_iff.mp h1
  rw [List.length_range] at h2
  rw [List.getElem_range] at h3
  exact ⟨h2, by rw [← h3]⟩
theorem rangeD_len {lo : Int} {m : Nat} : (rangeD lo m).length = m := by simp [rangeD]
local macro_rules | `(tactic| walk_at "ev") => `(tactic| simp only [okTo_bind, okTo_ok, okTo_noErr, okTo_when, R.bind_ok, vSeq, seqF, vAsg, vVar, vC, vOp, vUn, vCall, vCons, vNil, vTup, vLst, vFr, vLstF, vTst, toB, toI, gI, gIC, gIB, gNeg, gInt, gLen, gEq, gNe, eqF, vAnd, vOr, vNot, tNotF, tAndF, tOrF, vIfS, vIf, vNext, vRet, vRetN, vDrop, vOwn, vFrz, frzS, aName, vFor, vScr, vRange1, vApp, ownD, vIxO, vSetI, gIxL, gIxT, vInO, vCallP, vCallB, vTupleO, vListO, vLenO, List.getElem?_cons_zero, List.getElem?_cons_succ, List.set_cons_zero, List.set_cons_succ, List.length_cons, List.length_nil, startS, List.map_cons, List.map_nil, List.replicate_succ, List.replicate_zero, List.cons_append, List.nil_append, denP, denB, denS, endP, endB, Nat.sub_self, Nat.reduceSub])
local macro_rules | `(tactic| walk_at "ev0") => `(tactic| simp only [okTo_bind, okTo_ok, okTo_noErr, okTo_when, R.bind_ok, seqF, vAsg, vVar, vC, vOp, vUn, vCall, vCons, vNil, vTup, vLst, vFr, vLstF, vTst, toB, toI, gI, gIC, gIB, gNeg, gInt, gLen, gEq, gNe, eqF, vAnd, vOr, vNot, tNotF, tAndF, tOrF, vIfS, vIf, vNext, vRet, vRetN, vDrop, vOwn, vFrz, frzS, aName, vFor, vScr, vRange1, vApp, ownD, vIxO, vSetI, gIxL, gIxT, vInO, vCallP, vCallB, vTupleO, vListO, vLenO, List.getElem?_cons_zero, List.getElem?_cons_succ, List.set_cons_zero, List.set_cons_succ, List.length_cons, List.length_nil, startS, List.map_cons, List.map_nil, List.replicate_succ, List.replicate_zero, List.cons_append, List.nil_append, denP, denB, denS, endP, endB, Nat.sub_self, Nat.reduceSub])
theorem cMulS_l {i j : Int} (h : -(2 ^ 64) < i ∧ i < 2 ^ 64) : cMulS i j = true := decide_eq_true (.inl h)
theorem cMulS_r {i j : Int} (h : -(2 ^ 64) < j ∧ j < 2 ^ 64) : cMulS i j = true := decide_eq_true (.inr h)
theorem cMod_ok {i j : Int} (h : j ≠ 0) : cMod i j = true := decide_eq_true h
theorem pow_small {n k : Nat} (h : n < 2 ^ 64) (hk : 64 ≤ k) : n < 2 ^ k := Nat.lt_of_lt_of_le h (Nat.pow_le_pow_right (by decide) hk)
theorem cFdiv_ok {i j : Int} (h : j ≠ 0) (h2 : j.natAbs < 2 ^ 64) : cFdiv i j = true := decide_eq_true ⟨h, pow_small h2 (by decide)⟩
theorem modN {i m : Int} (h : 0 < m) : 0 ≤ i.fmod m ∧ i.fmod m < m := ⟨Int.fmod_nonneg_of_pos i h, Int.fmod_lt_of_pos i h⟩
/-- one statement, then the rest -/
theorem seq_ok {fa fb : VS} {S : SS} {k : FL → Prop} (h : (fa S).okTo fun fl => match fl with
    | .nx S1 => (fb S1).okTo k
    | f => k f) : (vSeq fa fb S).okTo k := by
  unfold vSeq
  rw [okTo_bind]
  refine h.mono fun fl q => ?_
  cases fl <;> exact q
theorem ixD_nat {ds : List PyData} {j : Nat} {d : PyData} (h : ds[j]? = some d) : ixD ds (j : Int) = .ok d := by
  unfold ixD
  rw [atI_nat h]
theorem ixD_int {ts : List Int} {i : Int} (h0 : 0 ≤ i) (h1 : i < (ts.length : Int)) : ∃ z ∈ ts, ixD (ts.map PyData.int) i = .ok (.int z) := by
  obtain ⟨j, rfl⟩ : ∃ j : Nat, i = (j : Int) := ⟨i.toNat, by omega⟩
  have hj : j < ts.length := by omega
  exact ⟨ts[j], List.getElem_mem hj, ixD_nat (by rw [List.getElem?_map, List.getElem?_eq_getElem hj]; rfl)⟩
/-- the law's state: the tape and the place -/
def Box (ts : List Int) (n : Int) (bs : List PyData) : Prop := TapeOk ts ∧ ∃ i : Int, 0 ≤ i ∧ i ≤ n ∧ bs = [dL ts, .int i]
end Bo

/-! ### stepping through what code is worth -/
namespace Bo
open PySem L2
section
variable {S S' : SS} {fa fb fc : VE} {ft fu : VT} {fr : VA} {fs ft' : VS} {ff : VF} {fo fp : VO} {i j m : Nat} {d e : PyData} {ds es : List PyData}
variable {kE : PyData × SS → Prop} {kT : Bool × SS → Prop} {kA : List PyData × SS → Prop} {kS : FL → Prop} {kO : Option Int × SS → Prop} {kG : SS → Prop} {kD : PyData → Prop}
theorem w_var (h : S[i]? = some (some (.dat d))) (q : kE (d, S)) : (vVar i S).okTo kE := by
  unfold vVar
  rw [h]
  exact q
theorem w_c (q : kE (d, S)) : (vC d S).okTo kE := q
theorem w_op {g : PyData → PyData → R PyData} (h : (fa S).okTo fun p => (fb p.2).okTo fun q => (g p.1 q.1).okTo fun z => kE (z, q.2)) : (vOp g fa fb S).okTo kE := by
  unfold vOp
  simp only [okTo_bind]
  exact h
theorem w_un {g : PyData → R PyData} (h : (fa S).okTo fun p => (g p.1).okTo fun z => kE (z, p.2)) : (vUn g fa S).okTo kE := by
  unfold vUn
  simp only [okTo_bind]
  exact h
theorem w_and (h : (fa S).okTo fun p => (toB p.1).okTo fun b => if b = true then (fb p.2).okTo kE else kE (.bool false, p.2)) : (vAnd fa fb S).okTo kE := by
  unfold vAnd
  simp only [okTo_bind]
  refine h.mono fun p q => q.mono fun b q => ?_
  cases b <;> exact q
theorem w_or (h : (fa S).okTo fun p => (toB p.1).okTo fun b => if b = true then kE (.bool true, p.2) else (fb p.2).okTo kE) : (vOr fa fb S).okTo kE := by
  unfold vOr
  simp only [okTo_bind]
  refine h.mono fun p q => q.mono fun b q => ?_
  cases b <;> exact q
theorem w_not (h : (fa S).okTo fun p => (toB p.1).okTo fun b => kE (.bool (!b), p.2)) : (vNot fa S).okTo kE := by
  unfold vNot
  simp only [okTo_bind]
  exact h
theorem w_toB {b : Bool} {k : Bool → Prop} (q : k b) : (toB (.bool b)).okTo k := q
theorem w_toI {b : Int} {k : Int → Prop} (q : k b) : (toI (.int b)).okTo k := q
theorem w_tst (h : (fa S).okTo fun p => (toB p.1).okTo fun b => kT (b, p.2)) : (vTst fa S).okTo kT := by
  unfold vTst
  simp only [okTo_bind]
  exact h
theorem w_tnot (h : (ft S).okTo fun p => kT (!p.1, p.2)) : (tNotF ft S).okTo kT := by
  unfold tNotF
  simp only [okTo_bind]
  exact h
theorem w_tand (h : (ft S).okTo fun p => if p.1 = true then (fu p.2).okTo kT else kT (false, p.2)) : (tAndF ft fu S).okTo kT := by
  unfold tAndF
  simp only [okTo_bind]
  refine h.mono fun p q => ?_
  by_cases c : p.1 = true
  · rw [if_pos c] at q ⊢
    exact q
  · rw [if_neg c] at q ⊢
    exact q
theorem w_tor (h : (ft S).okTo fun p => if p.1 = true then kT (true, p.2) else (fu p.2).okTo kT) : (tOrF ft fu S).okTo kT := by
  unfold tOrF
  simp only [okTo_bind]
  refine h.mono fun p q => ?_
  by_cases c : p.1 = true
  · rw [if_pos c] at q ⊢
    exact q
  · rw [if_neg c] at q ⊢
    exact q
theorem w_tru (h : (fa S).okTo fun p => (truD p.1).okTo fun b => kT (b, p.2)) : (vTru fa S).okTo kT := by
  unfold vTru
  simp only [okTo_bind]
  exact h
theorem w_if (h : (ft S).okTo fun p => if p.1 = true then (fa p.2).okTo kE else (fb p.2).okTo kE) : (vIf ft fa fb S).okTo kE := by
  unfold vIf
  simp only [okTo_bind]
  refine h.mono fun p q => ?_
  by_cases c : p.1 = true
  · rw [if_pos c] at q ⊢
    exact q
  · rw [if_neg c] at q ⊢
    exact q
theorem w_chain {g g' : PyData → PyData → R PyData} (h : (fa S).okTo fun p => (fb p.2).okTo fun q => (g p.1 q.1).okTo fun z => (toB z).okTo fun b => if b = true then (fc q.2).okTo fun r => (g' q.1 r.1).okTo fun z => kE (z, r.2) else kE (.bool false, q.2)) : (vChain g g' fa fb fc S).okTo kE := by
  unfold vChain
  simp only [okTo_bind]
  refine h.mono fun p h => h.mono fun q h => h.mono fun z h => h.mono fun b h => ?_
  cases b
  · exact h
  · simp only [if_true, okTo_bind] at h ⊢
    exact h
theorem w_nil (q : kA ([], S)) : (vNil S).okTo kA := q
theorem w_cons (h : (fa S).okTo fun p => (fr p.2).okTo fun q => kA (p.1 :: q.1, q.2)) : (vCons fa fr S).okTo kA := by
  unfold vCons
  simp only [okTo_bind]
  exact h
theorem w_tup (h : (fr S).okTo fun p => p.1.length ≤ 100000 ∧ kE (.tuple p.1, p.2)) : (vTup fr S).okTo kE := by
  unfold vTup
  simp only [okTo_bind, okTo_when]
  exact h
theorem w_lst (h : (fr S).okTo fun p => p.1.length ≤ 100000 ∧ kE (.list p.1, p.2)) : (vLst fr S).okTo kE := by
  unfold vLst
  simp only [okTo_bind, okTo_when]
  exact h
theorem w_lstF (h : (fr S).okTo fun p => p.1.length ≤ 100000 ∧ kA p) : (vLstF fr S).okTo kA := by
  unfold vLstF
  simp only [okTo_bind, okTo_when]
  exact h
theorem w_call {g : List PyData → R PyData} (h : (fr S).okTo fun p => (g p.1).okTo fun z => kE (z, p.2)) : (vCall g fr S).okTo kE := by
  unfold vCall
  simp only [okTo_bind]
  exact h
theorem w_callP {g : List PyData → R PyData} (h : (fr S).okTo fun p => p.1.length = m ∧ (g p.1).okTo fun z => kE (z, p.2)) : (vCallP m g fr S).okTo kE := by
  unfold vCallP
  simp only [okTo_bind, okTo_when, okTo_noErr]
  exact h
theorem w_callL {g : List PyData → R PyData} (h : (fr S).okTo fun p => p.1.length = m ∧ (g p.1).okTo fun z => flatD z = true ∧ kE (z, p.2)) : (vCallL m g fr S).okTo kE := by
  unfold vCallL
  simp only [okTo_bind, okTo_when, okTo_noErr]
  exact h
theorem w_own (h : S[i]? = some (some (.own ds))) {k : List PyData → Prop} (q : k ds) : (ownD S i).okTo k := by
  unfold ownD
  rw [h]
  exact q
theorem w_callB {g : List PyData → List PyData → R (PyData × List PyData)} (h : (ownD S i).okTo fun _ => (fr S).okTo fun p => (ownD p.2 i).okTo fun bs => p.1.length = m ∧ (g bs p.1).okTo fun z => kE (z.1, p.2.set i (some (.own z.2)))) : (vCallB m g i fr S).okTo kE := by
  unfold vCallB
  simp only [okTo_bind, okTo_when, okTo_noErr]
  exact h
theorem w_callS {g : List Int → R PyData} {ns : List Int} (h : S[i]? = some (some (.scr ns))) (q : (g ns).okTo fun z => kE (z, S)) : (vCallS g i S).okTo kE := by
  unfold vCallS
  rw [h]
  simp only [okTo_bind, okTo_noErr]
  exact q
theorem w_consO (h : (ownD S i).okTo fun _ => (fr S).okTo fun q => (ownD q.2 i).okTo fun ds => kA (.list ds :: q.1, q.2)) : (vConsO i fr S).okTo kA := by
  unfold vConsO
  simp only [okTo_bind]
  exact h
theorem w_fr (h : (ff S).okTo fun p => kE (.list p.1, p.2)) : (vFr ff S).okTo kE := by
  unfold vFr
  simp only [okTo_bind]
  exact h
theorem w_lenO (h : (ownD S i).okTo fun ds => kE (.int ds.length, S)) : (vLenO i S).okTo kE := by
  unfold vLenO
  simp only [okTo_bind]
  exact h
theorem w_tupleO (h : (ownD S i).okTo fun ds => kE (.tuple ds, S)) : (vTupleO i S).okTo kE := by
  unfold vTupleO
  simp only [okTo_bind]
  exact h
theorem w_listO (h : (ownD S i).okTo fun ds => kA (ds, S)) : (vListO i S).okTo kA := by
  unfold vListO
  simp only [okTo_bind]
  exact h
theorem w_ixO (h : (ownD S i).okTo fun _ => (fa S).okTo fun p => (ownD p.2 i).okTo fun ds => (toI p.1).okTo fun k => (ixD ds k).okTo fun d => kE (d, p.2)) : (vIxO i fa S).okTo kE := by
  unfold vIxO
  simp only [okTo_bind]
  exact h
theorem w_inO {neg : Bool} (h : (fa S).okTo fun p => (ownD p.2 i).okTo fun ds => (flatD p.1 = true ∧ ds.all flatD = true) ∧ kE (.bool (if neg then !inD p.1 ds else inD p.1 ds), p.2)) : (vInO neg fa i S).okTo kE := by
  unfold vInO
  simp only [okTo_bind, okTo_when]
  exact h
theorem w_truO (h : (ownD S i).okTo fun ds => kT (!ds.isEmpty, S)) : (vTruO i S).okTo kT := by
  unfold vTruO
  simp only [okTo_bind]
  exact h
theorem w_app (h : (ownD S i).okTo fun _ => (fa S).okTo fun p => (ownD p.2 i).okTo fun ds => ds.length < 100000 ∧ kE (.none, p.2.set i (some (.own (ds ++ [p.1]))))) : (vApp i fa S).okTo kE := by
  unfold vApp
  simp only [okTo_bind, okTo_when]
  exact h
theorem w_setI (h : (fb S).okTo fun p => (ownD p.2 i).okTo fun _ => (fa p.2).okTo fun q => (ownD q.2 i).okTo fun ds => (toI q.1).okTo fun k => ∃ j, ixN ds.length k = some j ∧ kS (.nx (q.2.set i (some (.own (ds.set j p.1)))))) : (vSetI i fa fb S).okTo kS := by
  unfold vSetI
  simp only [okTo_bind]
  refine h.mono fun p h => h.mono fun _ h => h.mono fun q h => h.mono fun ds h => h.mono fun k h => ?_
  obtain ⟨j, e, h⟩ := h
  rw [e]
  exact h
theorem w_sl {g : PyData → Option Int → Option Int → R PyData} (h : (fa S).okTo fun p => (fo p.2).okTo fun l => (fp l.2).okTo fun h => (g p.1 l.1 h.1).okTo fun z => kE (z, h.2)) : (vSl g fa fo fp S).okTo kE := by
  unfold vSl
  simp only [okTo_bind]
  exact h
theorem w_noPart (q : kO (none, S)) : (vNoPart S).okTo kO := q
theorem w_part (h : (fa S).okTo fun p => (toI p.1).okTo fun i => kO (some i, p.2)) : (vPart fa S).okTo kO := by
  unfold vPart
  simp only [okTo_bind]
  exact h
theorem w_iter (h : (fa S).okTo fun p => ∃ ds, p.1 = .list ds ∧ kA (ds, p.2)) : (vIter fa S).okTo kA := by
  unfold vIter
  simp only [okTo_bind]
  refine h.mono fun p ⟨ds, e, q⟩ => ?_
  rw [e]
  exact q
theorem w_iterT (h : (fa S).okTo fun p => ∃ ds, p.1 = .tuple ds ∧ kA (ds, p.2)) : (vIterT fa S).okTo kA := by
  unfold vIterT
  simp only [okTo_bind]
  refine h.mono fun p ⟨ds, e, q⟩ => ?_
  rw [e]
  exact q
theorem w_range1 (h : (fr S).okTo fun p => ∃ j, p.1 = [.int j] ∧ (-1000000 ≤ j ∧ j ≤ 1000000) ∧ kA (rangeD 0 j.toNat, p.2)) : (vRange1 fr S).okTo kA := by
  unfold vRange1
  simp only [okTo_bind]
  refine h.mono fun p ⟨j, e, c, q⟩ => ?_
  rw [e]
  exact okTo_when.mpr ⟨c, q⟩
theorem w_listRg (h : (fa S).okTo fun p => (toI p.1).okTo fun j => (-1000000 ≤ j ∧ j ≤ 1000000) ∧ kA (rangeD 0 j.toNat, p.2)) : (vListRg fa S).okTo kA := by
  unfold vListRg
  simp only [okTo_bind, okTo_when]
  exact h
theorem w_enumK {kd : Kd} (h : (fr S).okTo fun p => ∃ d ds, p.1 = [d] ∧ kdD kd d = some ds ∧ kA (enumD ds, p.2)) : (vEnumK kd fr S).okTo kA := by
  unfold vEnumK
  simp only [okTo_bind]
  refine h.mono fun p ⟨d, ds, e, c, q⟩ => ?_
  rw [e]
  simp only [c]
  exact q
theorem w_zipK {k l : Kd} (h : (fr S).okTo fun p => ∃ d e ds es, p.1 = [d, e] ∧ kdD k d = some ds ∧ kdD l e = some es ∧ kA (zipD ds es, p.2)) : (vZipK k l fr S).okTo kA := by
  unfold vZipK
  simp only [okTo_bind]
  refine h.mono fun p ⟨d, e, ds, es, e1, c1, c2, q⟩ => ?_
  rw [e1]
  simp only [c1, c2]
  exact q
theorem w_repF (h : (fa S).okTo fun p => (fb p.2).okTo fun q => ∃ ds k, p.1 = .list ds ∧ q.1 = .int k ∧ (ds.length * k.toNat ≤ 100000 ∧ k ≤ 100000 ∧ -100000 ≤ k) ∧ kA ((List.replicate k.toNat ds).flatten, q.2)) : (vRepF fa fb S).okTo kA := by
  unfold vRepF
  simp only [okTo_bind]
  refine h.mono fun p h => h.mono fun q ⟨ds, k, e1, e2, c, h⟩ => ?_
  rw [e1, e2]
  exact okTo_when.mpr ⟨c, h⟩
theorem w_lc {fg : PyData → SS → R SS} {vs : List Nat} (h : (ff S).okTo fun p => (okS vs p.2 = true ∧ p.1.length ≤ 100000) ∧ (lcF fg ft fa vs p.1 (wipeS p.2 vs)).okTo fun r => kA (r.1, backS p.2 r.2 vs)) : (vLc vs ff fg ft fa S).okTo kA := by
  unfold vLc
  simp only [okTo_bind, okTo_when]
  exact h
theorem w_yes (q : kT (true, S)) : (vYes S).okTo kT := q
/-! statements -/
theorem w_seq (h : (fs S).okTo fun fl => match fl with
    | .nx S1 => (ft' S1).okTo kS
    | f => kS f) : (vSeq fs ft' S).okTo kS := seq_ok h
theorem w_next (q : kS (.nx S)) : (vNext S).okTo kS := q
theorem w_ret (h : (fa S).okTo fun p => kS (.rt p.1 p.2)) : (vRet fa S).okTo kS := by
  unfold vRet
  simp only [okTo_bind]
  exact h
theorem w_retN (q : kS (.rt .none S)) : (vRetN S).okTo kS := q
theorem w_drop (h : (fa S).okTo fun p => kS (.nx p.2)) : (vDrop fa S).okTo kS := by
  unfold vDrop
  simp only [okTo_bind]
  exact h
theorem w_asg {fg : PyData → SS → R SS} (h : (fa S).okTo fun p => (fg p.1 p.2).okTo fun S1 => kS (.nx S1)) : (vAsg fa fg S).okTo kS := by
  unfold vAsg
  simp only [okTo_bind]
  exact h
theorem w_aName (q : kG (S.set i (some (.dat d)))) : (aName i d S).okTo kG := q
theorem w_aTup {fg : List PyData → SS → R SS} (c : ds.length = m) (q : (fg ds S).okTo kG) : (aTup m fg (.tuple ds) S).okTo kG := okTo_when.mpr ⟨c, q⟩
theorem w_aNil (q : kG S) : (aNil [] S).okTo kG := q
theorem w_aCons {fg : PyData → SS → R SS} {fgs : List PyData → SS → R SS} (q : (fg d S).okTo fun S1 => (fgs ds S1).okTo kG) : (aCons fg fgs (d :: ds) S).okTo kG := by
  unfold aCons
  simp only [okTo_bind]
  exact q
theorem w_ifS (h : (ft S).okTo fun p => if p.1 = true then (fs p.2).okTo kS else (ft' p.2).okTo kS) : (vIfS ft fs ft' S).okTo kS := by
  unfold vIfS
  simp only [okTo_bind]
  refine h.mono fun p q => ?_
  by_cases c : p.1 = true
  · rw [if_pos c] at q ⊢
    exact q
  · rw [if_neg c] at q ⊢
    exact q
theorem w_ownS (h : (ff S).okTo fun p => kS (.nx (p.2.set i (some (.own p.1))))) : (vOwn i ff S).okTo kS := by
  unfold vOwn
  simp only [okTo_bind]
  exact h
theorem w_frz (h : S[i]? = some (some (.own ds))) (q : (fs (S.set i (some (.dat (.list ds))))).okTo kS) : (vFrz i fs S).okTo kS := by
  unfold vFrz frzS
  rw [h]
  exact q
theorem w_for {fg : PyData → SS → R SS} (h : (ff S).okTo fun p => (loopF fg fs p.1 p.2).okTo kS) : (vFor ff fg fs S).okTo kS := by
  unfold vFor
  simp only [okTo_bind]
  exact h
theorem w_aug {f : Int → Int → Int} {a : Int} (h : S[i]? = some (some (.dat (.int a)))) (q : (fa S).okTo fun p => (toI p.1).okTo fun b => kS (.nx (p.2.set i (some (.dat (.int (f a b))))))) : (vAug i f fa S).okTo kS := by
  unfold vAug
  rw [h]
  simp only [okTo_bind]
  exact q
/-! values -/
theorem w_gI {f : Int → Int → Int} {a b : Int} (q : kD (.int (f a b))) : (gI f (.int a) (.int b)).okTo kD := q
theorem w_gIB {f : Int → Int → Bool} {a b : Int} (q : kD (.bool (f a b))) : (gIB f (.int a) (.int b)).okTo kD := q
theorem w_gIC {c : Int → Int → Bool} {f : Int → Int → Int} {a b : Int} (h : c a b = true ∧ kD (.int (f a b))) : (gIC c f (.int a) (.int b)).okTo kD := okTo_when.mpr h
theorem w_gEqI {a b : Int} (q : kD (.bool (decide (a = b)))) : (gEq (.int a) (.int b)).okTo kD := q
theorem w_gNeI {a b : Int} (q : kD (.bool (!decide (a = b)))) : (gNe (.int a) (.int b)).okTo kD := q
theorem w_gIxL {a : Int} (q : (ixD ds a).okTo kD) : (gIxL (.list ds) (.int a)).okTo kD := q
theorem w_gIxT {a : Int} (q : (ixD ds a).okTo kD) : (gIxT (.tuple ds) (.int a)).okTo kD := q
theorem w_gCat (h : ds.length + es.length ≤ 100000 ∧ kD (.list (ds ++ es))) : (gCat (.list ds) (.list es)).okTo kD := okTo_when.mpr h
theorem w_gCatT (h : ds.length + es.length ≤ 100000 ∧ kD (.tuple (ds ++ es))) : (gCatT (.tuple ds) (.tuple es)).okTo kD := okTo_when.mpr h
theorem w_isN (q : kD (.bool (isNone d))) : ((fun d e => R.when (isNone e = true) (.ok (.bool (isNone d)))) d PyData.none : R PyData).okTo kD := q
theorem w_notN (q : kD (.bool (!isNone d))) : ((fun d e => R.when (isNone e = true) (.ok (.bool (!isNone d)))) d PyData.none : R PyData).okTo kD := q
theorem w_gInL {neg : Bool} (h : (flatD d = true ∧ ds.all flatD = true) ∧ kD (.bool (if neg then !inD d ds else inD d ds))) : (gIn neg d (.list ds)).okTo kD := okTo_when.mpr h
theorem w_gLenL (q : kD (.int ds.length)) : (gLen [.list ds]).okTo kD := q
theorem w_gLenT (q : kD (.int ds.length)) : (gLen [.tuple ds]).okTo kD := q
theorem w_gIntI {a : Int} (q : kD (.int a)) : (gInt [.int a]).okTo kD := q
theorem w_gTuple (q : kD (.tuple ds)) : (gTuple [.list ds]).okTo kD := q
theorem w_gBools {f : List Bool → PyData} {bs : List Bool} (q : kD (f bs)) : (gBools f [.list (bs.map PyData.bool)]).okTo kD := by
  unfold gBools
  simp only [bools_map]
  exact q
theorem w_gInts {f : List Int → PyData} {bs : List Int} (q : kD (f bs)) : (gInts f [.list (bs.map PyData.int)]).okTo kD := by
  unfold gInts
  simp only [ints_map]
  exact q
theorem w_gNeD (h : (SeqAt.shaped d = true ∧ SeqAt.shaped e = true) ∧ kD (.bool (!PyData.eqv d e))) : (gNeD d e).okTo kD := okTo_when.mpr h
theorem w_gEqD (h : (SeqAt.shaped d = true ∧ SeqAt.shaped e = true) ∧ kD (.bool (PyData.eqv d e))) : (gEqD d e).okTo kD := okTo_when.mpr h
theorem w_gRevL (q : kD (.list ds.reverse)) : (gRevL (.list ds)).okTo kD := q
theorem w_gSlL {lo hi : Option Int} (q : kD (.list (cutD ds lo hi))) : (gSlL (.list ds) lo hi).okTo kD := q
theorem w_gSlT {lo hi : Option Int} (q : kD (.tuple (cutD ds lo hi))) : (gSlT (.tuple ds) lo hi).okTo kD := q
/-! defs -/
theorem w_denP {N : Nat} (h : (fs (startS N ds)).okTo fun fl => match fl with
    | .nx _ => kD .none
    | .rt d _ => kD d
    | _ => False) : (denP N fs ds).okTo kD := by
  unfold denP endP
  simp only [okTo_bind]
  refine h.mono fun fl q => ?_
  cases fl <;> first | exact q | exact q.elim
end
end Bo

/-! ### a, b, .. = a list -/
namespace Bo
open PySem L2
section
variable {K : PySem.W.Frag} {n : Nat} {C : Ct K n}
def aUnl (m : Nat) (f : List PyData → SS → R SS) : PyData → SS → R SS := fun d S => match d with
  | .list ds => R.when (ds.length = m) (f ds S)
  | _ => .bad
end
section
variable {X : Cx} (K : PySem.W.Frag) (h : X.K = K := by rfl)
include h
end
theorem w_aUnl {m : Nat} {ds : List PyData} {S : SS} {kG : SS → Prop} {fg : List PyData → SS → R SS} (c : ds.length = m) (q : (fg ds S).okTo kG) : (aUnl m fg (.list ds) S).okTo kG := by
  show (R.when (ds.length = m) (fg ds S)).okTo kG
  rw [R.when_pos c]
  exact q
end Bo

/-! ### more steps -/
namespace Bo
open PySem L2
section
variable {S S' : SS} {fa fb fc : VE} {ft fu : VT} {fr : VA} {fs ft' : VS} {ff : VF} {i j m : Nat} {d e : PyData} {ds es : List PyData}
variable {kE : PyData × SS → Prop} {kT : Bool × SS → Prop} {kA : List PyData × SS → Prop} {kS : FL → Prop} {kD : PyData → Prop}
theorem w_itT {a b : Prop} (h : a) : if True then a else b := h
theorem w_itF {a b : Prop} (h : b) : if False then a else b := h
theorem w_itTT {a b : Prop} (h : a) : if true = true then a else b := h
theorem w_itFT {a b : Prop} (h : b) : if false = true then a else b := h
theorem w_gList (q : kD (.list ds)) : (gList [.list ds]).okTo kD := q
theorem w_gSortI {ns : List Int} (q : kD (.list ((ns.mergeSort fun a b => decide (a ≤ b)).map PyData.int))) : (gSortI [.list (ns.map PyData.int)]).okTo kD := by
  unfold gSortI
  simp only [ints_map]
  exact q
theorem w_range2 (h : (fr S).okTo fun p => ∃ i j, p.1 = [.int i, .int j] ∧ ((-1000000 ≤ i ∧ i ≤ 1000000) ∧ -1000000 ≤ j ∧ j ≤ 1000000) ∧ kA (rangeD i (j - i).toNat, p.2)) : (vRange2 fr S).okTo kA := by
  unfold vRange2
  simp only [okTo_bind]
  refine h.mono fun p ⟨i, j, e, c, q⟩ => ?_
  rw [e]
  exact okTo_when.mpr ⟨c, q⟩
theorem w_lcO {pair : Bool} {vs : List Nat} {fg : PyData → SS → R SS} (h0 : S[i]? = some (some (.own ds))) (ok : okS vs S = true) (h : (lcO pair i fg ft fa vs 100000 0 (wipeS S vs)).okTo fun r => kA (r.1, backS S r.2 vs)) : (vLcO pair i vs fg ft fa S).okTo kA := by
  unfold vLcO ownD
  rw [h0]
  simp only [R.bind_ok, okTo_when, okTo_bind]
  exact ⟨ok, h⟩
end
end Bo

/-! ### an item of a list or a tuple -/
namespace Bo
open PySem L2
section
variable {K : PySem.W.Frag} {n : Nat} {C : Ct K n} {σ : L2.St} {H B : Hp} {S : SS}
def gIxQ : PyData → PyData → R PyData
  | .list ds, .int i => ixD ds i
  | .tuple ds, .int i => ixD ds i
  | _, _ => .bad
theorem w_gIxQL {ds : List PyData} {a : Int} {kD : PyData → Prop} (q : (ixD ds a).okTo kD) : (gIxQ (.list ds) (.int a)).okTo kD := q
theorem w_gIxQT {ds : List PyData} {a : Int} {kD : PyData → Prop} (q : (ixD ds a).okTo kD) : (gIxQ (.tuple ds) (.int a)).okTo kD := q
/-- the items of a list or a tuple of a policy -/
def IsPol (pd : PyData) (pol : List Int) : Prop := pd = .list (pol.map .int) ∨ pd = .tuple (pol.map .int)
theorem IsPol.ix {pd : PyData} {pol : List Int} (h : IsPol pd pol) {a : Int} : gIxQ pd (.int a) = ixD (pol.map .int) a := by
  rcases h with rfl | rfl <;> rfl
/-- a list or a tuple of these -/
def IsSeq (d : PyData) (ds : List PyData) : Prop := d = .list ds ∨ d = .tuple ds
theorem IsSeq.ix {d : PyData} {ds : List PyData} (h : IsSeq d ds) {a : Int} : gIxQ d (.int a) = ixD ds a := by
  rcases h with rfl | rfl <;> rfl
end
end Bo

/-! ### more rules: [*xs, y], reversed(xs) -/
namespace Bo
open PySem L2
section
variable {K : PySem.W.Frag} {n : Nat} {C : Ct K n} {B : Hp}
def smallI (i j : Int) : Prop := i.natAbs < 2 ^ 6000 ∧ j.natAbs < 2 ^ 6000
instance {i j : Int} : Decidable (smallI i j) := inferInstanceAs (Decidable (_ ∧ _))
open PySem.W in
def gLcm : List PyData → R PyData
  | [.int i, .int j] => R.when (smallI i j) (.ok (.int ((Nat.lcm i.natAbs j.natAbs : Nat) : Int)))
  | _ => .bad
/-! isinstance(x, T), T a built-in class -/
end
end Bo

/-! ### more rules: xs.index(x) -/
namespace Bo
open PySem L2
section
variable {K : PySem.W.Frag} {n : Nat} {C : Ct K n} {B : Hp}
/-! dict(xs), xs a list of pairs; d.get(k, x) -/
def mergeD (kvs more : List (Key × PyData)) : List (Key × PyData) := more.foldl (fun acc kv => putD acc kv.1 kv.2) kvs
theorem dpks_merge : ∀ {more : List (Key × PyData)} {ws : List (Key × V)} {xs : List (Key × V)} {kvs : List (Key × PyData)}, DpKs K B xs more → DpKs K B ws kvs → DpKs K B (mergeK ws xs) (mergeD kvs more)
  | [], _, _, _, .nil, h => h
  | m :: more, ws, x :: xs, kvs, .cons a t, h => by
    show DpKs K B (mergeK (putK ws x.1 x.2) xs) (mergeD (putD kvs m.1 m.2) more)
    rw [a.1]
    exact dpks_merge t (dpks_put h a.2)
def valD (kvs : List (Key × PyData)) (k : Key) : Option PyData := (kvs.find? fun kv => decide (kv.1 = k)).map (·.2)
theorem dpks_val {k : Key} : ∀ {ws : List (Key × V)} {kvs : List (Key × PyData)}, DpKs K B ws kvs → (valV ws k = none ∧ valD kvs k = none) ∨ ∃ v d, valV ws k = some v ∧ valD kvs k = some d ∧ Da K B v d
  | _, _, .nil => .inl ⟨rfl, rfl⟩
  | w :: ws, kv :: kvs, .cons a t => by
    by_cases e : kv.1 = k
    · exact .inr ⟨w.2, kv.2, valV_pos (by rw [a.1, e]), by simp [valD, List.find?_cons, e], a.2⟩
    · have e' : ¬ w.1 = k := by rw [a.1]; exact e
      have ev : valD (kv :: kvs) k = valD kvs k := by simp [valD, List.find?_cons, e]
      rw [valV_neg e', ev]
      exact dpks_val t
end
end Bo

/-! ### determinants by their first column, and what the elimination without rests needs of them -/
namespace Bo
abbrev Row := Nat → Rat
/-- the signed sum over the rows: the number of the row at c, times what f says of the others -/
def wlk (f : List Row → Rat) (c : Nat) : List Row → List Row → Rat
  | _, [] => 0
  | p, r :: q => r c * f (p ++ q) - wlk f c (p ++ [r]) q
def lap : List Nat → List Row → Rat
  | [], _ => 1
  | c :: cs, rs => wlk (lap cs) c [] rs
def rAdd (x y : Row) (a : Rat) : Row := fun j => x j + a * y j
/-- f of n rows is linear in each -/
def Lin (n : Nat) (f : List Row → Rat) : Prop := ∀ p q x y a, p.length + q.length + 1 = n → f (p ++ rAdd x y a :: q) = f (p ++ x :: q) + a * f (p ++ y :: q)
theorem wlk_left {f : List Row → Rat} {n c : Nat} {x y : Row} {a : Rat} (h : Lin n f) : ∀ (q p s : List Row), p.length + s.length + q.length = n → wlk f c (p ++ rAdd x y a :: s) q = wlk f c (p ++ x :: s) q + a * wlk f c (p ++ y :: s) q
  | [], p, s, _ => by simp only [wlk]; grind
  | r :: q, p, s, hn => by
    have hn' : p.length + s.length + (q.length + 1) = n := hn
    have ih := wlk_left (c := c) (x := x) (y := y) (a := a) h q p (s ++ [r]) (by rw [List.length_append, List.length_singleton]; omega)
    have e := h p (s ++ q) x y a (by rw [List.length_append]; omega)
    simp only [wlk, List.append_assoc, List.cons_append, List.singleton_append, List.nil_append] at ih e ⊢
    rw [ih, e]
    grind
theorem wlk_lin {f : List Row → Rat} {n c : Nat} {x y : Row} {a : Rat} (h : Lin n f) : ∀ (p s q : List Row), s.length + p.length + q.length = n → wlk f c s (p ++ rAdd x y a :: q) = wlk f c s (p ++ x :: q) + a * wlk f c s (p ++ y :: q)
  | [], s, q, hn => by
    have hn' : s.length + 0 + q.length = n := hn
    have e := wlk_left (c := c) (x := x) (y := y) (a := a) h q s [] (by rw [List.length_nil]; omega)
    simp only [wlk, List.nil_append]
    rw [e]
    simp only [rAdd]
    grind
  | r :: p, s, q, hn => by
    have hn' : s.length + (p.length + 1) + q.length = n := hn
    have ih := wlk_lin (c := c) (x := x) (y := y) (a := a) h p (s ++ [r]) q (by rw [List.length_append, List.length_singleton]; omega)
    have e := h (s ++ p) q x y a (by rw [List.length_append]; omega)
    simp only [wlk, List.cons_append, List.append_assoc] at ih e ⊢
    rw [ih, e]
    grind
theorem lap_lin : ∀ cs : List Nat, Lin cs.length (lap cs)
  | [] => fun p q x y a h => by simp only [List.length_nil] at h; omega
  | c :: cs => fun p q x y a h => wlk_lin (lap_lin cs) p [] q (by simp only [List.length_cons, List.length_nil] at h ⊢; omega)
/-- f of n rows is 0 where two neighbours are the same -/
def Alt (n : Nat) (f : List Row → Rat) : Prop := ∀ p q x, p.length + q.length + 2 = n → f (p ++ x :: x :: q) = 0
theorem wlk_pair {f : List Row → Rat} {n c : Nat} {x : Row} (h : Alt n f) : ∀ (q p s : List Row), p.length + s.length + q.length + 1 = n → wlk f c (p ++ x :: x :: s) q = 0
  | [], p, s, _ => rfl
  | r :: q, p, s, hn => by
    have hn' : p.length + s.length + (q.length + 1) + 1 = n := hn
    have ih := wlk_pair (c := c) (x := x) h q p (s ++ [r]) (by rw [List.length_append, List.length_singleton]; omega)
    have e := h p (s ++ q) x (by rw [List.length_append]; omega)
    simp only [wlk, List.append_assoc, List.cons_append, List.singleton_append, List.nil_append] at ih e ⊢
    rw [ih, e]
    grind
theorem wlk_alt {f : List Row → Rat} {n c : Nat} {x : Row} (h : Alt n f) : ∀ (p s q : List Row), s.length + p.length + q.length + 1 = n → wlk f c s (p ++ x :: x :: q) = 0
  | [], s, q, hn => by
    have hn' : s.length + 0 + q.length + 1 = n := hn
    have e := wlk_pair (c := c) (x := x) h q s [] (by rw [List.length_nil]; omega)
    simp only [wlk, List.nil_append, List.append_assoc, List.cons_append] at e ⊢
    rw [e]
    grind
  | r :: p, s, q, hn => by
    have hn' : s.length + (p.length + 1) + q.length + 1 = n := hn
    have ih := wlk_alt (c := c) (x := x) h p (s ++ [r]) q (by rw [List.length_append, List.length_singleton]; omega)
    have e := h (s ++ p) q x (by rw [List.length_append]; omega)
    simp only [wlk, List.cons_append, List.append_assoc] at ih e ⊢
    rw [ih, e]
    grind
theorem lap_alt : ∀ cs : List Nat, Alt cs.length (lap cs)
  | [] => fun p q x h => by simp only [List.length_nil] at h; omega
  | [c] => fun p q x h => by
    simp only [List.length_cons, List.length_nil] at h
    obtain rfl : p = [] := List.length_eq_zero_iff.mp (by omega)
    obtain rfl : q = [] := List.length_eq_zero_iff.mp (by omega)
    simp [lap, wlk]
    grind
  | c :: d :: cs => fun p q x h => wlk_alt (lap_alt (d :: cs)) p [] q (by simp only [List.length_cons, List.length_nil] at h ⊢; omega)
/-- neighbours changed round -/
theorem swap_ {n : Nat} {f : List Row → Rat} (l : Lin n f) (h : Alt n f) (p q : List Row) (x y : Row) (hn : p.length + q.length + 2 = n) : f (p ++ x :: y :: q) = - f (p ++ y :: x :: q) := by
  have e0 := h p q (rAdd x y 1) hn
  have e1 := l p (rAdd x y 1 :: q) x y 1 (by rw [List.length_cons]; omega)
  have e2 := l (p ++ [x]) q x y 1 (by rw [List.length_append, List.length_singleton]; omega)
  have e3 := l (p ++ [y]) q x y 1 (by rw [List.length_append, List.length_singleton]; omega)
  have e4 := h p q x hn
  have e5 := h p q y hn
  simp only [List.append_assoc, List.singleton_append, List.cons_append, List.nil_append] at e2 e3
  grind
/-- the same row at two places -/
theorem twice_ {n : Nat} {f : List Row → Rat} (l : Lin n f) (h : Alt n f) (x : Row) : ∀ (m p q : List Row), p.length + m.length + q.length + 2 = n → f (p ++ x :: (m ++ x :: q)) = 0
  | [], p, q, hn => h p q x (by rw [List.length_nil] at hn; omega)
  | y :: m, p, q, hn => by
    have hn' : p.length + (m.length + 1) + q.length + 2 = n := hn
    have e := swap_ l h p (m ++ x :: q) x y (by rw [List.length_append, List.length_cons]; omega)
    have ih := twice_ l h x m (p ++ [y]) q (by rw [List.length_append, List.length_singleton]; omega)
    simp only [List.append_assoc, List.singleton_append, List.cons_append, List.nil_append] at ih e ⊢
    rw [e, ih]
    grind
/-- what rows of rs add up to -/
inductive Spn (rs : List Row) : Row → Prop where
  | zero : Spn rs fun _ => 0
  | add {z r : Row} (a : Rat) : r ∈ rs → Spn rs z → Spn rs (rAdd z r a)
theorem Lin.nil_ {n : Nat} {f : List Row → Rat} (l : Lin n f) {p : List Row} (hn : p.length + 1 = n) : f (p ++ [fun _ => 0]) = 0 := by
  have e := l p [] (fun _ => 0) (fun _ => 0) 1 (by rw [List.length_nil]; omega)
  have z : rAdd (fun _ => 0) (fun _ => 0) 1 = fun _ => (0 : Rat) := by
    funext j
    simp only [rAdd]
    grind
  rw [z] at e
  grind
/-- a last row that is made of the others -/
theorem sp_zero {n : Nat} {f : List Row → Rat} (l : Lin n f) (h : Alt n f) {rs : List Row} {z : Row} (hn : rs.length + 1 = n) (s : Spn rs z) : f (rs ++ [z]) = 0 := by
  induction s with
  | zero => exact l.nil_ hn
  | @add z r a hr _ ih =>
    rw [l rs [] _ _ a (by rw [List.length_nil]; omega), ih]
    obtain ⟨p, q, rfl⟩ := List.append_of_mem hr
    have e := twice_ l h r q p [] (by rw [List.length_append, List.length_cons] at hn; rw [List.length_nil]; omega)
    rw [List.append_assoc, List.cons_append, e]
    grind
/-- made of rs, told of the last row: it may be taken off -/
theorem sp_off {n : Nat} {f : List Row → Rat} (l : Lin n f) (h : Alt n f) {rs : List Row} {x z : Row} (hn : rs.length + 1 = n) (s : Spn rs z) : f (rs ++ [rAdd x z 1]) = f (rs ++ [x]) := by
  rw [l rs [] x z 1 (by rw [List.length_nil]; omega), sp_zero l h hn s]
  grind
/-- a last row that is 0 in all but the last column -/
theorem wlk_last {f g : List Row → Rat} {c : Nat} {y : Row} {v : Rat} (h0 : y c = 0) : ∀ (q s : List Row), (∀ p, p.length + 1 = s.length + q.length → f (p ++ [y]) = g p * v) → wlk f c s (q ++ [y]) = wlk g c s q * v
  | [], s, _ => by
    simp only [wlk, List.nil_append, h0]
    grind
  | r :: q, s, h => by
    have ih := wlk_last (f := f) (g := g) (v := v) h0 q (s ++ [r]) fun p hp => h p (by rw [List.length_append, List.length_singleton] at hp; rw [List.length_cons]; omega)
    have e := h (s ++ q) (by rw [List.length_append, List.length_cons]; omega)
    simp only [wlk, List.cons_append, List.append_assoc] at ih e ⊢
    rw [ih, e]
    grind
theorem lap_last {j : Nat} {y : Row} : ∀ (cs : List Nat) (rs : List Row), rs.length = cs.length → (∀ c ∈ cs, y c = 0) → lap (cs ++ [j]) (rs ++ [y]) = lap cs rs * y j
  | [], rs, hl, _ => by
    obtain rfl := List.length_eq_zero_iff.mp hl
    simp only [lap, List.nil_append, wlk]
    grind
  | c :: cs, rs, hl, h => by
    show wlk (lap (cs ++ [j])) c [] (rs ++ [y]) = wlk (lap cs) c [] rs * y j
    refine wlk_last (h c List.mem_cons_self) rs [] fun p hp => lap_last cs p (by rw [List.length_cons] at hl; rw [List.length_nil] at hp; omega) fun d hd => h d (List.mem_cons_of_mem c hd)
/-- x, cleared of the columns cs by rs -/
structure Clr (cs : List Nat) (rs : List Row) (x y : Row) : Prop where
  sp : ∃ z, Spn rs z ∧ x = rAdd y z 1
  out : ∀ c ∈ cs, y c = 0
theorem Clr.val {cs : List Nat} {rs : List Row} {x y : Row} (k : Clr cs rs x y) (hl : rs.length = cs.length) (j : Nat) : lap (cs ++ [j]) (rs ++ [x]) = lap cs rs * y j := by
  obtain ⟨z, s, rfl⟩ := k.sp
  have n1 : rs.length + 1 = (cs ++ [j]).length := by rw [List.length_append, List.length_singleton, hl]
  rw [sp_off (lap_lin _) (lap_alt _) n1 s]
  exact lap_last cs rs hl k.out
theorem Spn.more {rs : List Row} {r z : Row} (s : Spn rs z) : Spn (rs ++ [r]) z := by
  induction s with
  | zero => exact .zero
  | add a h _ ih => exact .add a (List.mem_append_left _ h) ih
theorem Spn.plus {rs : List Row} {w z : Row} (a : Rat) (s : Spn rs w) (t : Spn rs z) : Spn rs (rAdd w z a) := by
  induction t with
  | zero =>
    have e : rAdd w (fun _ => 0) a = w := by
      funext j
      simp only [rAdd]
      grind
    rw [e]
    exact s
  | @add z r b h _ ih =>
    have e : rAdd w (rAdd z r b) a = rAdd (rAdd w z a) r (a * b) := by
      funext j
      simp only [rAdd]
      grind
    rw [e]
    exact .add _ h ih
/-- one more column cleared -/
theorem Clr.step {cs : List Nat} {rs : List Row} {x y r s : Row} {c : Nat} (k : Clr cs rs x y) (p : Clr cs rs r s) (h : s c ≠ 0) : Clr (cs ++ [c]) (rs ++ [r]) x (rAdd y s (-(y c / s c))) := by
  obtain ⟨⟨z, hz, ex⟩, hy⟩ := k
  obtain ⟨⟨w, hw, er⟩, hs⟩ := p
  refine ⟨⟨rAdd (rAdd z w (-(y c / s c))) r (y c / s c), .add _ (List.mem_append_right _ List.mem_cons_self) (.plus _ hz.more hw.more), ?_⟩, fun d hd => ?_⟩
  · funext j
    rw [ex, er]
    simp only [rAdd]
    grind
  · rcases List.mem_append.mp hd with q | q
    · simp only [rAdd, hy d q, hs d q]
      grind
    · obtain rfl := List.mem_singleton.mp q
      simp only [rAdd]
      grind
/-! whole numbers -/
abbrev RowZ := Nat → Int
def wlkZ (f : List RowZ → Int) (c : Nat) : List RowZ → List RowZ → Int
  | _, [] => 0
  | p, r :: q => r c * f (p ++ q) - wlkZ f c (p ++ [r]) q
def lapZ : List Nat → List RowZ → Int
  | [], _ => 1
  | c :: cs, rs => wlkZ (lapZ cs) c [] rs
def rQ (r : RowZ) : Row := fun j => (r j : Rat)
theorem wlkZ_cast {f : List RowZ → Int} {g : List Row → Rat} {c : Nat} (h : ∀ rs, g (rs.map rQ) = (f rs : Rat)) : ∀ (q p : List RowZ), wlk g c (p.map rQ) (q.map rQ) = (wlkZ f c p q : Rat)
  | [], p => rfl
  | r :: q, p => by
    have ih := wlkZ_cast (c := c) h q (p ++ [r])
    have e := h (p ++ q)
    simp only [List.map_append, List.map_cons, List.map_nil] at ih e
    show rQ r c * g (p.map rQ ++ q.map rQ) - wlk g c (p.map rQ ++ [rQ r]) (q.map rQ) = _
    rw [e, ih]
    simp only [wlkZ, rQ]
    rw [Rat.intCast_sub, Rat.intCast_mul]
theorem lapZ_cast : ∀ (cs : List Nat) (rs : List RowZ), lap cs (rs.map rQ) = (lapZ cs rs : Rat)
  | [], _ => rfl
  | c :: cs, rs => wlkZ_cast (lapZ_cast cs) rs []
end Bo

/-! ### what the elimination finds: pivots, solutions, that nothing rests -/
namespace Bo
/-- a sum over columns -/
def sm (u : Nat → Rat) (r : Row) : List Nat → Rat
  | [] => 0
  | c :: cs => u c * r c + sm u r cs
theorem sm_add {u : Nat → Rat} {x y : Row} {a : Rat} : ∀ cs : List Nat, sm u (rAdd x y a) cs = sm u x cs + a * sm u y cs
  | [] => by simp only [sm]; grind
  | c :: cs => by
    simp only [sm, sm_add cs, rAdd]
    grind
theorem sm_app {u : Nat → Rat} {x : Row} : ∀ cs ds : List Nat, sm u x (cs ++ ds) = sm u x cs + sm u x ds
  | [], ds => by simp only [sm, List.nil_append]; grind
  | c :: cs, ds => by
    simp only [sm, List.cons_append, sm_app cs ds]
    grind
theorem sm_zero {u : Nat → Rat} {x : Row} : ∀ cs : List Nat, (∀ c ∈ cs, x c = 0) → sm u x cs = 0
  | [], _ => rfl
  | c :: cs, h => by
    simp only [sm, h c List.mem_cons_self, sm_zero cs fun d hd => h d (List.mem_cons_of_mem c hd)]
    grind
theorem sm_mix {u v w : Nat → Rat} {t : Rat} {x : Row} : ∀ cs : List Nat, (∀ c ∈ cs, w c = u c - t * v c) → sm w x cs = sm u x cs - t * sm v x cs
  | [], _ => by simp only [sm]; grind
  | c :: cs, h => by
    simp only [sm, h c List.mem_cons_self, sm_mix (x := x) cs fun d hd => h d (List.mem_cons_of_mem c hd)]
    grind
/-- the number at j is what u makes of those at cs -/
def Is (cs : List Nat) (u : Nat → Rat) (j : Nat) (x : Row) : Prop := x j = sm u x cs
theorem Is.add {cs : List Nat} {u : Nat → Rat} {j : Nat} {x y : Row} (h : Is cs u j x) (g : Is cs u j y) (a : Rat) : Is cs u j (rAdd x y a) := by
  unfold Is at *
  rw [sm_add, ← h, ← g]
  rfl
theorem Is.sp {cs : List Nat} {u : Nat → Rat} {j : Nat} {rs : List Row} {z : Row} (h : ∀ r ∈ rs, Is cs u j r) (s : Spn rs z) : Is cs u j z := by
  induction s with
  | zero => exact (sm_zero cs fun _ _ => rfl).symm
  | add a hr _ ih => exact ih.add (h _ hr) a
/-- pivots, one after another -/
inductive Elim : List Nat → List Row → Prop where
  | nil : Elim [] []
  | step {cs : List Nat} {rs : List Row} {r s : Row} {c : Nat} : Elim cs rs → Clr cs rs r s → s c ≠ 0 → c ∉ cs → Elim (cs ++ [c]) (rs ++ [r])
theorem Elim.len {cs : List Nat} {rs : List Row} (e : Elim cs rs) : rs.length = cs.length := by
  induction e with
  | nil => rfl
  | step _ _ _ _ ih => rw [List.length_append, List.length_append, ih]; rfl
theorem Elim.ne {cs : List Nat} {rs : List Row} (e : Elim cs rs) : lap cs rs ≠ 0 := by
  induction e with
  | nil => exact (by decide : (1 : Rat) ≠ 0)
  | step e p h _ ih =>
    rw [p.val e.len]
    intro z
    rcases Rat.mul_eq_zero.mp z with q | q
    · exact ih q
    · exact h q
theorem Elim.sol {cs : List Nat} {rs : List Row} (e : Elim cs rs) : ∀ j : Nat, ∃ u, ∀ r ∈ rs, Is cs u j r := by
  induction e with
  | nil => exact fun j => ⟨fun _ => 0, fun _ h => nomatch h⟩
  | @step cs rs r s c e p h hc ih =>
    intro j
    obtain ⟨u, hu⟩ := ih j
    obtain ⟨v, hv⟩ := ih c
    refine ⟨fun d => if d = c then s j / s c else u d - s j / s c * v d, ?_⟩
    have mix : ∀ x : Row, sm (fun d => if d = c then s j / s c else u d - s j / s c * v d) x cs = sm u x cs - s j / s c * sm v x cs := fun x => sm_mix cs fun d hd => if_neg fun (z : d = c) => hc (z ▸ hd)
    have old : ∀ x ∈ rs, Is (cs ++ [c]) (fun d => if d = c then s j / s c else u d - s j / s c * v d) j x := fun x hx => by
      have e1 : x j = sm u x cs := hu x hx
      have e2 : x c = sm v x cs := hv x hx
      show x j = _
      rw [sm_app, mix, ← e1, ← e2]
      simp only [sm, if_true]
      grind
    intro x hx
    rcases List.mem_append.mp hx with q | q
    · exact old x q
    · obtain rfl := List.mem_singleton.mp q
      obtain ⟨⟨z, sz, ez⟩, out⟩ := p
      rw [ez]
      refine Is.add ?_ (Is.sp old sz) 1
      show s j = _
      rw [sm_app, sm_zero cs out]
      simp only [sm, if_true]
      grind
/-- a row cleared by rows for which u makes j: its number at j is that of the row, less what u makes -/
theorem Clr.gap {cs : List Nat} {rs : List Row} {x y : Row} {u : Nat → Rat} {j : Nat} (k : Clr cs rs x y) (h : ∀ r ∈ rs, Is cs u j r) : x j - sm u x cs = y j := by
  obtain ⟨⟨z, sz, ez⟩, out⟩ := k
  have e : z j = sm u z cs := Is.sp h sz
  rw [ez, sm_add, sm_zero cs out, ← e]
  simp only [rAdd]
  grind
end Bo

/-! ### the table of the elimination: each row of it is a row of determinants, so no division leaves a rest -/
namespace Bo
def bRow (s row : List Int) (b : Int) : List Int := (row.tail.zip s.tail).map fun p => Int.fdiv (s.headD 0 * p.1 - row.headD 0 * p.2) b
/-- the table's row of x behind k steps, with m columns in all -/
def tRow (m k : Nat) (rs : List RowZ) (x : RowZ) : List Int := (List.range' k (m - k)).map fun j => lapZ (List.range k ++ [j]) (rs ++ [x])
/-- the first row whose first number is not 0 -/
def pick : List (List Int) → Option Nat
  | [] => none
  | r :: t => if r.headD 0 ≠ 0 then some 0 else (pick t).map (· + 1)
/-- the steps that were kept -/
def stp (m : Nat) (rs : List RowZ) : List (List Int) := (List.range rs.length).map fun i => tRow m i (rs.take i) (rs.getD i fun _ => 0)
end Bo

/-! ### the values, from the last step back to the first -/
namespace Bo
def bBack (b : Int) : List (List Int) → List Int → List Int
  | [], acc => acc
  | s :: ss, acc => bBack b ss (Int.fdiv (b * s.getLastD 0 - ((s.tail.zip acc).map fun p => p.1 * p.2).sum) (s.headD 0) :: acc)
end Bo

/-! ### rows and columns: no one solution exactly where the determinant is 0 -/
namespace Bo
def only (cs : List Nat) (r : Row) : Row := fun c => if c ∈ cs then r c else 0
/-- the sum of the rows ahead, each times a number -/
def mix (u : Nat → Rat) : Nat → List Row → Row
  | _, [] => fun _ => 0
  | i, r :: rs => rAdd (mix u (i + 1) rs) r (u i)
end Bo

/-! ### the determinant by the first row, sizes, and when there is no one solution -/
namespace Bo
end Bo

/-! ### the drawn systems -/
namespace Bo
open PySem L2
abbrev Cho := Int × List (Int × Int)
def dC (c : Cho) : PyData := .tuple [.int c.1, .tuple (c.2.map prD)]
def dS (s : List Cho) : PyData := .tuple (s.map dC)
def dY (y : List (List Cho)) : PyData := .tuple (y.map dS)
structure ChoOk (m b : Nat) (c : Cho) : Prop where
  cost : 0 ≤ c.1 ∧ c.1 ≤ 1000
  ne : c.2 ≠ []
  len : c.2.length ≤ b
  ends : ∀ e ∈ c.2, 0 ≤ e.1 ∧ e.1 < (m : Int) ∧ 1 ≤ e.2 ∧ e.2 ≤ 1000
  rise : c.2.Pairwise fun x y => x.1 < y.1
structure SysOk (q b : Nat) (y : List (List Cho)) : Prop where
  ne : 1 ≤ y.length
  len : y.length ≤ 20
  st : ∀ s ∈ y, 1 ≤ s.length ∧ s.length ≤ q
  cho : ∀ s ∈ y, ∀ c ∈ s, ChoOk y.length b c
local macro_rules | `(tactic| walk_at "ev0") => `(tactic| simp only [okTo_bind, okTo_ok, okTo_noErr, okTo_when, R.bind_ok, seqF, vAsg, vVar, vC, vOp, vUn, vCall, vCons, vNil, vTup, vLst, vFr, vLstF, vTst, toB, toI, gI, gIC, gIB, gNeg, gInt, gLen, gEq, gNe, eqF, vAnd, vOr, vNot, tNotF, vYes, gTuple, gList, gRevL, wipeS, backS, okS, vIfS, vIf, vNext, vRet, vRetN, vDrop, vOwn, vFrz, frzS, aName, vFor, vScr, vRange1, vApp, ownD, vIxO, vSetI, gIxL, gIxT, vInO, vCallP, vCallB, vTupleO, vListO, vLenO, vLc, List.getElem?_cons_zero, List.getElem?_cons_succ, List.set_cons_zero, List.set_cons_succ, List.length_cons, List.length_nil, startS, List.map_cons, List.map_nil, List.replicate_succ, List.replicate_zero, List.cons_append, List.nil_append, denP, denB, denS, endP, endB, Nat.sub_self, Nat.reduceSub, Nat.reduceAdd, List.all_cons, List.all_nil, Bool.and_true, SV.mine, Bool.not_false, Option.join_some, true_and, and_true])
theorem Box.up {ts : List Int} {n m : Int} {bs : List PyData} (b : Box ts n bs) (h : n ≤ m) : Box ts m bs := by
  obtain ⟨ok, i, i0, i1, e⟩ := b
  exact ⟨ok, i, i0, by omega, e⟩
theorem rise_app {l : List (Int × Int)} {x : Int × Int} (h : l.Pairwise fun x y => x.1 < y.1) (hx : ∀ e ∈ l, e.1 < x.1) : (l ++ [x]).Pairwise fun x y => x.1 < y.1 :=
  List.pairwise_append.mpr ⟨h, List.pairwise_singleton _ _, fun a ha b hb => by rw [List.mem_singleton.mp hb]; exact hx a ha⟩
end Bo

/-! ### the program's sure states: what its defs are worth -/
namespace Bo
open PySem L2
end Bo

/-! ### what can be reached: the four sets of sure states, as predicates -/
namespace Bo
section
variable (E : Nat → Nat → Nat → Prop) (U : Nat → Nat → Prop) (T : Nat → Prop)
/-- some way leads there -/
inductive Rch : Nat → Prop
  | goal {s : Nat} : T s → Rch s
  | step {s k j : Nat} : U s k → E s k j → Rch j → Rch s
/-- all ways may lead there -/
inductive Lch : Nat → Prop
  | goal {s : Nat} : T s → Lch s
  | step {s k : Nat} (f : Nat → Nat) : U s k → (∀ k, U s k → E s k (f k)) → (∀ k, U s k → Lch (f k)) → Lch s
end
section
variable {E E' : Nat → Nat → Nat → Prop} {U U' V : Nat → Nat → Prop} {T T' : Nat → Prop} {n : Nat} {s : Nat}
theorem lch_of (h : ∃ k, U s k) (g : ∀ k, U s k → ∃ j, E s k j ∧ Lch E U T j) : Lch E U T s := by
  classical
  obtain ⟨k, hk⟩ := h
  let f : Nat → Nat := fun k => if q : ∃ j, E s k j ∧ Lch E U T j then q.choose else 0
  have hf : ∀ k, U s k → E s k (f k) ∧ Lch E U T (f k) := fun k hk => by
    have q := g k hk
    show E s k (if q : ∃ j, E s k j ∧ Lch E U T j then q.choose else 0) ∧ Lch E U T (if q : ∃ j, E s k j ∧ Lch E U T j then q.choose else 0)
    rw [dif_pos q]
    exact q.choose_spec
  exact .step f hk (fun k h => (hf k h).1) (fun k h => (hf k h).2)
theorem rch_mono (hU : ∀ s k, U s k → T' s ∨ U' s k) (hE : ∀ s k j, U s k → E s k j → E' s k j) (hT : ∀ s, T s → T' s) (h : Rch E U T s) : Rch E' U' T' s := by
  induction h with
  | goal t => exact .goal (hT _ t)
  | step u e _ ih =>
    rcases hU _ _ u with t | u'
    · exact .goal t
    · exact .step u' (hE _ _ _ u e) ih
/-- more targets -/
structure MoreT (U U' : Nat → Nat → Prop) (T T' : Nat → Prop) : Prop where
  t : ∀ s, T s → T' s
  u : ∀ s k, U s k → T' s ∨ U' s k
  v : ∀ s k, U' s k → U s k
namespace MoreT
variable (M : MoreT U U' T T')
include M
theorem rch (h : Rch E U T s) : Rch E U' T' s := rch_mono M.u (fun _ _ _ _ e => e) M.t h
end MoreT
/-- more states allowed -/
structure MoreA (U U' : Nat → Nat → Prop) (T : Nat → Prop) : Prop where
  u : ∀ s k, U s k → U' s k
  v : ∀ s k, U' s k → U s k ∨ ((∀ k', ¬ U s k') ∧ ¬ T s)
namespace MoreA
variable (M : MoreA U U' T)
include M
theorem rch (h : Rch E U T s) : Rch E U' T s := rch_mono (fun s k u => .inr (M.u s k u)) (fun _ _ _ _ e => e) (fun _ t => t) h
end MoreA
/-- fewer choices -/
structure Fewer (E E' : Nat → Nat → Nat → Prop) (U U' : Nat → Nat → Prop) : Prop where
  u : ∀ s k, U' s k → U s k
  e : ∀ s k j, U' s k → (E' s k j ↔ E s k j)
  x : ∀ s k, U s k → ∃ k, U' s k
namespace Fewer
variable (M : Fewer E E' U U')
include M
theorem rch (h : Rch E' U' T s) : Rch E U T s := rch_mono (fun s k u => .inr (M.u s k u)) (fun s k j u e => (M.e s k j u).mp e) (fun _ t => t) h
end Fewer
/-- one choice in each state -/
structure One (U : Nat → Nat → Prop) (T : Nat → Prop) : Prop where
  u : ∀ s k k', U s k → U s k' → k = k'
  t : ∀ s k, U s k → ¬ T s
end
end Bo

/-! ### rounds of finding -/
namespace Bo
section
variable (ev : Bool) (n : Nat) (E : Nat → Nat → Nat → Prop) (U : Nat → Nat → Prop) (T : Nat → Prop)
/-- one joins what is found -/
def Jn (F : Nat → Prop) (i : Nat) : Prop := if ev = true then (∃ k, U i k) ∧ ∀ k, U i k → ∃ j, E i k j ∧ F j else ∃ k j, U i k ∧ E i k j ∧ F j
/-- what is found in the end -/
def Gl (i : Nat) : Prop := if ev = true then Lch E U T i else Rch E U T i
/-- what is found by f -/
def Fn (f : Nat → Option Nat) (j : Nat) : Prop := j < n ∧ (f j).isSome = true
structure LvI (f : Nat → Option Nat) (r : Nat) : Prop where
  sound : ∀ i, i < n → ∀ q, f i = some q → q ≤ r ∧ Gl ev E U T i
  goals : ∀ i, i < n → T i → (f i).isSome = true
  close : (∃ i, i < n ∧ f i = some r) ∨ ∀ i, i < n → f i = none → ¬ Jn ev E U (Fn n f) i
  low : ∀ i, i < n → ∀ q, f i = some q → (T i ∧ q = 0) ∨ Jn ev E U (fun j => j < n ∧ ∃ p, f j = some p ∧ p < q) i
end
section
variable {ev : Bool} {n : Nat} {E : Nat → Nat → Nat → Prop} {U : Nat → Nat → Prop} {T : Nat → Prop} {f : Nat → Option Nat} {r : Nat} {F : Nat → Prop} {i : Nat}
theorem jn_sound (h : ∀ j, F j → Gl ev E U T j) (q : Jn ev E U F i) : Gl ev E U T i := by
  unfold Jn at q
  unfold Gl at h ⊢
  split at q
  · rename_i c
    simp only [c, if_true] at h ⊢
    exact lch_of q.1 fun k u => (q.2 k u).imp fun j z => ⟨z.1, h j z.2⟩
  · rename_i c
    simp only [c] at h ⊢
    obtain ⟨k, j, u, e, z⟩ := q
    exact .step u e (h j z)
theorem jn_full (hT : ∀ i, T i → F i) (hU : ∀ s k, U s k → s < n) (h : ∀ i, i < n → ¬ F i → ¬ Jn ev E U F i) (q : Gl ev E U T i) : F i := by
  unfold Jn at h
  unfold Gl at q
  cases ev with
  | true =>
    simp only [if_true] at h q
    induction q with
    | goal t => exact hT _ t
    | @step s k f u e _ ih => exact Classical.byContradiction fun z => h s (hU _ _ u) z ⟨⟨k, u⟩, fun k u => ⟨f k, e k u, ih k u⟩⟩
  | false =>
    simp only [Bool.false_eq_true, if_false] at h q
    induction q with
    | goal t => exact hT _ t
    | @step s k j u e _ ih => exact Classical.byContradiction fun z => h s (hU _ _ u) z ⟨k, j, u, e, ih⟩
theorem fn_none (h : i < n) (q : f i = none) : ¬ Fn n f i := fun z => by
  have := z.2
  rw [q] at this
  cases this
theorem fn_of (h : i < n) (q : ¬ Fn n f i) : f i = none := by
  cases e : f i with
  | none => rfl
  | some a => exact absurd ⟨h, by rw [e]; rfl⟩ q
/-- in the end -/
theorem LvI.done (I : LvI ev n E U T f r) (hT : ∀ i, T i → i < n) (hU : ∀ s k, U s k → s < n) (h : ¬ ∃ i, i < n ∧ f i = some r) (hi : i < n) : (f i).isSome = true ↔ Gl ev E U T i := by
  have hc := I.close.resolve_left h
  constructor
  · intro z
    cases e : f i with
    | none => rw [e] at z; cases z
    | some q => exact (I.sound i hi q e).2
  · intro g
    exact (jn_full (F := Fn n f) (fun i t => ⟨hT i t, I.goals i (hT i t) t⟩) hU (fun i hi q => hc i hi (fn_of hi q)) g).2
theorem jn_mono {F F' : Nat → Prop} (h : ∀ j, F j → F' j) (q : Jn ev E U F i) : Jn ev E U F' i := by
  unfold Jn at q ⊢
  split at q
  · rename_i c
    rw [if_pos c]
    exact ⟨q.1, fun k u => let ⟨j, e, z⟩ := q.2 k u; ⟨j, e, h j z⟩⟩
  · rename_i c
    rw [if_neg c]
    obtain ⟨k, j, u, e, z⟩ := q
    exact ⟨k, j, u, e, h j z⟩
/-- a round -/
def nextF (g : Nat → Bool) (f : Nat → Option Nat) (r : Nat) : Nat → Option Nat := fun i => if g i = true then some (r + 1) else f i
theorem LvI.next (I : LvI ev n E U T f r) {g : Nat → Bool} (hg : ∀ i, i < n → (g i = true ↔ f i = none ∧ Jn ev E U (Fn n f) i)) : LvI ev n E U T (nextF g f r) (r + 1) := by
  have gl : ∀ j, Fn n f j → Gl ev E U T j := fun j z => by
    cases e : f j with
    | none => exact absurd z (fn_none z.1 e)
    | some q => exact (I.sound j z.1 q e).2
  have keep : ∀ j p, j < n → f j = some p → nextF g f r j = some p := fun j p hj e => by
    unfold nextF
    rw [if_neg, e]
    intro c
    rw [((hg j hj).mp c).1] at e
    cases e
  refine ⟨fun i hi q e => ?_, fun i hi t => ?_, ?_, fun i hi q e => ?_⟩
  · unfold nextF at e
    split at e
    · rename_i c
      cases e
      exact ⟨Nat.le_refl _, jn_sound gl ((hg i hi).mp c).2⟩
    · obtain ⟨h1, h2⟩ := I.sound i hi q e
      exact ⟨by omega, h2⟩
  · unfold nextF
    split
    · rfl
    · exact I.goals i hi t
  · by_cases c : ∃ i, i < n ∧ g i = true
    · obtain ⟨i, hi, c⟩ := c
      exact .inl ⟨i, hi, if_pos c⟩
    · have same : ∀ i, i < n → nextF g f r i = f i := fun i hi => if_neg fun z => c ⟨i, hi, z⟩
      refine .inr fun i hi e q => c ⟨i, hi, (hg i hi).mpr ⟨by rw [← same i hi]; exact e, ?_⟩⟩
      have ef : Fn n (nextF g f r) = Fn n f := by
        funext j
        unfold Fn
        refine propext ⟨fun z => ⟨z.1, ?_⟩, fun z => ⟨z.1, ?_⟩⟩
        · rw [← same j z.1]; exact z.2
        · rw [same j z.1]; exact z.2
      rw [ef] at q
      exact q
  · by_cases c : g i = true
    · have e' : nextF g f r i = some (r + 1) := if_pos c
      rw [e'] at e
      cases e
      refine .inr (jn_mono (fun j z => ?_) ((hg i hi).mp c).2)
      cases ej : f j with
      | none => exact absurd z (fn_none z.1 ej)
      | some p => exact ⟨z.1, p, keep j p z.1 ej, by have := (I.sound j z.1 p ej).1; omega⟩
    · have e' : nextF g f r i = f i := if_neg c
      rw [e'] at e
      rcases I.low i hi q e with z | z
      · exact .inl z
      · exact .inr (jn_mono (fun j ⟨hj, p, ep, lt⟩ => ⟨hj, p, keep j p hj ep, lt⟩) z)
end
end Bo

namespace Bo
open PySem L2
local macro_rules | `(tactic| walk_at "wv1") => `(tactic| (first
  | ((with_reducible refine w_var (d := ?wd) ?wh ?wq); (case wh => exact rfl))
  | with_reducible refine w_cons ?_
  | with_reducible refine w_nil ?_
  | with_reducible refine w_op ?_
  | with_reducible refine w_c ?_
  | with_reducible refine w_aName ?_
  | with_reducible refine w_seq ?_
  | with_reducible refine w_asg ?_
  | with_reducible refine w_toB ?_
  | with_reducible refine w_callP ?_
  | with_reducible refine w_tst ?_
  | with_reducible refine w_gIxT ?_
  | with_reducible refine w_call ?_
  | with_reducible refine w_ret ?_
  | with_reducible refine w_ifS ?_
  | with_reducible refine w_next ?_
  | ((with_reducible refine w_own (ds := ?wd) ?wh ?wq); (case wh => exact rfl))
  | with_reducible refine w_for ?_
  | with_reducible refine w_fr ?_
  | with_reducible refine w_lc ?_
  | with_reducible refine w_tup ?_
  | with_reducible refine w_iter ?_
  | with_reducible refine w_itFT ?_
  | with_reducible refine w_aCons ?_
  | with_reducible refine w_gIxL ?_
  | with_reducible refine w_tnot ?_
  | with_reducible refine w_tor ?_
  | with_reducible refine w_range1 ?_
  | with_reducible refine w_yes ?_
  | with_reducible refine w_itTT ?_
  | with_reducible refine w_iterT ?_
  | with_reducible refine w_lst ?_
  | with_reducible refine w_toI ?_
  | with_reducible refine w_ownS ?_
  | with_reducible refine w_aTup rfl ?_
  | with_reducible refine w_aNil ?_
  | ((with_reducible refine w_frz (ds := ?wd) ?wh ?wq); (case wh => exact rfl))
  | with_reducible refine w_itT ?_
  | with_reducible refine w_tand ?_
  | with_reducible refine w_gEqI ?_
  | with_reducible refine w_gNeI ?_
  | with_reducible refine w_gLenT ?_
  | with_reducible refine w_lstF ?_
  | with_reducible refine w_callB ?_
  | with_reducible refine w_app ?_
  | with_reducible refine w_setI ?_
  | with_reducible refine w_gNeD ?_
  | with_reducible refine w_gEqD ?_
  | with_reducible refine w_drop ?_
  | with_reducible refine w_gIB ?_
  | with_reducible refine w_gBools ?_
  | with_reducible refine w_and ?_
  | with_reducible refine w_isN ?_
  | with_reducible refine w_or ?_
  | with_reducible refine w_ixO ?_
  | with_reducible refine w_gI ?_
  | with_reducible refine w_gLenL ?_
  | with_reducible refine w_gTuple ?_
  | with_reducible refine w_gInts ?_
  | with_reducible refine w_un ?_
  | with_reducible refine w_if ?_
  | with_reducible refine w_chain ?_
  | ((with_reducible refine w_callS (ns := ?wd) ?wh ?wq); (case wh => exact rfl))
  | with_reducible refine w_sl ?_
  | with_reducible refine w_noPart ?_
  | with_reducible refine w_part ?_
  | with_reducible refine w_listRg ?_
  | with_reducible refine w_enumK ?_
  | with_reducible refine w_repF ?_
  | with_reducible refine w_gIC ?_
  | with_reducible refine w_gCat ?_
  | with_reducible refine w_gCatT ?_
  | with_reducible refine w_notN ?_
  | with_reducible refine w_listF ?_
  | with_reducible refine w_neg ?_
  | with_reducible refine w_not ?_
  | with_reducible refine w_tru ?_
  | with_reducible refine w_callL ?_
  | with_reducible refine w_consO ?_
  | with_reducible refine w_lenO ?_
  | with_reducible refine w_tupleO ?_
  | with_reducible refine w_listO ?_
  | with_reducible refine w_inO ?_
  | with_reducible refine w_truO ?_
  | with_reducible refine w_zipK ?_
  | with_reducible refine w_retN ?_
  | ((with_reducible refine w_aug (a := ?wd) ?wh ?wq); (case wh => exact rfl))
  | with_reducible refine w_gInL ?_
  | with_reducible refine w_gIntI ?_
  | with_reducible refine w_gRevL ?_
  | with_reducible refine w_gSlL ?_
  | with_reducible refine w_gSlT ?_
  | with_reducible refine w_itF ?_
  | with_reducible refine w_gList ?_
  | with_reducible refine w_gSortI ?_
  | with_reducible refine w_range2 ?_
  | ((with_reducible refine w_lcO (ds := ?wd) ?wh ?wq ?wr); (case wh => exact rfl); (case wq => exact rfl))
  | with_reducible refine w_aUnl rfl ?_
  | with_reducible refine w_brk ?_
  | with_reducible refine w_cnt ?_
  | with_reducible refine w_gIntB ?_
  | simp only [wipeS, backS, List.set_cons_zero, List.set_cons_succ, List.getElem?_cons_zero, List.getElem?_cons_succ, Option.join_some, Option.join_none, Bool.not_true, Bool.not_false]))
local macro_rules | `(tactic| walk_at "wv") => `(tactic| ((repeat (walk_at "wv1"; try dsimp only)); try simp only [List.set_cons_zero, List.set_cons_succ]))
local macro_rules | `(tactic| walk_at "st") => `(tactic| simp only [startS, List.map_cons, List.map_nil, List.length_cons, List.length_nil, Nat.reduceAdd, Nat.reduceSub, List.replicate_succ, List.replicate_zero, List.cons_append, List.nil_append])

section
open PySem L2
local macro_rules | `(tactic| walk_at "ev0") => `(tactic| simp only [okTo_bind, okTo_ok, okTo_noErr, okTo_when, R.bind_ok, seqF, vAsg, vVar, vC, vOp, vUn, vCall, vCons, vNil, vTup, vLst, vFr, vLstF, vTst, toB, toI, gI, gIC, gIB, gNeg, gInt, gLen, gEq, gNe, eqF, vAnd, vOr, vNot, tNotF, vYes, gTuple, gList, gRevL, wipeS, backS, okS, vIfS, vIf, vNext, vRet, vRetN, vDrop, vOwn, vFrz, frzS, aName, aTup, aCons, aNil, vFor, vScr, vRange1, vApp, ownD, vIxO, vSetI, gIxL, gIxT, vInO, vCallP, vCallB, vCallL, vConsO, vTupleO, vListO, vLenO, vLc, vLcO, vIter, vIterT, vEnumK, kdD, listD, tupleD, vListRg, vRepF, vAug, List.getElem?_cons_zero, List.getElem?_cons_succ, List.set_cons_zero, List.set_cons_succ, List.length_cons, List.length_nil, startS, List.map_cons, List.map_nil, List.replicate_succ, List.replicate_zero, List.cons_append, List.nil_append, denP, denB, denS, endP, endB, Nat.sub_self, Nat.reduceSub, Nat.reduceAdd, List.all_cons, List.all_nil, Bool.and_true, SV.mine, Bool.not_false, Option.join_some, true_and, and_true])
/-! ### lists of data, levels -/
/-- numbers 0 .. m - 1 with p, in order -/
def idx (m : Nat) (p : Nat → Bool) : List Nat := (List.range m).filter p
/-! ### choices on the way -/
def EndsIn (m : Nat) (c : Cho) : Prop := c.2.length ≤ 1000 ∧ ∀ e ∈ c.2, 0 ≤ e.1 ∧ e.1 < (m : Int)
/-! ### one joins what is found -/

end
section
/-! ### rounds of finding, as the program makes them -/
open PySem L2
section
variable {n : Nat} {f g : Nat → Option Nat} {i j : Nat}
end
structure YOk (y : List (List Cho)) : Prop where
  len : y.length ≤ 20
  st : ∀ s ∈ y, s.length ≤ 1000
  cho : ∀ s ∈ y, ∀ c ∈ s, EndsIn y.length c
def Us (U : List (List Nat)) (i k : Nat) : Prop := ∃ u, U[i]? = some u ∧ k ∈ u
structure UOk (y : List (List Cho)) (U : List (List Nat)) : Prop where
  len : U.length = y.length
  lt : ∀ (i : Nat) s u, y[i]? = some s → U[i]? = some u → u.length ≤ 1000 ∧ ∀ x ∈ u, x < s.length
section
variable {y : List (List Cho)} {U : List (List Nat)} {lv : List (Option Nat)} {i k : Nat} {s : List Cho} {u : List Nat} {c : Cho}
end

end
section
/-! ### the four sets -/
open PySem L2
structure TOk (y : List (List Cho)) (tg : List Int) : Prop where
  mem : ∀ x ∈ tg, 0 ≤ x ∧ x < (y.length : Int)
  len : tg.length ≤ 1000

end
section
/-! ### attainable: choices are given up -/
open PySem L2
section
variable {lv : List (Option Nat)} {y : List (List Cho)} {U : List (List Nat)}
end

end
end Bo
/-! ### of lists and systems -/
namespace Bo
open PySem L2
theorem w_denS {N : Nat} {fs : VS} {ns : List Int} {kD : PyData → Prop} (h : (fs (some (.scr ns) :: List.replicate (N - 1) none)).okTo fun fl => match fl with
    | .nx _ => kD .none
    | .rt d _ => kD d
    | _ => False) : (denS N fs ns).okTo kD := by
  unfold denS endP
  simp only [okTo_bind]
  refine h.mono fun fl q => ?_
  cases fl <;> first | exact q | exact q.elim
theorem w_listF {fa : VE} {S : SS} {kA : List PyData × SS → Prop} (h : (fa S).okTo fun p => ∃ ds, itemsD p.1 = some ds ∧ kA (ds, p.2)) : (vListF fa S).okTo kA := by
  unfold vListF
  rw [okTo_bind]
  refine h.mono fun p ⟨ds, e, q⟩ => ?_
  rw [e]
  exact q
end Bo

/-! ### the mathematics of fractions (as in the older texts of ours) -/
namespace Bo
open PySem L2
/-! ### lowest terms -/
def rN (n d : Int) : Int := (if d < 0 then -n else n) / (Int.gcd n d : Int)
def rD (n d : Int) : Int := (d.natAbs : Int) / (Int.gcd n d : Int)
theorem gcd_pos {n d : Int} (h : d ≠ 0) : (0 : Int) < (Int.gcd n d : Int) := by
  have : 0 < Int.gcd n d := Int.gcd_pos_iff.mpr (.inr h)
  omega
theorem fdiv_of {n g m : Int} (hg : g ≠ 0) (e : n = g * m) : n.fdiv g = m := by
  rw [e]
  exact Int.mul_fdiv_cancel_left m hg
theorem ediv_of {n g m : Int} (hg : g ≠ 0) (e : n = g * m) : n / g = m := by
  rw [e]
  exact Int.mul_ediv_cancel_left m hg
theorem rN_pos {n d : Int} (h : 0 < d) : n.fdiv (Int.gcd n d : Int) = rN n d := by
  have hg := gcd_pos (n := n) (d := d) (by omega)
  obtain ⟨m, e⟩ := Int.gcd_dvd_left (a := n) (b := d)
  unfold rN
  rw [if_neg (by omega), fdiv_of (by omega) e, ediv_of (by omega) e]
theorem rN_neg {n d : Int} (h : d < 0) : n.fdiv (-(Int.gcd n d : Int)) = rN n d := by
  have hg := gcd_pos (n := n) (d := d) (by omega)
  obtain ⟨m, e⟩ := Int.gcd_dvd_left (a := n) (b := d)
  unfold rN
  rw [if_pos h, fdiv_of (m := -m) (by omega) (by rw [Int.neg_mul_neg]; exact e), ediv_of (m := -m) (by omega) (by rw [Int.mul_neg, ← e])]
theorem rD_pos {n d : Int} (h : 0 < d) : d.fdiv (Int.gcd n d : Int) = rD n d := by
  have hg := gcd_pos (n := n) (d := d) (by omega)
  obtain ⟨m, e⟩ := Int.gcd_dvd_right (a := n) (b := d)
  unfold rD
  have ha : (d.natAbs : Int) = d := by omega
  rw [ha, fdiv_of (by omega) e, ediv_of (by omega) e]
theorem rD_neg {n d : Int} (h : d < 0) : d.fdiv (-(Int.gcd n d : Int)) = rD n d := by
  have hg := gcd_pos (n := n) (d := d) (by omega)
  obtain ⟨m, e⟩ := Int.gcd_dvd_right (a := n) (b := d)
  unfold rD
  have ha : (d.natAbs : Int) = -d := by omega
  rw [ha, fdiv_of (m := -m) (by omega) (by rw [Int.neg_mul_neg]; exact e), ediv_of (m := -m) (by omega) (by rw [Int.mul_neg, ← e])]
theorem gcd_le {n d : Int} (h : d ≠ 0) : Int.gcd n d ≤ d.natAbs := Int.gcd_le_natAbs_right n h
theorem div_le_abs (a : Int) {g : Int} (hg : 0 < g) : (a / g).natAbs ≤ a.natAbs := by
  obtain ⟨k, rfl⟩ : ∃ k : Nat, g = k := ⟨g.toNat, by omega⟩
  exact Int.natAbs_ediv_le_natAbs a k
theorem rN_le {n d : Int} (h : d ≠ 0) : (rN n d).natAbs ≤ n.natAbs := by
  have hg := gcd_pos (n := n) h
  unfold rN
  refine Nat.le_trans (div_le_abs _ hg) ?_
  split <;> omega
theorem rD_le {n d : Int} (h : d ≠ 0) : (rD n d).natAbs ≤ d.natAbs := by
  have hg := gcd_pos (n := n) h
  unfold rD
  refine Nat.le_trans (div_le_abs _ hg) ?_
  omega
/-! ### Euclid's way as the law walks it -/
/-- behind i steps: the divisor is kept, the product falls -/
structure Eu (g : Nat) (P : Nat) (i : Nat) (a b : Int) : Prop where
  a0 : 0 ≤ a
  b0 : 0 < b
  gc : Int.gcd a b = g
  pr : 0 < i → a < b
  fall : a.toNat * b.toNat * 2 ^ (i - 1) ≤ P
theorem gcd_mod0 (a b : Int) : Int.gcd (b % a) a = Int.gcd a b := by
  have e : b % a = b - a * (b / a) := Int.emod_def b a
  refine Nat.dvd_antisymm ?_ ?_
  · have h1 := Int.gcd_dvd_left (a := b % a) (b := a)
    have h2 := Int.gcd_dvd_right (a := b % a) (b := a)
    have h3 : ((Int.gcd (b % a) a : Nat) : Int) ∣ b := by
      have h4 := Int.dvd_add h1 (Int.dvd_trans h2 (Int.dvd_mul_right a (b / a)))
      rw [Int.emod_add_mul_ediv] at h4
      exact h4
    exact Int.dvd_gcd h2 h3
  · have h1 := Int.gcd_dvd_left (a := a) (b := b)
    have h2 := Int.gcd_dvd_right (a := a) (b := b)
    have h3 : ((Int.gcd a b : Nat) : Int) ∣ b % a := by
      rw [e]
      exact Int.dvd_sub h2 (Int.dvd_trans h1 (Int.dvd_mul_right a _))
    exact Int.dvd_gcd h3 h1
theorem Eu.step {g P i : Nat} {a b : Int} (e : Eu g P i a b) (h : a ≠ 0) : Eu g P (i + 1) (b.fmod a) a := by
  obtain ⟨a0, b0, gc, pr, fall⟩ := e
  have ha : 0 < a := by omega
  have em : b.fmod a = b % a := Int.fmod_eq_emod_of_nonneg b (by omega)
  rw [em]
  have m0 := Int.emod_nonneg b h
  have m1 := Int.emod_lt_of_pos b ha
  refine ⟨m0, ha, ?_, fun _ => m1, ?_⟩
  · rw [← gc]
    exact gcd_mod0 a b
  · show (b % a).toNat * a.toNat * 2 ^ i ≤ P
    refine Nat.le_trans ?_ fall
    cases i with
    | zero =>
      show (b % a).toNat * a.toNat * 1 ≤ a.toNat * b.toNat * 1
      rw [Nat.mul_one, Nat.mul_one, Nat.mul_comm]
      have hle : b % a ≤ b := by
        by_cases hb : b < a
        · rw [Int.emod_eq_of_lt (by omega) hb]
          exact Int.le_refl _
        · omega
      exact Nat.mul_le_mul_left _ (by omega)
    | succ j =>
      have hab := pr (by omega)
      have hq : a + b % a ≤ b := by
        have h1 := Int.mul_ediv_add_emod b a
        have h2 : 1 ≤ b / a := Int.le_ediv_of_mul_le ha (by omega)
        have h3 : a * 1 ≤ a * (b / a) := Int.mul_le_mul_of_nonneg_left h2 (by omega)
        omega
      have h2 : 2 * (b % a).toNat ≤ b.toNat := by omega
      show (b % a).toNat * a.toNat * 2 ^ (j + 1) ≤ a.toNat * b.toNat * 2 ^ j
      rw [Nat.pow_succ, ← Nat.mul_assoc, Nat.mul_right_comm _ _ 2]
      refine Nat.mul_le_mul_right _ ?_
      rw [Nat.mul_comm ((b % a).toNat * a.toNat) 2, ← Nat.mul_assoc, Nat.mul_comm (2 * (b % a).toNat)]
      exact Nat.mul_le_mul_left _ h2
theorem Eu.done {g P i : Nat} {a b : Int} (e : Eu g P i a b) (h : P < 2 ^ (i - 1)) : a = 0 := by
  obtain ⟨a0, b0, gc, pr, fall⟩ := e
  by_cases ha : a = 0
  · exact ha
  · exfalso
    have h1 : 1 ≤ a.toNat * b.toNat := Nat.mul_pos (by omega) (by omega)
    have h2 := Nat.mul_le_mul_right (2 ^ (i - 1)) h1
    omega
theorem Eu.zero {g P i : Nat} {a b : Int} (e : Eu g P i a b) (h : a = 0) : b = (g : Int) := by
  obtain ⟨a0, b0, gc, pr, fall⟩ := e
  subst h
  rw [Int.gcd_zero_left] at gc
  omega

/-! ### fractions as rationals -/
theorem rN_rat {n d : Int} (h : d ≠ 0) : rN n d = (Rat.divInt n d).num := by
  rw [Rat.num_divInt, Int.gcd_comm]
  unfold rN
  by_cases c : d < 0
  · rw [if_pos c, Int.sign_eq_neg_one_of_neg c, Int.neg_one_mul]
  · rw [if_neg c, Int.sign_eq_one_of_pos (by omega), Int.one_mul]
theorem rD_rat {n d : Int} (h : d ≠ 0) : rD n d = ((Rat.divInt n d).den : Int) := by
  rw [Rat.den_divInt, if_neg h, Int.gcd_comm]
  unfold rD
  rw [Int.natCast_ediv]
theorem den_ne (q : Rat) : (q.den : Int) ≠ 0 := by
  have := q.den_nz
  omega
theorem divInt_eq {n d : Int} : Rat.divInt n d = (n : Rat) / (d : Rat) := Rat.divInt_eq_div n d
theorem num_den (q : Rat) : (q.num : Rat) / ((q.den : Int) : Rat) = q := by
  rw [← divInt_eq, Rat.num_divInt_den]
end Bo

/-! ### fractions: what their defs are worth -/
namespace Bo
open PySem L2
noncomputable section
def body_ratio : VS :=
    (vSeq (vAsg (vCall gGcd (vCons (vVar 0) (vCons (vVar 1) vNil))) (aName 2))
    (vSeq (vIfS (vTst (vOp (gIB fun i j => decide (i < j)) (vVar 1) (vC (.int 0)))) (vAsg (vUn gNeg (vVar 2)) (aName 2)) vNext)
    (vRet (vTup (vCons (vOp (gIC cFdiv Int.fdiv) (vVar 0) (vVar 2)) (vCons (vOp (gIC cFdiv Int.fdiv) (vVar 1) (vVar 2)) vNil))))))
def den_ratio := denP 3 body_ratio
end
end Bo

/-! ### fractions: what their defs answer -/
namespace Bo
open PySem L2
theorem w_neg {a : Int} {kD : PyData → Prop} (q : kD (.int (-a))) : (gNeg (.int a)).okTo kD := q
theorem w_brk {S : SS} {kS : FL → Prop} (q : kS (.bk S)) : (vBrk S).okTo kS := q
theorem w_cnt {S : SS} {kS : FL → Prop} (q : kS (.ct S)) : (vCnt S).okTo kS := q
local macro_rules | `(tactic| walk_at "wv1") => `(tactic| (first
  | ((with_reducible refine w_var (d := ?wd) ?wh ?wq); (case wh => exact rfl))
  | with_reducible refine w_cons ?_
  | with_reducible refine w_nil ?_
  | with_reducible refine w_op ?_
  | with_reducible refine w_c ?_
  | with_reducible refine w_aName ?_
  | with_reducible refine w_seq ?_
  | with_reducible refine w_asg ?_
  | with_reducible refine w_toB ?_
  | with_reducible refine w_callP ?_
  | with_reducible refine w_tst ?_
  | with_reducible refine w_gIxT ?_
  | with_reducible refine w_call ?_
  | with_reducible refine w_ret ?_
  | with_reducible refine w_ifS ?_
  | with_reducible refine w_next ?_
  | ((with_reducible refine w_own (ds := ?wd) ?wh ?wq); (case wh => exact rfl))
  | with_reducible refine w_for ?_
  | with_reducible refine w_fr ?_
  | with_reducible refine w_lc ?_
  | with_reducible refine w_tup ?_
  | with_reducible refine w_iter ?_
  | with_reducible refine w_itFT ?_
  | with_reducible refine w_aCons ?_
  | with_reducible refine w_gIxL ?_
  | with_reducible refine w_tnot ?_
  | with_reducible refine w_tor ?_
  | with_reducible refine w_range1 ?_
  | with_reducible refine w_yes ?_
  | with_reducible refine w_itTT ?_
  | with_reducible refine w_iterT ?_
  | with_reducible refine w_lst ?_
  | with_reducible refine w_toI ?_
  | with_reducible refine w_ownS ?_
  | with_reducible refine w_aTup rfl ?_
  | with_reducible refine w_aNil ?_
  | ((with_reducible refine w_frz (ds := ?wd) ?wh ?wq); (case wh => exact rfl))
  | with_reducible refine w_itT ?_
  | with_reducible refine w_tand ?_
  | with_reducible refine w_gEqI ?_
  | with_reducible refine w_gNeI ?_
  | with_reducible refine w_gLenT ?_
  | with_reducible refine w_lstF ?_
  | with_reducible refine w_callB ?_
  | with_reducible refine w_app ?_
  | with_reducible refine w_setI ?_
  | with_reducible refine w_gNeD ?_
  | with_reducible refine w_gEqD ?_
  | with_reducible refine w_drop ?_
  | with_reducible refine w_gIB ?_
  | with_reducible refine w_gBools ?_
  | with_reducible refine w_and ?_
  | with_reducible refine w_isN ?_
  | with_reducible refine w_or ?_
  | with_reducible refine w_ixO ?_
  | with_reducible refine w_gI ?_
  | with_reducible refine w_gLenL ?_
  | with_reducible refine w_gTuple ?_
  | with_reducible refine w_gInts ?_
  | with_reducible refine w_un ?_
  | with_reducible refine w_if ?_
  | with_reducible refine w_chain ?_
  | ((with_reducible refine w_callS (ns := ?wd) ?wh ?wq); (case wh => exact rfl))
  | with_reducible refine w_sl ?_
  | with_reducible refine w_noPart ?_
  | with_reducible refine w_part ?_
  | with_reducible refine w_listRg ?_
  | with_reducible refine w_enumK ?_
  | with_reducible refine w_repF ?_
  | with_reducible refine w_gIC ?_
  | with_reducible refine w_gCat ?_
  | with_reducible refine w_gCatT ?_
  | with_reducible refine w_notN ?_
  | with_reducible refine w_listF ?_
  | with_reducible refine w_neg ?_
  | with_reducible refine w_not ?_
  | with_reducible refine w_tru ?_
  | with_reducible refine w_callL ?_
  | with_reducible refine w_consO ?_
  | with_reducible refine w_lenO ?_
  | with_reducible refine w_tupleO ?_
  | with_reducible refine w_listO ?_
  | with_reducible refine w_inO ?_
  | with_reducible refine w_truO ?_
  | with_reducible refine w_zipK ?_
  | with_reducible refine w_retN ?_
  | ((with_reducible refine w_aug (a := ?wd) ?wh ?wq); (case wh => exact rfl))
  | with_reducible refine w_gInL ?_
  | with_reducible refine w_gIntI ?_
  | with_reducible refine w_gRevL ?_
  | with_reducible refine w_gSlL ?_
  | with_reducible refine w_gSlT ?_
  | with_reducible refine w_itF ?_
  | with_reducible refine w_gList ?_
  | with_reducible refine w_gSortI ?_
  | with_reducible refine w_range2 ?_
  | ((with_reducible refine w_lcO (ds := ?wd) ?wh ?wq ?wr); (case wh => exact rfl); (case wq => exact rfl))
  | with_reducible refine w_aUnl rfl ?_
  | with_reducible refine w_brk ?_
  | with_reducible refine w_cnt ?_
  | with_reducible refine w_gIntB ?_
  | simp only [wipeS, backS, List.set_cons_zero, List.set_cons_succ, List.getElem?_cons_zero, List.getElem?_cons_succ, Option.join_some, Option.join_none, Bool.not_true, Bool.not_false]))
local macro_rules | `(tactic| walk_at "wv") => `(tactic| ((repeat (walk_at "wv1"; try dsimp only)); try simp only [List.set_cons_zero, List.set_cons_succ]))
local macro_rules | `(tactic| walk_at "st") => `(tactic| simp only [startS, List.map_cons, List.map_nil, List.length_cons, List.length_nil, Nat.reduceAdd, Nat.reduceSub, List.replicate_succ, List.replicate_zero, List.cons_append, List.nil_append])

@[irreducible] def dQ (q : Rat) : PyData := .tuple [.int q.num, .int (q.den : Int)]
theorem cFdiv_wide {n d g m : Int} (h : d ≠ 0) (hb : d.natAbs < 2 ^ 8000) (e : g.natAbs = Int.gcd n d) : cFdiv m g = true := by
  have hg := gcd_pos (n := n) h
  refine decide_eq_true ⟨by omega, Nat.lt_of_le_of_lt (by rw [e]; exact gcd_le h) (Nat.lt_of_lt_of_le hb (Nat.pow_le_pow_right (by decide) (by decide)))⟩
theorem dq_of {n d : Int} (h : d ≠ 0) : PyData.tuple [.int (rN n d), .int (rD n d)] = dQ (Rat.divInt n d) := by
  unfold dQ
  rw [rN_rat h, rD_rat h]
theorem ratio_ok {n d : Int} {k : PyData → Prop} (h : d ≠ 0) (hb : d.natAbs < 2 ^ 8000) (q : k (dQ (Rat.divInt n d))) : (den_ratio [.int n, .int d]).okTo k := by
  rw [← dq_of h] at q
  unfold den_ratio body_ratio
  refine w_denP ?_
  walk_at "st"
  walk_at "wv"
  refine okTo_eq (a := .int ((Int.gcd n d : Nat) : Int)) rfl ?_
  walk_at "wv"
  by_cases c : d < 0
  · rw [decide_eq_true c]
    walk_at "wv"
    refine ⟨cFdiv_wide h hb (by rw [Int.natAbs_neg, Int.natAbs_natCast]), ?_⟩
    walk_at "wv"
    refine ⟨cFdiv_wide h hb (by rw [Int.natAbs_neg, Int.natAbs_natCast]), ?_⟩
    walk_at "wv"
    refine ⟨by simp, ?_⟩
    rw [rN_neg c, rD_neg c]
    exact q
  · have c' : 0 < d := by omega
    rw [decide_eq_false c]
    walk_at "wv"
    refine ⟨cFdiv_wide h hb (Int.natAbs_natCast _), ?_⟩
    walk_at "wv"
    refine ⟨cFdiv_wide h hb (Int.natAbs_natCast _), ?_⟩
    walk_at "wv"
    refine ⟨by simp, ?_⟩
    rw [rN_pos c', rD_pos c']
    exact q
end Bo

namespace Bo
open PySem L2
local macro_rules | `(tactic| walk_at "wv1") => `(tactic| (first
  | ((with_reducible refine w_var (d := ?wd) ?wh ?wq); (case wh => exact rfl))
  | with_reducible refine w_cons ?_
  | with_reducible refine w_nil ?_
  | with_reducible refine w_op ?_
  | with_reducible refine w_c ?_
  | with_reducible refine w_aName ?_
  | with_reducible refine w_seq ?_
  | with_reducible refine w_asg ?_
  | with_reducible refine w_toB ?_
  | with_reducible refine w_callP ?_
  | with_reducible refine w_tst ?_
  | with_reducible refine w_gIxT ?_
  | with_reducible refine w_call ?_
  | with_reducible refine w_ret ?_
  | with_reducible refine w_ifS ?_
  | with_reducible refine w_next ?_
  | ((with_reducible refine w_own (ds := ?wd) ?wh ?wq); (case wh => exact rfl))
  | with_reducible refine w_for ?_
  | with_reducible refine w_fr ?_
  | with_reducible refine w_lc ?_
  | with_reducible refine w_tup ?_
  | with_reducible refine w_iter ?_
  | with_reducible refine w_itFT ?_
  | with_reducible refine w_aCons ?_
  | with_reducible refine w_gIxL ?_
  | with_reducible refine w_tnot ?_
  | with_reducible refine w_tor ?_
  | with_reducible refine w_range1 ?_
  | with_reducible refine w_yes ?_
  | with_reducible refine w_itTT ?_
  | with_reducible refine w_iterT ?_
  | with_reducible refine w_lst ?_
  | with_reducible refine w_toI ?_
  | with_reducible refine w_ownS ?_
  | with_reducible refine w_aTup rfl ?_
  | with_reducible refine w_aNil ?_
  | ((with_reducible refine w_frz (ds := ?wd) ?wh ?wq); (case wh => exact rfl))
  | with_reducible refine w_itT ?_
  | with_reducible refine w_tand ?_
  | with_reducible refine w_gEqI ?_
  | with_reducible refine w_gNeI ?_
  | with_reducible refine w_gLenT ?_
  | with_reducible refine w_lstF ?_
  | with_reducible refine w_callB ?_
  | with_reducible refine w_app ?_
  | with_reducible refine w_setI ?_
  | with_reducible refine w_gNeD ?_
  | with_reducible refine w_gEqD ?_
  | with_reducible refine w_drop ?_
  | with_reducible refine w_gIB ?_
  | with_reducible refine w_gBools ?_
  | with_reducible refine w_and ?_
  | with_reducible refine w_isN ?_
  | with_reducible refine w_or ?_
  | with_reducible refine w_ixO ?_
  | with_reducible refine w_gI ?_
  | with_reducible refine w_gLenL ?_
  | with_reducible refine w_gTuple ?_
  | with_reducible refine w_gInts ?_
  | with_reducible refine w_un ?_
  | with_reducible refine w_if ?_
  | with_reducible refine w_chain ?_
  | ((with_reducible refine w_callS (ns := ?wd) ?wh ?wq); (case wh => exact rfl))
  | with_reducible refine w_sl ?_
  | with_reducible refine w_noPart ?_
  | with_reducible refine w_part ?_
  | with_reducible refine w_listRg ?_
  | with_reducible refine w_enumK ?_
  | with_reducible refine w_repF ?_
  | with_reducible refine w_gIC ?_
  | with_reducible refine w_gCat ?_
  | with_reducible refine w_gCatT ?_
  | with_reducible refine w_notN ?_
  | with_reducible refine w_listF ?_
  | with_reducible refine w_neg ?_
  | with_reducible refine w_not ?_
  | with_reducible refine w_tru ?_
  | with_reducible refine w_callL ?_
  | with_reducible refine w_consO ?_
  | with_reducible refine w_lenO ?_
  | with_reducible refine w_tupleO ?_
  | with_reducible refine w_listO ?_
  | with_reducible refine w_inO ?_
  | with_reducible refine w_truO ?_
  | with_reducible refine w_zipK ?_
  | with_reducible refine w_retN ?_
  | ((with_reducible refine w_aug (a := ?wd) ?wh ?wq); (case wh => exact rfl))
  | with_reducible refine w_gInL ?_
  | with_reducible refine w_gIntI ?_
  | with_reducible refine w_gRevL ?_
  | with_reducible refine w_gSlL ?_
  | with_reducible refine w_gSlT ?_
  | with_reducible refine w_itF ?_
  | with_reducible refine w_gList ?_
  | with_reducible refine w_gSortI ?_
  | with_reducible refine w_range2 ?_
  | ((with_reducible refine w_lcO (ds := ?wd) ?wh ?wq ?wr); (case wh => exact rfl); (case wq => exact rfl))
  | with_reducible refine w_aUnl rfl ?_
  | with_reducible refine w_brk ?_
  | with_reducible refine w_cnt ?_
  | with_reducible refine w_gIntB ?_
  | simp only [wipeS, backS, List.set_cons_zero, List.set_cons_succ, List.getElem?_cons_zero, List.getElem?_cons_succ, Option.join_some, Option.join_none, Bool.not_true, Bool.not_false]))
local macro_rules | `(tactic| walk_at "wv") => `(tactic| ((repeat (walk_at "wv1"; try dsimp only)); try simp only [List.set_cons_zero, List.set_cons_succ]))
local macro_rules | `(tactic| walk_at "st") => `(tactic| simp only [startS, List.map_cons, List.map_nil, List.length_cons, List.length_nil, Nat.reduceAdd, Nat.reduceSub, List.replicate_succ, List.replicate_zero, List.cons_append, List.nil_append])

section
/-! ### the sum of fractions (as in VfE, without k04's own) -/
open PySem L2
def Bq4 (q : Rat) : Prop := q.num.natAbs < 2 ^ 3000 ∧ q.den < 2 ^ 3000
theorem cMul3 {i j : Int} (h : i.natAbs < 2 ^ 3000) (g : j.natAbs < 2 ^ 3000) : cMul i j = true := decide_eq_true ⟨Nat.lt_of_lt_of_le h (Nat.pow_le_pow_right (by decide) (by decide)), Nat.lt_of_lt_of_le g (Nat.pow_le_pow_right (by decide) (by decide))⟩
theorem dq_d (q : Rat) : gIxT (dQ q) (.int 1) = .ok (.int (q.den : Int)) := by
  unfold dQ
  exact ixD_nat (ds := [.int q.num, .int (q.den : Int)]) (j := 1) rfl

end
end Bo
/-! ### solve: the worth of its defs, as gen2 reads them -/
namespace Bo
open PySem L2
noncomputable section
end
end Bo

/-! ### chains: the worth of the program's defs, as gen2 reads them -/
namespace Bo
open PySem L2
noncomputable section
end
end Bo

/-! ### fractions over one denominator: how great they can be -/
namespace Bo
/-- s times q is whole, and no greater than b -/
def Pd (s b : Nat) (q : Rat) : Prop := ∃ m : Int, q * (s : Rat) = (m : Rat) ∧ m.natAbs ≤ b
theorem Pd.zero (s b : Nat) : Pd s b 0 := ⟨0, by rw [Rat.zero_mul]; rfl, Nat.zero_le b⟩
theorem Pd.one : Pd 1 1 1 := ⟨1, by rw [Rat.one_mul]; rfl, Nat.le_refl 1⟩
theorem Pd.mono {s b c : Nat} {q : Rat} (h : Pd s b q) (l : b ≤ c) : Pd s c q :=
  let ⟨m, e, n⟩ := h
  ⟨m, e, Nat.le_trans n l⟩
theorem Pd.neg {s b : Nat} {q : Rat} (h : Pd s b q) : Pd s b (-q) := by
  obtain ⟨m, e, n⟩ := h
  refine ⟨-m, ?_, by omega⟩
  rw [Rat.neg_mul, e, Rat.intCast_neg]
theorem Pd.add {s b c : Nat} {q r : Rat} (h : Pd s b q) (g : Pd s c r) : Pd s (b + c) (q + r) := by
  obtain ⟨m, e, n⟩ := h
  obtain ⟨k, f, l⟩ := g
  refine ⟨m + k, ?_, by omega⟩
  rw [Rat.add_mul, e, f, Rat.intCast_add]
theorem Pd.mul {s t b c : Nat} {q r : Rat} (h : Pd s b q) (g : Pd t c r) : Pd (s * t) (b * c) (q * r) := by
  obtain ⟨m, e, n⟩ := h
  obtain ⟨k, f, l⟩ := g
  refine ⟨m * k, ?_, by rw [Int.natAbs_mul]; exact Nat.mul_le_mul n l⟩
  rw [Rat.natCast_mul, Rat.intCast_mul, ← e, ← f]
  grind
theorem Pd.of {m : Int} {s b : Nat} (hs : s ≠ 0) (h : m.natAbs ≤ b) : Pd s b (Rat.divInt m s) := by
  refine ⟨m, ?_, h⟩
  rw [Rat.divInt_eq_div, Rat.intCast_natCast]
  have : (s : Rat) ≠ 0 := by exact_mod_cast hs
  grind
theorem Pd.eq {s b : Nat} {q : Rat} (hs : s ≠ 0) (h : Pd s b q) : ∃ m : Int, q = Rat.divInt m s ∧ m.natAbs ≤ b := by
  obtain ⟨m, e, n⟩ := h
  refine ⟨m, ?_, n⟩
  rw [Rat.divInt_eq_div, Rat.intCast_natCast, ← e]
  have : (s : Rat) ≠ 0 := by exact_mod_cast hs
  grind
end Bo

namespace Bo
open PySem L2
local macro_rules | `(tactic| walk_at "wv1") => `(tactic| (first
  | ((with_reducible refine w_var (d := ?wd) ?wh ?wq); (case wh => exact rfl))
  | with_reducible refine w_cons ?_
  | with_reducible refine w_nil ?_
  | with_reducible refine w_op ?_
  | with_reducible refine w_c ?_
  | with_reducible refine w_aName ?_
  | with_reducible refine w_seq ?_
  | with_reducible refine w_asg ?_
  | with_reducible refine w_toB ?_
  | with_reducible refine w_callP ?_
  | with_reducible refine w_tst ?_
  | with_reducible refine w_gIxT ?_
  | with_reducible refine w_call ?_
  | with_reducible refine w_ret ?_
  | with_reducible refine w_ifS ?_
  | with_reducible refine w_next ?_
  | ((with_reducible refine w_own (ds := ?wd) ?wh ?wq); (case wh => exact rfl))
  | with_reducible refine w_for ?_
  | with_reducible refine w_fr ?_
  | with_reducible refine w_lc ?_
  | with_reducible refine w_tup ?_
  | with_reducible refine w_iter ?_
  | with_reducible refine w_itFT ?_
  | with_reducible refine w_aCons ?_
  | with_reducible refine w_gIxL ?_
  | with_reducible refine w_tnot ?_
  | with_reducible refine w_tor ?_
  | with_reducible refine w_range1 ?_
  | with_reducible refine w_yes ?_
  | with_reducible refine w_itTT ?_
  | with_reducible refine w_iterT ?_
  | with_reducible refine w_lst ?_
  | with_reducible refine w_toI ?_
  | with_reducible refine w_ownS ?_
  | with_reducible refine w_aTup rfl ?_
  | with_reducible refine w_aNil ?_
  | ((with_reducible refine w_frz (ds := ?wd) ?wh ?wq); (case wh => exact rfl))
  | with_reducible refine w_itT ?_
  | with_reducible refine w_tand ?_
  | with_reducible refine w_gEqI ?_
  | with_reducible refine w_gNeI ?_
  | with_reducible refine w_gLenT ?_
  | with_reducible refine w_lstF ?_
  | with_reducible refine w_callB ?_
  | with_reducible refine w_app ?_
  | with_reducible refine w_setI ?_
  | with_reducible refine w_gNeD ?_
  | with_reducible refine w_gEqD ?_
  | with_reducible refine w_drop ?_
  | with_reducible refine w_gIB ?_
  | with_reducible refine w_gBools ?_
  | with_reducible refine w_and ?_
  | with_reducible refine w_isN ?_
  | with_reducible refine w_or ?_
  | with_reducible refine w_ixO ?_
  | with_reducible refine w_gI ?_
  | with_reducible refine w_gLenL ?_
  | with_reducible refine w_gTuple ?_
  | with_reducible refine w_gInts ?_
  | with_reducible refine w_un ?_
  | with_reducible refine w_if ?_
  | with_reducible refine w_chain ?_
  | ((with_reducible refine w_callS (ns := ?wd) ?wh ?wq); (case wh => exact rfl))
  | with_reducible refine w_sl ?_
  | with_reducible refine w_noPart ?_
  | with_reducible refine w_part ?_
  | with_reducible refine w_listRg ?_
  | with_reducible refine w_enumK ?_
  | with_reducible refine w_repF ?_
  | with_reducible refine w_gIC ?_
  | with_reducible refine w_gCat ?_
  | with_reducible refine w_gCatT ?_
  | with_reducible refine w_notN ?_
  | with_reducible refine w_listF ?_
  | with_reducible refine w_neg ?_
  | with_reducible refine w_not ?_
  | with_reducible refine w_tru ?_
  | with_reducible refine w_callL ?_
  | with_reducible refine w_consO ?_
  | with_reducible refine w_lenO ?_
  | with_reducible refine w_tupleO ?_
  | with_reducible refine w_listO ?_
  | with_reducible refine w_inO ?_
  | with_reducible refine w_truO ?_
  | with_reducible refine w_zipK ?_
  | with_reducible refine w_retN ?_
  | ((with_reducible refine w_aug (a := ?wd) ?wh ?wq); (case wh => exact rfl))
  | with_reducible refine w_gInL ?_
  | with_reducible refine w_gIntI ?_
  | with_reducible refine w_gRevL ?_
  | with_reducible refine w_gSlL ?_
  | with_reducible refine w_gSlT ?_
  | with_reducible refine w_itF ?_
  | with_reducible refine w_gList ?_
  | with_reducible refine w_gSortI ?_
  | with_reducible refine w_range2 ?_
  | ((with_reducible refine w_lcO (ds := ?wd) ?wh ?wq ?wr); (case wh => exact rfl); (case wq => exact rfl))
  | with_reducible refine w_aUnl rfl ?_
  | with_reducible refine w_brk ?_
  | with_reducible refine w_cnt ?_
  | with_reducible refine w_gIntB ?_
  | simp only [wipeS, backS, List.set_cons_zero, List.set_cons_succ, List.getElem?_cons_zero, List.getElem?_cons_succ, Option.join_some, Option.join_none, Bool.not_true, Bool.not_false]))
local macro_rules | `(tactic| walk_at "wv") => `(tactic| ((repeat (walk_at "wv1"; try dsimp only)); try simp only [List.set_cons_zero, List.set_cons_succ]))
local macro_rules | `(tactic| walk_at "st") => `(tactic| simp only [startS, List.map_cons, List.map_nil, List.length_cons, List.length_nil, Nat.reduceAdd, Nat.reduceSub, List.replicate_succ, List.replicate_zero, List.cons_append, List.nil_append])

section
/-! ### the law's products and sums of fractions -/
open PySem L2
def Bq3 (q : Rat) : Prop := q.num.natAbs < 2 ^ 400 ∧ q.den < 2 ^ 400
theorem Pd.small {s b : Nat} {q : Rat} (hs : s ≠ 0) (h : Pd s b q) : q.num.natAbs ≤ b ∧ q.den ≤ s := by
  obtain ⟨m, rfl, n⟩ := h.eq hs
  have hs' : (s : Int) ≠ 0 := by omega
  have h1 := rN_le (n := m) hs'
  have h2 := rD_le (n := m) hs'
  rw [rN_rat hs'] at h1
  rw [rD_rat hs', Int.natAbs_natCast, Int.natAbs_natCast] at h2
  exact ⟨by omega, h2⟩
theorem Pd.b3 {s b : Nat} {q : Rat} (hs : s ≠ 0) (h : Pd s b q) (h1 : b < 2 ^ 400) (h2 : s < 2 ^ 400) : Bq3 q :=
  let ⟨x, y⟩ := h.small hs
  ⟨Nat.lt_of_le_of_lt x h1, Nat.lt_of_le_of_lt y h2⟩
theorem Pd.dvd {s b : Nat} {q : Rat} (hs : s ≠ 0) (h : Pd s b q) : q.den ∣ s := by
  obtain ⟨m, rfl, n⟩ := h.eq hs
  have hs' : (s : Int) ≠ 0 := by omega
  have e := rD_rat (n := m) hs'
  have g : ((Int.gcd m s : Nat) : Int) ∣ (s : Int) := Int.gcd_dvd_right m s
  obtain ⟨c, hc⟩ := g
  have gp := gcd_pos (n := m) hs'
  have e2 : rD m s = c := by
    unfold rD
    rw [Int.natAbs_natCast]
    exact ediv_of (by omega) hc
  rw [e2] at e
  rw [e] at hc
  exact Int.natCast_dvd_natCast.mp ⟨((Int.gcd m s : Nat) : Int), hc.trans (Int.mul_comm _ _)⟩
/-! data that can be compared -/
def Shp (n : Nat) (d : PyData) : Prop := d.canLay0 = true ∧ d.depth ≤ n
theorem shp_all {n : Nat} : ∀ {ds : List PyData}, (∀ d ∈ ds, Shp n d) → PyData.canLayAll0 ds = true ∧ PyData.depthAll ds ≤ n
  | [], _ => ⟨rfl, Nat.zero_le n⟩
  | d :: ds, h => by
    obtain ⟨a, b⟩ := h d List.mem_cons_self
    obtain ⟨a2, b2⟩ := shp_all (ds := ds) fun x hx => h x (List.mem_cons_of_mem d hx)
    exact ⟨by rw [PyData.canLayAll0, a, a2]; rfl, by rw [PyData.depthAll]; exact Nat.max_le.mpr ⟨b, b2⟩⟩
theorem shp_list {n : Nat} {ds : List PyData} (h : ∀ d ∈ ds, Shp n d) : Shp (n + 1) (.list ds) := by
  obtain ⟨a, b⟩ := shp_all h
  exact ⟨by rw [PyData.canLay0, a], by rw [PyData.depth]; omega⟩
theorem shp_tuple {n : Nat} {ds : List PyData} (h : ∀ d ∈ ds, Shp n d) : Shp (n + 1) (.tuple ds) := by
  obtain ⟨a, b⟩ := shp_all h
  exact ⟨by rw [PyData.canLay0, a], by rw [PyData.depth]; omega⟩
theorem shp_int {n : Nat} (i : Int) : Shp n (.int i) := ⟨rfl, by rw [PyData.depth]; omega⟩
theorem Shp.ok {n : Nat} {d : PyData} (h : Shp n d) (hn : n ≤ 64) : SeqAt.shaped d = true := by
  unfold SeqAt.shaped
  rw [h.1, decide_eq_true (Nat.le_trans h.2 hn)]
  rfl
theorem Shp.same {n : Nat} {d : PyData} (h : Shp n d) : PyData.eqv d d = true := SeqAt.eqv_refl d h.1

end
end Bo
/-! ### lists by place; members -/
namespace Bo
open PySem L2
theorem gLen_y {y : List (List Cho)} : gLen [dY y] = .ok (.int (y.length : Nat)) := by
  show R.ok (PyData.int ((y.map dS).length : Nat)) = _
  rw [List.length_map]
end Bo

namespace Bo
open PySem L2
local macro_rules | `(tactic| walk_at "wv1") => `(tactic| (first
  | ((with_reducible refine w_var (d := ?wd) ?wh ?wq); (case wh => exact rfl))
  | with_reducible refine w_cons ?_
  | with_reducible refine w_nil ?_
  | with_reducible refine w_op ?_
  | with_reducible refine w_c ?_
  | with_reducible refine w_aName ?_
  | with_reducible refine w_seq ?_
  | with_reducible refine w_asg ?_
  | with_reducible refine w_toB ?_
  | with_reducible refine w_callP ?_
  | with_reducible refine w_tst ?_
  | with_reducible refine w_gIxT ?_
  | with_reducible refine w_call ?_
  | with_reducible refine w_ret ?_
  | with_reducible refine w_ifS ?_
  | with_reducible refine w_next ?_
  | ((with_reducible refine w_own (ds := ?wd) ?wh ?wq); (case wh => exact rfl))
  | with_reducible refine w_for ?_
  | with_reducible refine w_fr ?_
  | with_reducible refine w_lc ?_
  | with_reducible refine w_tup ?_
  | with_reducible refine w_iter ?_
  | with_reducible refine w_itFT ?_
  | with_reducible refine w_aCons ?_
  | with_reducible refine w_gIxL ?_
  | with_reducible refine w_tnot ?_
  | with_reducible refine w_tor ?_
  | with_reducible refine w_range1 ?_
  | with_reducible refine w_yes ?_
  | with_reducible refine w_itTT ?_
  | with_reducible refine w_iterT ?_
  | with_reducible refine w_lst ?_
  | with_reducible refine w_toI ?_
  | with_reducible refine w_ownS ?_
  | with_reducible refine w_aTup rfl ?_
  | with_reducible refine w_aNil ?_
  | ((with_reducible refine w_frz (ds := ?wd) ?wh ?wq); (case wh => exact rfl))
  | with_reducible refine w_itT ?_
  | with_reducible refine w_tand ?_
  | with_reducible refine w_gEqI ?_
  | with_reducible refine w_gNeI ?_
  | with_reducible refine w_gLenT ?_
  | with_reducible refine w_lstF ?_
  | with_reducible refine w_callB ?_
  | with_reducible refine w_app ?_
  | with_reducible refine w_setI ?_
  | with_reducible refine w_gNeD ?_
  | with_reducible refine w_gEqD ?_
  | with_reducible refine w_drop ?_
  | with_reducible refine w_gIB ?_
  | with_reducible refine w_gBools ?_
  | with_reducible refine w_and ?_
  | with_reducible refine w_isN ?_
  | with_reducible refine w_or ?_
  | with_reducible refine w_ixO ?_
  | with_reducible refine w_gI ?_
  | with_reducible refine w_gLenL ?_
  | with_reducible refine w_gTuple ?_
  | with_reducible refine w_gInts ?_
  | with_reducible refine w_un ?_
  | with_reducible refine w_if ?_
  | with_reducible refine w_chain ?_
  | ((with_reducible refine w_callS (ns := ?wd) ?wh ?wq); (case wh => exact rfl))
  | with_reducible refine w_sl ?_
  | with_reducible refine w_noPart ?_
  | with_reducible refine w_part ?_
  | with_reducible refine w_listRg ?_
  | with_reducible refine w_enumK ?_
  | with_reducible refine w_repF ?_
  | with_reducible refine w_gIC ?_
  | with_reducible refine w_gCat ?_
  | with_reducible refine w_gCatT ?_
  | with_reducible refine w_notN ?_
  | with_reducible refine w_listF ?_
  | with_reducible refine w_neg ?_
  | with_reducible refine w_not ?_
  | with_reducible refine w_tru ?_
  | with_reducible refine w_callL ?_
  | with_reducible refine w_consO ?_
  | with_reducible refine w_lenO ?_
  | with_reducible refine w_tupleO ?_
  | with_reducible refine w_listO ?_
  | with_reducible refine w_inO ?_
  | with_reducible refine w_truO ?_
  | with_reducible refine w_zipK ?_
  | with_reducible refine w_retN ?_
  | ((with_reducible refine w_aug (a := ?wd) ?wh ?wq); (case wh => exact rfl))
  | with_reducible refine w_gInL ?_
  | with_reducible refine w_gIntI ?_
  | with_reducible refine w_gRevL ?_
  | with_reducible refine w_gSlL ?_
  | with_reducible refine w_gSlT ?_
  | with_reducible refine w_itF ?_
  | with_reducible refine w_gList ?_
  | with_reducible refine w_gSortI ?_
  | with_reducible refine w_range2 ?_
  | ((with_reducible refine w_lcO (ds := ?wd) ?wh ?wq ?wr); (case wh => exact rfl); (case wq => exact rfl))
  | with_reducible refine w_aUnl rfl ?_
  | with_reducible refine w_brk ?_
  | with_reducible refine w_cnt ?_
  | with_reducible refine w_gIntB ?_
  | simp only [wipeS, backS, List.set_cons_zero, List.set_cons_succ, List.getElem?_cons_zero, List.getElem?_cons_succ, Option.join_some, Option.join_none, Bool.not_true, Bool.not_false]))
local macro_rules | `(tactic| walk_at "wv") => `(tactic| ((repeat (walk_at "wv1"; try dsimp only)); try simp only [List.set_cons_zero, List.set_cons_succ]))
local macro_rules | `(tactic| walk_at "st") => `(tactic| simp only [startS, List.map_cons, List.map_nil, List.length_cons, List.length_nil, Nat.reduceAdd, Nat.reduceSub, List.replicate_succ, List.replicate_zero, List.cons_append, List.nil_append])

section
/-! ### chains: what the program's defs answer -/
open PySem L2
def wsum (es : List (Int × Int)) : Int := (es.map (·.2)).sum
def cAt (y : List (List Cho)) (i b : Nat) : Cho := (y.getD i []).getD b (0, [])
def PolOk (y : List (List Cho)) (pol : List Int) : Prop := pol.length = y.length ∧ ∀ (i : Nat) s r, y[i]? = some s → pol[i]? = some r → 0 ≤ r ∧ r < (s.length : Int)
theorem PolOk.at_ {y : List (List Cho)} {pol : List Int} (h : PolOk y pol) {i : Nat} (hi : i < y.length) : ∃ b : Nat, pol[i]? = some (b : Int) ∧ y[i]? = some (y.getD i []) ∧ (y.getD i [])[b]? = some (cAt y i b) ∧ (pol.getD i 0).toNat = b := by
  have e1 : y[i]? = some (y.getD i []) := by rw [List.getD_eq_getElem?_getD, List.getElem?_eq_getElem hi]; rfl
  have e2 : pol[i]? = some (pol.getD i 0) := by rw [List.getD_eq_getElem?_getD, List.getElem?_eq_getElem (show i < pol.length by have := h.1; omega)]; rfl
  obtain ⟨h1, h2⟩ := h.2 i _ _ e1 e2
  refine ⟨(pol.getD i 0).toNat, by rw [e2]; congr 1; omega, e1, ?_, rfl⟩
  unfold cAt
  rw [List.getD_eq_getElem?_getD (l := y.getD i []), List.getElem?_eq_getElem (show (pol.getD i 0).toNat < (y.getD i []).length by omega)]
  rfl

end
section
/-! ### chains: the rows of the equations, as the program makes them -/
open PySem L2
theorem Pd.b4 {s b : Nat} {q : Rat} (hs : s ≠ 0) (h : Pd s b q) (h1 : b < 2 ^ 3000) (h2 : s < 2 ^ 3000) : Bq4 q :=
  let ⟨x, y⟩ := h.small hs
  ⟨Nat.lt_of_le_of_lt x h1, Nat.lt_of_le_of_lt y h2⟩
/-- the chance of going to o -/
def prE (W : Int) (es : List (Int × Int)) (o : Int) : Rat := ((es.find? fun e => decide (e.1 = o)).map fun e => Rat.divInt e.2 W).getD 0
def prob (es : List (Int × Int)) (o : Int) : Rat := prE (wsum es) es o
/-- ends that are looked at -/
structure EsOk (n : Nat) (es : List (Int × Int)) : Prop where
  ne : es ≠ []
  len : es.length ≤ 20
  ends : ∀ e ∈ es, (0 ≤ e.1 ∧ e.1 < (n : Int)) ∧ 1 ≤ e.2 ∧ e.2 ≤ 1000
  rise : es.Pairwise fun x y => x.1 < y.1
theorem wsum_bd : ∀ {es : List (Int × Int)}, (∀ e ∈ es, 1 ≤ e.2 ∧ e.2 ≤ 1000) → (es.length : Int) ≤ wsum es ∧ wsum es ≤ 1000 * (es.length : Int)
  | [], _ => ⟨Int.le_refl _, Int.le_refl _⟩
  | e :: es, h => by
    obtain ⟨h1, h2⟩ := wsum_bd (es := es) fun x hx => h x (List.mem_cons_of_mem _ hx)
    obtain ⟨g1, g2⟩ := h e List.mem_cons_self
    have : wsum (e :: es) = e.2 + wsum es := rfl
    rw [this, List.length_cons]
    omega
theorem EsOk.pos {n : Nat} {es : List (Int × Int)} (h : EsOk n es) : 1 ≤ wsum es ∧ wsum es ≤ 20000 := by
  have := wsum_bd fun e he => (h.ends e he).2
  have := List.length_pos_iff.mpr h.ne
  have := h.len
  omega
theorem EsOk.pd {n : Nat} {es : List (Int × Int)} (h : EsOk n es) {e : Int × Int} (he : e ∈ es) : Pd (wsum es).natAbs 1000 (Rat.divInt e.2 (wsum es)) := by
  have := h.pos
  have : Rat.divInt e.2 (wsum es) = Rat.divInt e.2 ((wsum es).natAbs : Int) := by congr 1; omega
  rw [this]
  have := (h.ends e he).2
  exact Pd.of (by omega) (by omega)
theorem EsOk.prob {n : Nat} {es : List (Int × Int)} (h : EsOk n es) (o : Int) : Pd (wsum es).natAbs 1000 (prob es o) := by
  unfold Bo.prob prE
  cases q : es.find? fun e => decide (e.1 = o) with
  | none => exact .mono (.zero _ 0) (Nat.zero_le _)
  | some e => exact h.pd (List.mem_of_find?_eq_some q)
/-- a row of the equations -/
def rowOf (hp : List Nat) (es : List (Int × Int)) (i : Nat) : List Rat := hp.map fun o => (if o = i then 1 else 0) - prob es (o : Nat)

end
end Bo
/-! ### dict comprehensions -/
namespace Bo
open PySem L2
section
variable {K : PySem.W.Frag} {n : Nat} {C : Ct K n} {σ : L2.St} {H B : Hp} {S : SS}
section
variable {D : Addr} {ob : HO}
end
end
end Bo

/-! ### .get of a dict at the module's head, from texts to numbers -/
namespace Bo
open PySem L2
def kgV : Option Int → V
  | none => .non
  | some i => .int i
def kgD : Option Int → PyData
  | none => .none
  | some i => .int i
def tKGet (f : Str → Option Int) (ty : TE) : TE := fun σ H Q => ty σ H fun y H1 => ∃ z, y = .str z ∧ Q (kgV (f z)) H1
section
variable {X : Cx} {e : Expr} {x : Str} {pos apos cpos : Pos} {ty : TE} {a : Addr} {es : Array DictEntry} {n : Nat} {f : Str → Option Int}
theorem kg_call {pins : List (Addr × Obj)} {σ : L2.St} {H : Hp} {s : Shared} {z : Str} {u : Value} {Q : Value → Shared → Prop} (D : KDict X.K X.w a es n) (hf : ∀ z, ∃ t, PySem.W.nsIn X.K a z = some ((f z).map fun i => Value.int i t)) (I : Inv X pins σ H s) (ry : RelV (.str z) u) (h : ∀ w' s', Inv X pins σ H s' → RelV (kgV (f z)) w' → Q w' s') :
    wpAny (model X.prog X.w) X.A (call (.builtin "dict.get") [.ref a, u]) Q X.xe s := by
  obtain ⟨t, rfl⟩ := ry
  have mo := PySem.W.mapOf_K (prog := X.prog) I.kIn D.at_ D.lit
  refine call_meetsIn PySem.F.slot_dict_get mo.typeIs PySem.F.entry_dict_get (PySem.F.args_dict_get_2 _ _) (meets_dict_get (PySem.strKind X.prog X.w) a (PySem.strKind_is X.prog X.w z t) D.low) ⟨_, mo, h _ _ (I.tok _) ?_⟩
  obtain ⟨t, e⟩ := hf z
  rw [PySem.W.find_K D.at_ e]
  cases f z with
  | none => rfl
  | some i => exact ⟨_, rfl⟩
theorem pe_kget (D : KDict X.K X.w a es n) (hf : ∀ z, ∃ t, PySem.W.nsIn X.K a z = some ((f z).map fun i => Value.int i t)) (ho : PE X (.Name x pos) (tC (.ref a))) (he : PE X e ty) (m : M1 X (.Name x pos) "get" apos e cpos) :
    PE X (.Call (.Attribute (.Name x pos) "get" apos) [e] [] cpos) (tKGet f ty) := by
  refine ⟨fun pins s σ H Q I h => ?_⟩
  refine wpAny_Call_method m.base m.few m.line PySem.F.plainAttrs_dict PySem.F.slot_dict_get PySem.F.type_dict_get (thn (ho.run pins s σ H (fun v H' => v = .ref a ∧ tKGet f ty σ H' Q) I ⟨rfl, h⟩) fun u s1 ⟨y, H1, I1, rx, ey, q1⟩ => ?_)
  subst ey
  obtain rfl : u = Value.ref a := rx
  have mo := PySem.W.mapOf_K (prog := X.prog) I1.kIn D.at_ D.lit
  refine ⟨mo.typeIs, mo.noDict, ?_⟩
  rw [m.trees]
  refine Calls.callWith_builtin rfl (Calls.evalArgs_plain (Calls.spliced_cons (thn (he.run pins s1 σ H1 _ I1 q1) fun iv s2 ⟨y, H2, I2, ry, z, ez, q2⟩ => Calls.spliced_nil ?_)))
  subst ez
  exact kg_call D hf I2 ry fun w' s3 I3 rw' => ⟨_, H2, I3, rw', q2⟩
end
section
variable {K : PySem.W.Frag} {n : Nat} {C : Ct K n} {f : Str → Option Int}
def vKGet (f : Str → Option Int) (fk : VE) : VE := fun S => (fk S).bind fun p => match p.1 with
  | .str x => .ok (kgD (f x), p.2)
  | _ => .bad
theorem kg_da {B : Hp} : ∀ o, Da K B (kgV o) (kgD o)
  | none => .non
  | some i => .int i
theorem s_kget {tk : TE} {fk : VE} (hk : SE C tk fk) : SE C (tKGet f tk) (vKGet f fk) := by
  intro σ H B S Q R h
  refine hk σ H B S _ R ((post_bind.mp h).mono fun p h1 v H1 B1 R1 e1 d1 => ?_)
  obtain ⟨d, S1⟩ := p
  cases d1 <;> first | exact h1.elim | exact ⟨_, rfl, h1 _ H1 B1 R1 e1 (kg_da _)⟩
theorem w_kget {fk : VE} {S : SS} {kE : PyData × SS → Prop} (h : (fk S).okTo fun p => ∃ x, p.1 = .str x ∧ kE (kgD (f x), p.2)) : (vKGet f fk S).okTo kE := by
  unfold vKGet
  refine okTo_bind.mpr (h.mono fun p ⟨x, e, q⟩ => ?_)
  obtain ⟨d, S1⟩ := p
  cases e
  exact okTo_ok.mpr q
end
/-- what a written dict of texts and numbers tells -/
def kgF (l : List (Str × Int)) (z : Str) : Option Int := (l.find? fun e => decide (e.1 = z)).map (·.2)
theorem keys_str {P : Params} : ∀ {es : List DictEntry} {ks : List Str}, es.map He.keyOf = He.keysIn P ks → ∀ e ∈ es, ∃ x t, e.key = .str x t ∧ x ∈ ks
  | [], _, _, e, he => by cases he
  | e :: es, [], h, _, _ => by cases h
  | e :: es, k :: ks, h, d, hd => by
    have h1 : He.keyOf e :: es.map He.keyOf = some (k, PyData.keyHash P k) :: He.keysIn P ks := h
    injection h1 with h2 h3
    rcases List.mem_cons.mp hd with rfl | hd
    · unfold He.keyOf at h2
      split at h2
      · rename_i x t q
        have h4 := Option.some.inj h2
        obtain ⟨h5, h6⟩ := Prod.mk.inj h4
        exact ⟨x, t, q, by rw [h5]; exact List.mem_cons_self⟩
      · cases h2
    · obtain ⟨x, t, a, b⟩ := keys_str h3 d hd
      exact ⟨x, t, a, List.mem_cons_of_mem _ b⟩
theorem kg_of {K : PySem.W.Frag} {w : World} {a : Addr} {l : List (Str × Int)} (hd : He.dicW K a = some (He.keysIn w.params (l.map (·.1)))) (hv : ∀ e ∈ l, ∃ t, PySem.W.nsIn K a e.1 = some (some (.int e.2 t))) : ∀ z, ∃ t, PySem.W.nsIn K a z = some ((kgF l z).map fun i => Value.int i t) := by
  intro z
  obtain ⟨es, n, D⟩ := He.dicW_ok hd
  unfold He.dicW at hd
  rw [D.at_] at hd
  dsimp only at hd
  split at hd
  rotate_left
  · cases hd
  have hm := Option.some.inj hd
  unfold kgF
  cases q : l.find? fun e => decide (e.1 = z) with
  | some e =>
    have e0 : decide (e.1 = z) = true := List.find?_some (p := fun e : Str × Int => decide (e.1 = z)) q
    have e1 := of_decide_eq_true e0
    obtain ⟨t, h⟩ := hv e (List.mem_of_find?_eq_some q)
    have e1 : e.1 = z := e1
    rw [e1] at h
    exact ⟨t, h⟩
  | none =>
    refine ⟨default, ?_⟩
    have no : ∀ e ∈ es.toList, ∃ x t, e.key = .str x t ∧ x ≠ z := fun e he => by
      obtain ⟨x, t, a, b⟩ := keys_str hm e he
      refine ⟨x, t, a, fun w => ?_⟩
      subst w
      obtain ⟨y, hy, e⟩ := List.mem_map.mp b
      have := List.find?_eq_none.mp q y hy
      exact this (decide_eq_true e)
    unfold PySem.W.nsIn
    rw [D.at_]
    dsimp only
    have f1 : es.toList.find? (·.key.isStr z) = none := List.find?_eq_none.mpr fun e he w => by
      obtain ⟨x, t, a, b⟩ := no e he
      rw [a] at w
      exact b (by simpa [Value.isStr] using w)
    have f2 : es.toList.any (·.refKey) = false := List.any_eq_false.mpr fun e he w => by
      obtain ⟨x, t, a, b⟩ := no e he
      unfold DictEntry.refKey at w
      rw [a] at w
      cases w
    rw [f1, f2]
    rfl
theorem pe_kgetT {X : Cx} {e : Expr} {x : Str} {pos apos cpos : Pos} {ty : TE} {a : Addr} {l : List (Str × Int)} (hd : He.dicW X.K a = some (He.keysIn X.w.params (l.map (·.1)))) (hv : ∀ e ∈ l, ∃ t, PySem.W.nsIn X.K a e.1 = some (some (.int e.2 t))) (ho : PE X (.Name x pos) (tC (.ref a))) (he : PE X e ty) (m : M1 X (.Name x pos) "get" apos e cpos) :
    PE X (.Call (.Attribute (.Name x pos) "get" apos) [e] [] cpos) (tKGet (kgF l) ty) :=
  let ⟨_, _, D⟩ := He.dicW_ok hd
  pe_kget D (kg_of hd hv) ho he m
def gRepT : PyData → PyData → R PyData
  | .tuple ds, .int k => R.when (ds ≠ [] ∧ 2 ≤ k ∧ k ≤ 1000 ∧ ds.length ≤ 1000) (.ok (.tuple (List.replicate k.toNat ds).flatten))
  | _, _ => .bad
section
variable {K : PySem.W.Frag} {n : Nat} {C : Ct K n}
theorem o_repT : SR2 C (rRepT K) gRepT := by
  intro σ H B S x y d e Q R h1 h2 h
  cases h1 with
  | tup s a =>
    cases h2 with
    | int i =>
      obtain ⟨⟨k0, k, k2, k3⟩, h⟩ := post_when.mp h
      refine ⟨_, _, _, rfl, rfl, ?_, ?_, k, k2, by rw [daa_len a]; exact k3, fun p hp => ?_⟩
      · exact sm_t R.base.bh s
      · intro e
        subst e
        cases a
        exact k0 rfl
      obtain ⟨B', R1, e1, d1⟩ := R.tup hp (daa_rep a i.toNat)
      exact h _ _ B' R1 e1 d1
    | _ => exact h.elim
  | _ => exact h.elim
end
end Bo

/-! ### x, *ys = a list -/
namespace Bo
open PySem L2
/-- what a list with a first item comes apart into: the item, and a new list of the others -/
theorem apart {X : Cx} {pins : List (Addr × Obj)} {σ : L2.St} {H : Hp} {s : Shared} {a : Addr} {x : V} {xs : List V} {Q : List Value → Shared → Prop} (hc : X.calm = true) (I : Inv X pins σ H s) (hq : SqL X.K H a (x :: xs))
    (h : ∀ b s' u, H b = none → Inv X pins σ (upd H b (.lst xs)) s' → RelV x u → Q [u, .ref b] s') : wpAny (model X.prog X.w) X.A (unpackItems (.ref a) 2 (some 1)) Q X.xe s := by
  obtain ⟨its, rv, pl, hz⟩ := I.list hq
  cases rv with
  | @cons _ u _ us r rr =>
    have il := pl.isList
    have big : (u :: us).toArray.size ≤ sizeLine := by
      have := rr.length
      rw [List.size_toArray]
      rw [List.length_cons] at hz ⊢
      omega
    have one : 1 ≤ (u :: us).toArray.size := by rw [List.size_toArray, List.length_cons]; omega
    have old := il
    obtain ⟨_, ho, _⟩ := old
    have away : a ≠ s.heap.objs.size := Nat.ne_of_lt (Heap.lt_size ho)
    unfold unpackItems notIterableAtAll
    refine wpAny_bind (wpAny_bind (wpAny_specialOf il.typeIs PySem.F.slot_list_iter.lookup (wpAny_pure ?_)))
    rw [if_neg Bool.false_ne_true]
    refine wpAny_bind (wpAny_holding (wpAny_pyIter_list il (wpAny_bind (wpAny_holding (PySem.W.kun_draw away 1 0 _ _ ⟨_, Heap.get?_push_size _ rfl, rfl, rfl⟩ (il.push _) (by omega) fun g it sb => ?_)))))
    have il2 : g.IsList a (u :: us).toArray := (il.push _).extBut sb.extBut away
    have l1 := il2
    obtain ⟨_, hg, _⟩ := l1
    have l2 := it
    obtain ⟨_, hi, _⟩ := l2
    rw [if_neg (show ¬ (((u :: us).toArray.toList.drop 0).take 1).length < 1 by simp)]
    refine wpAny_bind (wpAny_holding (PySem.W.kun_collect (s := { s with heap := g }) (T := "list_iterator") (.inr (.inr (.inl rfl))) (Walks.list (A := X.A.in1) (I.ok.hd hc) s.heap.objs.size a away (u :: us).toArray) (fun j v st => st.1.typeIs) (k := 1) one ⟨it, il2⟩ (Heap.lt_size hi) (Heap.lt_size hg) (fun g2 tk kept => ?_) big))
    have e : ((u :: us).toArray.toList.drop 1) = us := by simp
    rw [e]
    have old : ∀ b o, s.heap.get? b = some o → g2.get? b = some o := fun b o q => by
      have ne : b ≠ s.heap.objs.size := Nat.ne_of_lt (Heap.lt_size q)
      exact kept b o ne (sb.extBut b o ne (Heap.get?_push_of_some _ q))
    have lt : ¬ us.length < 2 - 1 - 1 := by omega
    rw [if_neg lt]
    have I2 : Inv X pins σ H { s with heap := g2, toks := tk } := I.kept old
    have fit : us.length ≤ sizeLine := by
      have := big
      rw [List.size_toArray, List.length_cons] at this
      omega
    refine wpAny_bind (wpAny_newList (wpAny_pure ?_) (by simpa using fit))
    have hn : H g2.objs.size = none := I2.hok.fresh (Nat.le_refl _)
    have fin := h g2.objs.size { s with heap := g2.push { cls := .type "list", data := .seq us.toArray }, toks := tk } u hn (I2.laid (t' := tk) (fun b o q => Heap.get?_push_of_some _ q) (Nat.le_refl _) ⟨by rw [rr.length]; exact fit, us, _, rr, Heap.get?_push_size _ rfl⟩) r
    simpa using fin
def gHdTl (K : PySem.W.Frag) (i j : Nat) : TG := fun v σ H Q => ∃ a x xs, v = V.ref a ∧ SqL K H a (x :: xs) ∧ ∀ b, H b = none → Q ((σ.set i (some x)).set j (some (.ref b))) (upd H b (.lst xs))
theorem pg_hdTl {X : Cx} (K : PySem.W.Frag) (hK : X.K = K) (hc : X.calm = true) {i j : Nat} {x y : Str} {px py sp pos : Pos} {k : Nat} (g1 : PG X (.Name x px) (gName i)) (g2 : PG X (.Name y py) (gName j))
    (ha : assignEach [.Name x px, .Starred (.Name y py) sp] X.env = [(false, assign (.Name x px) X.env), (true, assign (.Name y py) X.env)] := by rfl) : PG X (.Tuple [.Name x px, .Starred (.Name y py) sp] k pos) (gHdTl K i j) := by
  subst hK
  refine ⟨fun pins s σ H v u Q I r hw => ?_⟩
  obtain ⟨a, z, zs, rfl, hq, hw⟩ := hw
  cases r
  rw [PyProof.Rows.assign_Tuple]
  refine wpAny_bind (wpAny_standAt ?_)
  unfold unpack
  rw [ha]
  refine wpAny_bind (wpAny_holding (apart hc I hq fun b s1 w hb I1 r1 => ?_))
  refine PyProof.Rows.assignInOrder_cons (thn (g1.run pins s1 σ _ z w (fun σ' H' => σ' = σ.set i (some z) ∧ H' = upd H b (.lst zs)) I1 r1 ⟨rfl, rfl⟩) fun _ s2 ⟨σ2, H2, I2, e1, e2⟩ => ?_)
  subst e1 e2
  refine PyProof.Rows.assignInOrder_cons (thn (g2.run pins s2 _ _ (.ref b) (.ref b) Q I2 rfl (hw b hb)) fun _ s3 q3 => ?_)
  exact PyProof.Rows.assignInOrder_nil q3
section
variable {K : PySem.W.Frag} {n : Nat} {C : Ct K n}
def vHdTl (i j : Nat) (f : VE) : VS := fun S => (f S).bind fun p => match p.1 with
  | .list (d :: ds) => .ok (.nx ((p.2.set i (some (.dat d))).set j (some (.dat (.list ds)))))
  | _ => .bad
theorem st_hdTl {ta : TE} {fa : VE} {i j : Nat} (hi : n ≤ i) (hj : n ≤ j) (ha : SE C ta fa) : SSt C (tAsg ta (gHdTl K i j)) (vHdTl i j fa) := by
  intro σ H B S D R h
  replace h := post_bind.mp h
  refine ha σ H B S _ R (h.mono fun p h1 v H1 B1 R1 e1 d1 => ?_)
  obtain ⟨d, S1⟩ := p
  cases d1 with
  | @lst a vs ds s da =>
    cases da with
    | nil => exact h1.elim
    | cons dx dr =>
      refine ⟨_, _, _, rfl, SqL.of (R1.base.bh _ _ s), fun b hb => ?_⟩
      obtain ⟨B2, R2, e2, d2⟩ := R1.lst hb dr
      have R3 := (R2.put hi (da_mono e2 dx)).put hj d2
      exact h1 _ _ B2 R3 (e1.trans e2)
  | _ => exact h1.elim
end
end Bo

/-! ### a tuple's first items by name, and the list of the others -/
namespace Bo
open PySem L2
theorem vals_split : ∀ {hs ts : List V} {its : List Value}, Vals (hs ++ ts) its → Vals hs (its.take hs.length) ∧ Vals ts (its.drop hs.length)
  | [], _, _, h => ⟨.nil, h⟩
  | _ :: hs, _, _, .cons r t => ⟨.cons r (vals_split t).1, (vals_split (hs := hs) t).2⟩
theorem apartT {X : Cx} {pins : List (Addr × Obj)} {σ : L2.St} {H : Hp} {s : Shared} {a : Addr} {hs ts : List V} {m : Nat} {Q : List Value → Shared → Prop} (hc : X.calm = true) (I : Inv X pins σ H s) (hq : SqT X.K H a (hs ++ ts)) (hm : hs.length = m)
    (h : ∀ b s' us, H b = none → Inv X pins σ (upd H b (.lst ts)) s' → Vals hs us → Q (us ++ [.ref b]) s') : wpAny (model X.prog X.w) X.A (unpackItems (.ref a) (m + 1) (some m)) Q X.xe s := by
  obtain ⟨its, rv, hl, hz⟩ := I.tuple hq
  have il := rv.length
  rw [List.length_append] at il hz
  have isz : its.toArray.size = its.length := by rw [List.size_toArray]
  have hlt : a ≠ s.heap.objs.size := by obtain ⟨o, ho, _⟩ := hl; exact Nat.ne_of_lt (Heap.lt_size ho)
  have hll : a < s.heap.objs.size := by obtain ⟨o, ho, _⟩ := hl; exact Heap.lt_size ho
  have r1 : Vals hs (its.take m) ∧ Vals ts (its.drop m) := by
    subst hm
    exact vals_split rv
  unfold unpackItems
  refine wpAny_bind ?_
  unfold notIterableAtAll
  refine wpAny_bind (wpAny_specialOf hl.typeIs PySem.F.slot_tuple_iter.lookup ?_)
  refine wpAny_pure ?_
  simp only [Bool.false_eq_true, if_false]
  refine wpAny_bind (wpAny_holding (PyProof.Rows.iter_tuple hl ?_))
  refine wpAny_bind (wpAny_holding (PyProof.Rows.draw_tuple hlt m 0 _ _ ⟨_, Heap.get?_push_size _ rfl, rfl, rfl⟩ (hl.push _) (by omega) fun h₁ hit₁ hs₁ => ?_))
  have hl₁ : PyProof.Rows.IsTup h₁ a its.toArray := (hl.push _).extBut hs₁.extBut hlt
  rw [Nat.zero_add] at hit₁
  have hit₁' := hit₁
  obtain ⟨oi, hoi, _⟩ := hit₁'
  have hl₁' := hl₁
  obtain ⟨ol, hol, _⟩ := hl₁'
  rw [List.drop_zero]
  have hfl : (its.toArray.toList.take m).length = m := by rw [List.length_take, Array.length_toList]; omega
  rw [if_neg (show ¬ ((its.toArray.toList.take m).length < m) by rw [hfl]; omega)]
  refine wpAny_bind (wpAny_holding (PySem.W.kun_collect (s := { s with heap := h₁ }) (T := "tuple_iterator") (.inr (.inr (.inr rfl))) (Walks.tuple (A := X.A.in1) (I.ok.hd hc) s.heap.objs.size a hlt its.toArray) (fun j u st => st.1.typeIs) (k := m) (by omega) ⟨hit₁, hl₁⟩ (Heap.lt_size hoi) (Heap.lt_size hol) (fun h₂ tk hk => ?_) (by omega)))
  have e : its.toArray.toList.drop m = its.drop m := by simp
  have e2 : its.toArray.toList.take m = its.take m := by simp
  rw [e, e2]
  have old : ∀ b o, s.heap.get? b = some o → h₂.get? b = some o := fun b o q => by
    have ne : b ≠ s.heap.objs.size := Nat.ne_of_lt (Heap.lt_size q)
    exact hk b o ne (hs₁.extBut b o ne (Heap.get?_push_of_some _ q))
  show wpAny _ _ (if (its.drop m).length < m + 1 - 1 - m then _ else _) _ _ _
  rw [if_neg (by omega)]
  have I2 : Inv X pins σ H { s with heap := h₂, toks := tk } := I.kept old
  have tl := r1.2.length
  have fit : (its.drop m).length ≤ sizeLine := by omega
  have mid : (its.drop m).length - (m + 1 - 1 - m) = (its.drop m).length := by omega
  rw [mid, List.take_length, List.drop_length]
  refine wpAny_bind (wpAny_newList (wpAny_pure ?_) (by simpa using fit))
  have hn : H h₂.objs.size = none := I2.hok.fresh (Nat.le_refl _)
  have fin := h h₂.objs.size { s with heap := h₂.push { cls := .type "list", data := .seq (its.drop m).toArray }, toks := tk } (its.take m) hn (I2.laid (t' := tk) (fun b o q => Heap.get?_push_of_some _ q) (Nat.le_refl _) ⟨by omega, its.drop m, _, r1.2, Heap.get?_push_size _ rfl⟩) r1.1
  simpa using fin
/-- slots set one after another -/
def setV (σ : L2.St) : List Nat → List V → L2.St
  | i :: is, v :: vs => setV (σ.set i (some v)) is vs
  | _, _ => σ
def gStarT (K : PySem.W.Frag) (is : List Nat) (j : Nat) : TG := fun v σ H Q => ∃ a hs ts, v = V.ref a ∧ SqT K H a (hs ++ ts) ∧ hs.length = is.length ∧ ∀ b, H b = none → Q ((setV σ is hs).set j (some (.ref b))) (upd H b (.lst ts))
inductive Heads (X : Cx) : List Expr → List Nat → Prop
  | nil : Heads X [] []
  | cons {e : Expr} {i : Nat} {es : List Expr} {is : List Nat} (g : PG X e (gName i)) (t : Heads X es is) : Heads X (e :: es) (i :: is)
theorem Heads.len {X : Cx} {es : List Expr} {is : List Nat} (h : Heads X es is) : es.length = is.length := by
  induction h with
  | nil => rfl
  | cons _ _ ih => rw [List.length_cons, List.length_cons, ih]
theorem heads_go {X : Cx} {es : List Expr} {is : List Nat} {j : Nat} {y : Str} {py : Pos} (g2 : PG X (.Name y py) (gName j)) (hd : Heads X es is) : ∀ (pins : List (Addr × Obj)) (s : Shared) (σ : L2.St) (H : Hp) (b : Addr) (hs : List V) (us : List Value) (Q : L2.St → Hp → Prop), Inv X pins σ H s → Vals hs us → hs.length = is.length → Q ((setV σ is hs).set j (some (.ref b))) H →
    wpAny (model X.prog X.w) X.A (assignInOrder (es.map (fun e => assign e X.env) ++ [assign (.Name y py) X.env]) (us ++ [.ref b])) (fun _ s' => ∃ σ' H', Inv X pins σ' H' s' ∧ Q σ' H') X.xe s := by
  induction hd with
  | nil =>
    intro pins s σ H b hs us Q I r l q
    cases r with
    | nil =>
      refine PyProof.Rows.assignInOrder_cons (thn (g2.run pins s _ _ (.ref b) (.ref b) Q I rfl q) fun _ s3 q3 => ?_)
      exact PyProof.Rows.assignInOrder_nil q3
    | cons _ _ => cases l
  | cons g t ih =>
    intro pins s σ H b hs us Q I r l q
    cases r with
    | nil => cases l
    | @cons z w zs ws r rr =>
      refine PyProof.Rows.assignInOrder_cons (thn (g.run pins s σ H z w (fun σ' H' => σ' = σ.set _ (some z) ∧ H' = H) I r ⟨rfl, rfl⟩) fun _ s2 ⟨σ2, H2, I2, e1, e2⟩ => ?_)
      subst e1 e2
      exact ih pins s2 _ _ b zs ws Q I2 rr (by simpa using l) q
theorem pg_starT {X : Cx} (K : PySem.W.Frag) (hK : X.K = K) (hc : X.calm = true) {elts es : List Expr} {is : List Nat} {j : Nat} {y : Str} {py sp pos : Pos} {k : Nat} (hd : Heads X es is) (g2 : PG X (.Name y py) (gName j)) (he : elts = es ++ [.Starred (.Name y py) sp] := by rfl)
    (ha : assignEach (es ++ [.Starred (.Name y py) sp]) X.env = es.map (fun e => (false, assign e X.env)) ++ [(true, assign (.Name y py) X.env)] := by rfl) : PG X (.Tuple elts k pos) (gStarT K is j) := by
  subst he
  subst hK
  refine ⟨fun pins s σ H v u Q I r hw => ?_⟩
  obtain ⟨a, hs, ts, rfl, hq, hl, hw⟩ := hw
  cases r
  rw [PyProof.Rows.assign_Tuple]
  refine wpAny_bind (wpAny_standAt ?_)
  unfold unpack
  rw [ha]
  have e1 : (es.map (fun e => (false, assign e X.env)) ++ [(true, assign (.Name y py) X.env)]).length = es.length + 1 := by simp
  have e2 : (es.map (fun e => (false, assign e X.env)) ++ [(true, assign (.Name y py) X.env)]).findIdx? (·.1) = some es.length := by
    rw [List.findIdx?_append]
    have : (es.map (fun e => (false, assign e X.env))).findIdx? (·.1) = none := by
      rw [List.findIdx?_eq_none_iff]
      intro x hx
      obtain ⟨e, _, rfl⟩ := List.mem_map.mp hx
      rfl
    rw [this]
    simp
  have e3 : (es.map (fun e => (false, assign e X.env)) ++ [(true, assign (.Name y py) X.env)]).map (·.2) = es.map (fun e => assign e X.env) ++ [assign (.Name y py) X.env] := by
    rw [List.map_append, List.map_map]
    rfl
  rw [e1, e2, e3]
  refine wpAny_bind (wpAny_holding (apartT hc I hq (hl.trans hd.len.symm) fun b s1 us hb I1 r1 => ?_))
  exact heads_go g2 hd pins s1 σ _ b hs us Q I1 r1 hl (hw b hb)
section
variable {K : PySem.W.Frag} {n : Nat} {C : Ct K n}
def setD (S : SS) : List Nat → List PyData → SS
  | i :: is, d :: ds => setD (S.set i (some (.dat d))) is ds
  | _, _ => S
def vStarT (is : List Nat) (j : Nat) (f : VE) : VS := fun S => (f S).bind fun p => match p.1 with
  | .tuple ds => R.when (is.length ≤ ds.length) (.ok (.nx ((setD p.2 is (ds.take is.length)).set j (some (.dat (.list (ds.drop is.length)))))))
  | _ => .bad
theorem daa_split {B : Hp} : ∀ {m : Nat} {xs : List V} {ds : List PyData}, DaAll K B xs ds → m ≤ ds.length → ∃ hs ts, xs = hs ++ ts ∧ hs.length = m ∧ DaAll K B hs (ds.take m) ∧ DaAll K B ts (ds.drop m)
  | 0, xs, ds, h, _ => ⟨[], xs, rfl, rfl, .nil, h⟩
  | m + 1, _, _, .nil, l => absurd l (by simp)
  | m + 1, _, _, .cons h t, l => by
    obtain ⟨hs, ts, e, l2, a, b⟩ := daa_split (m := m) t (by simpa using l)
    exact ⟨_ :: hs, ts, by rw [e]; rfl, by rw [List.length_cons, l2], .cons h a, b⟩
theorem rep_setAll {H B : Hp} : ∀ {is : List Nat} {hs : List V} {ds : List PyData} {σ : L2.St} {S : SS}, Rep C σ H B S → (∀ i ∈ is, n ≤ i) → DaAll K B hs ds → Rep C (setV σ is hs) H B (setD S is ds)
  | [], _, _, _, _, R, _, _ => by
    unfold setV setD
    exact R
  | i :: is, _, _, _, _, R, _, .nil => R
  | i :: is, _, _, _, _, R, hi, .cons h t => rep_setAll (is := is) (R.put (hi i List.mem_cons_self) h) (fun x hx => hi x (List.mem_cons_of_mem i hx)) t
theorem st_starT {ta : TE} {fa : VE} {is : List Nat} {j : Nat} (hi : is.all (fun i => decide (n ≤ i)) = true) (hj : n ≤ j) (ha : SE C ta fa) : SSt C (tAsg ta (gStarT K is j)) (vStarT is j fa) := by
  intro σ H B S D R h
  replace h := post_bind.mp h
  refine ha σ H B S _ R (h.mono fun p h1 v H1 B1 R1 e1 d1 => ?_)
  obtain ⟨d, S1⟩ := p
  cases d1 with
  | tup s da =>
    obtain ⟨l, h1⟩ := post_when.mp h1
    obtain ⟨hs, ts, rfl, hl, da1, da2⟩ := daa_split da l
    refine ⟨_, hs, ts, rfl, sm_t R1.base.bh s, hl, fun b hb => ?_⟩
    obtain ⟨B2, R2, e2, d2⟩ := R1.lst hb da2
    have R3 := (rep_setAll R2 (fun i m => of_decide_eq_true (List.all_eq_true.mp hi i m)) (daa_mono e2 da1)).put hj d2
    exact h1 _ _ B2 R3 (e1.trans e2)
  | _ => exact h1.elim
end
theorem w_starT {is : List Nat} {j : Nat} {f : VE} {S : SS} {kS : FL → Prop} (h : (f S).okTo fun p => ∃ ds, p.1 = .tuple ds ∧ is.length ≤ ds.length ∧ kS (.nx ((setD p.2 is (ds.take is.length)).set j (some (.dat (.list (ds.drop is.length))))))) : (vStarT is j f S).okTo kS := by
  unfold vStarT
  refine okTo_bind.mpr (h.mono fun p hp => ?_)
  obtain ⟨a, S1⟩ := p
  obtain ⟨ds, rfl, l, q⟩ := hp
  exact okTo_when.mpr ⟨l, okTo_ok.mpr q⟩
end Bo

/-! ### slots that nobody reads any more are let go; is of bools; new dicts that a def tells -/
namespace Bo
open PySem L2
section
variable {K : PySem.W.Frag} {n : Nat} {C : Ct K n} {σ : L2.St} {H B : Hp} {S : SS}
theorem wipeS_out {i : Nat} : ∀ {vs : List Nat}, i ∉ vs → (wipeS S vs)[i]? = S[i]?
  | [], _ => rfl
  | u :: us, h => by
    unfold wipeS
    rw [List.getElem?_set_ne (fun e => h (by simp [e]))]
    exact wipeS_out fun z => h (List.mem_cons_of_mem _ z)
theorem Rep.killed (R : Rep C σ H B S) {vs : List Nat} (hv : ∀ v ∈ vs, n ≤ v) : Rep C σ H B (wipeS S vs) := by
  refine ⟨R.base, by rw [wipeS_len]; exact R.len, fun i s h => R.slot i s (wipeS_some h).2, fun i j s u a h1 h2 m1 m2 e1 e2 => R.dis i j s u a (wipeS_some h1).2 (wipeS_some h2).2 m1 m2 e1 e2, fun i s a h m e => R.ownf i s a (wipeS_some h).2 m e, fun i a h => ?_⟩
  have hn : i ∉ vs := fun z => by
    have := hv i z
    have := (List.getElem?_eq_some_iff.mp h).1
    have := C.hbx
    omega
  obtain ⟨q1, s, q2, q3⟩ := R.box i a h
  exact ⟨q1, s, by rw [wipeS_out hn]; exact q2, q3⟩
def vPre (vs : List Nat) (f : VS) : VS := fun S => f (wipeS S vs)
def thenF (vs : List Nat) : FL → FL
  | .nx S => .nx (wipeS S vs)
  | f => f
def vThen (vs : List Nat) (f : VS) : VS := fun S => (f S).bind fun fl => .ok (thenF vs fl)
theorem st_pre {t : TS} {f : VS} {vs : List Nat} (hv : vs.all (fun v => decide (n ≤ v)) = true) (h : SSt C t f) : SSt C t (vPre vs f) := by
  intro σ H B S D R q
  exact h σ H B _ D (R.killed fun v m => of_decide_eq_true (List.all_eq_true.mp hv v m)) q
theorem st_then {t : TS} {f : VS} {vs : List Nat} (hv : vs.all (fun v => decide (n ≤ v)) = true) (h : SSt C t f) : SSt C t (vThen vs f) := by
  intro σ H B S D R q
  refine h σ H B S D R ((post_bind.mp q).mono fun fl q => ?_)
  cases fl with
  | nx S1 => exact fun σ' H' B' R1 e1 => q σ' H' B' (R1.killed fun v m => of_decide_eq_true (List.all_eq_true.mp hv v m)) e1
  | rt d S1 => exact q
  | bk S1 => exact q
  | ct S1 => exact q
theorem w_pre {f : VS} {vs : List Nat} {kS : FL → Prop} (h : (f (wipeS S vs)).okTo kS) : (vPre vs f S).okTo kS := h
theorem w_then {f : VS} {vs : List Nat} {kS : FL → Prop} (h : (f S).okTo fun fl => match fl with
    | .nx S1 => kS (.nx (wipeS S1 vs))
    | fl => kS fl) : (vThen vs f S).okTo kS := by
  unfold vThen
  refine okTo_bind.mpr (h.mono fun fl q => ?_)
  cases fl <;> exact q
/-! is of bools -/
def gIsB (neg : Bool) : PyData → PyData → R PyData
  | .bool a, .bool b => .ok (.bool (if neg then !decide (a = b) else decide (a = b)))
  | _, _ => .bad
theorem o_notB : SR2 C (fun x y H Q => ∃ a b, x = .bl a ∧ y = .bl b ∧ Q (.bl (!decide (a = b))) H) (gIsB true) := by
  intro σ H B S x y d e Q R h1 h2 h
  cases h1 <;> cases h2 <;> first | exact h.elim | exact ⟨_, _, rfl, rfl, h _ H B R (Same.refl _) (.bl _)⟩
theorem w_gIsB {neg a b : Bool} {kD : PyData → Prop} (q : kD (.bool (if neg then !decide (a = b) else decide (a = b)))) : (gIsB neg (.bool a) (.bool b)).okTo kD := q
/-! == of bools and ints (True == 1) stays out; == of bools is eqF's -/
/-! a def of the script that tells a new dict -/
abbrev VK2 := SS → R (List (Key × PyData))
def SRK (C : Ct K n) (t : TS) (f : VK2) : Prop := ∀ (σ : L2.St) (H B : Hp) (S : SS) (D : Ends), Rep C σ H B S →
  Post C (f S) (fun kvs => ∀ a ws H' B', Base C H' B' → Same B B' → H' a = some (.dK ws) → B' a = none → C.H0 a = none → DpKs K B' ws kvs → D.rt (.ref a) H') → t D σ H
def vSeqK (fa : VS) (fb : VK2) : VK2 := fun S => (fa S).bind fun fl => match fl with
  | .nx S1 => fb S1
  | _ => .bad
theorem rk_seq {ta tb : TS} {fa : VS} {fb : VK2} (ha : SSt C ta fa) (hb : SRK C tb fb) : SRK C (tSeq ta tb) (vSeqK fa fb) := by
  intro σ H B S D R h
  refine ha σ H B S _ R ((post_bind.mp h).mono fun fl h1 => ?_)
  cases fl with
  | nx S1 => exact fun σ' H' B' R1 e1 => hb σ' H' B' S1 D R1 (Post.mono h1 fun kvs q a ws H2 B2 b2 e2 => q a ws H2 B2 b2 (e1.trans e2))
  | rt d S1 => exact h1.elim
  | bk S1 => exact h1.elim
  | ct S1 => exact h1.elim
/-- a value that needs no step -/
def SPu (C : Ct K n) (t : TE) (f : SS → Option PyData) : Prop := ∀ (σ : L2.St) (H B : Hp) (S : SS) (d : PyData), Rep C σ H B S → f S = some d → ∃ v, Da K B v d ∧ ∀ (H' : Hp) (Q : VK), Q v H' → t σ H' Q
def pVar (i : Nat) : SS → Option PyData := fun S => match S[i]? with
  | some (some (.dat d)) => some d
  | _ => none
theorem pu_var {i : Nat} : SPu C (tVar i) (pVar i) := by
  intro σ H B S d R e
  unfold pVar at e
  split at e
  · rename_i d' q
    cases e
    obtain ⟨v, hv, r⟩ := R.slot i _ q
    exact ⟨v, r, fun H' Q h => ⟨v, hv, h⟩⟩
  · cases e
def pInt (m : Int) : SS → Option PyData := fun _ => some (.int m)
theorem pu_int {m : Int} : SPu C (tC (.int m)) (pInt m) := fun σ H B S d R e => by
  cases e
  exact ⟨_, .int m, fun H' Q h => h⟩
def prsK : List (Str × (SS → Option PyData)) → SS → Option (List (Key × PyData))
  | [], _ => some []
  | (x, f) :: r, S => (f S).bind fun d => (prsK r S).bind fun kvs => some ((.inr x, d) :: kvs)
inductive Prs (C : Ct K n) : List (TE × TE) → List (Str × (SS → Option PyData)) → Prop
  | nil : Prs C [] []
  | cons {x : Str} {t : TE} {f : SS → Option PyData} {ts : List (TE × TE)} {fs : List (Str × (SS → Option PyData))} (h : SPu C t f) (r : Prs C ts fs) : Prs C ((tC (.str x), t) :: ts) ((x, f) :: fs)
theorem prs_run {ts : List (TE × TE)} {fs : List (Str × (SS → Option PyData))} (p : Prs C ts fs) : ∀ {kvs : List (Key × PyData)}, Rep C σ H B S → prsK fs S = some kvs → ∃ ws, DpKs K B ws kvs ∧ ws.length = fs.length ∧ ∀ (H' : Hp) (Q : List (V × V) → Hp → Prop), Q (ws.map fun kv => (kV kv.1, kv.2)) H' → tPairs ts σ H' Q := by
  induction p with
  | nil =>
    intro kvs R e
    cases e
    exact ⟨[], .nil, rfl, fun H' Q h => h⟩
  | @cons x t f ts fs h _ ih =>
    intro kvs R e
    unfold prsK at e
    cases e1 : f S with
    | some d =>
      rw [e1] at e
      cases e2 : prsK fs S with
      | some ks =>
        rw [e2] at e
        cases e
        obtain ⟨v, dv, hv⟩ := h σ H B S d R e1
        obtain ⟨ws, d2, l2, h2⟩ := ih R e2
        refine ⟨(.inr x, v) :: ws, .cons ⟨rfl, dv⟩ d2, by rw [List.length_cons, List.length_cons, l2], fun H' Q q => ?_⟩
        exact hv H' _ (h2 H' _ q)
      | none => rw [e2] at e; cases e
    | none => rw [e1] at e; cases e
def vRetK (fs : List (Str × (SS → Option PyData))) : VK2 := fun S => match prsK fs S with
  | some kvs => .ok (mergeD [] kvs)
  | none => .bad
theorem rk_ret {ts : List (TE × TE)} {fs : List (Str × (SS → Option PyData))} (p : Prs C ts fs) (hl : decide (fs.length ≤ 15) = true) : SRK C (tRet (tDisp ts)) (vRetK fs) := by
  intro σ H B S D R h a ha
  unfold vRetK at h
  split at h
  · rename_i kvs e
    obtain ⟨ws, dw, lw, run⟩ := prs_run p R e
    obtain ⟨h0, hb, nb⟩ := R.new ha
    refine run _ _ ⟨upd_same, ws, rfl, by rw [lw]; exact of_decide_eq_true hl, ?_⟩
    refine h a _ _ B ⟨fun b o nb q => ?_, R.base.b0, fun b o q => ?_, R.base.fr⟩ (Same.refl _) upd_same hb h0 (dpks_merge dw .nil)
    · have := ne_of_none q h0
      rw [upd_ne this, upd_ne this]
      exact R.base.keep b o nb q
    · have := ne_of_none q hb
      rw [upd_ne this, upd_ne this]
      exact R.base.bh b o q
  · exact h.elim
/-- .. as a def -/
def spSN (K : PySem.W.Frag) (den : List Int → R (List (Key × PyData))) : Sp := fun vs H Q _ => ∃ (a : Addr) (ns : List Int) (B : Hp), vs = [.ref a] ∧ SqL K B a (ns.map V.int) ∧ Same B H ∧
  (den ns).okTo fun kvs => ∀ p ws H' B', Same H H' → Same B B' → Same B' H' → Frz H B B' → H p = none → H' p = some (.dK ws) → B' p = none → DpKs K B' ws kvs → Q (.ref p) H'
theorem len_SN {den : List Int → R (List (Key × PyData))} {vs : List V} {Q : VK} {E : XK} (h : spSN K den vs H Q E) : vs.length = 1 := by
  obtain ⟨a, ns, B, rfl, _⟩ := h
  rfl
def denSN (N : Nat) (f : VK2) : List Int → R (List (Key × PyData)) := fun ns => f (some (.scr ns) :: List.replicate (N - 1) none)
theorem run_SN {x : Str} {N : List Str} {f : VK2} {t : TS} {vs : List V} {Q : VK} {E : XK} (s : ∀ C : Ct K 0, SRK C t f) (h : spSN K (denSN (x :: N).length f) vs H Q E) : t { nx := fun _ H' => Q .non H', rt := Q } (L2.start (x :: N) vs) H := by
  obtain ⟨a, ns, B, rfl, sq, bh, h⟩ := h
  have at_ : ∀ (i : Nat) u, (some (SV.scr ns) :: List.replicate ((x :: N).length - 1) none)[i]? = some (some u) → i = 0 ∧ u = .scr ns := fun i u q => by
    cases i with
    | zero => exact ⟨rfl, (Option.some.inj (Option.some.inj (show some (some (SV.scr ns)) = some (some u) from q))).symm⟩
    | succ i =>
      have q' : (List.replicate ((x :: N).length - 1) (none : Option SV))[i]? = some (some u) := q
      rw [List.getElem?_replicate] at q'
      split at q' <;> cases q'
  have R : Rep (ct0 (K := K) H B fun _ _ _ => True) (L2.start (x :: N) [V.ref a]) H B (some (.scr ns) :: List.replicate ((x :: N).length - 1) none) := by
    refine ⟨⟨fun a o _ q => q, Same.refl _, bh, fun a o q => .inl q⟩, ?_, fun i s h => ?_, fun i j s u a h1 h2 m1 m2 e1 e2 => ?_, fun i s a h m e => ?_, fun i a h => nomatch (show (none : Option Addr) = some a from h)⟩
    · unfold L2.start
      simp
    · obtain ⟨rfl, rfl⟩ := at_ i s h
      exact ⟨_, start_get rfl, a, rfl, sq⟩
    · obtain ⟨rfl, rfl⟩ := at_ i s h1
      cases m1
    · obtain ⟨rfl, rfl⟩ := at_ i s h
      cases m
  refine s _ _ H B _ _ R ?_
  unfold denSN at h
  have h2 := post_okTo (C := ct0 (K := K) H B fun _ _ _ => True) h
  exact h2.mono fun kvs q p ws H' B' bs e hp hb h0 dw => q p ws H' B' (fun a o z => bs.keep a o (by simp [ct0]) z) e bs.bh (fun a o z => bs.fr a o z) h0 hp hb dw
def vNewS (i j : Nat) (den : List Int → R (List (Key × PyData))) : VS := fun S => match S[j]? with
  | some (some (.scr ns)) => ((den ns).noErr).bind fun kvs => .ok (.nx (S.set i (some (.dic kvs))))
  | _ => .bad
theorem st_newS {i j : Nat} {den : List Int → R (List (Key × PyData))} {E : XK} (hi : n ≤ i) : SSt C (tAsg (tCall (spSN K den) [] E (tCons (tVar j) tNil)) (gName i)) (vNewS i j den) := by
  intro σ H B S D R h
  unfold vNewS at h
  split at h
  · rename_i ns e
    obtain ⟨v, hv, a, rfl, sq⟩ := R.slot j _ e
    refine ⟨_, hv, ?_⟩
    replace h := post_bind.mp h
    refine ⟨a, ns, B, rfl, sq, R.base.bh, (okTo_of h).mono fun kvs h2 p ws H' B' sH sB bh fz hp hp2 hb dw => ?_⟩
    have R1 := R.after sH sB bh fz
    refine h2 _ H' B' (R1.take hi rfl ⟨p, ws, rfl, hp2, hb, dw⟩ (R.new hp).1 fun k u q m e => ?_) sB
    obtain ⟨a, o, e1, e2, _⟩ := R.own_at q m
    rw [e] at e1
    cases e1
    rw [hp] at e2
    cases e2
  · exact h.elim
theorem w_newS {i j : Nat} {den : List Int → R (List (Key × PyData))} {ns : List Int} {kS : FL → Prop} (h : S[j]? = some (some (.scr ns))) (q : (den ns).okTo fun kvs => kS (.nx (S.set i (some (.dic kvs))))) : (vNewS i j den S).okTo kS := by
  unfold vNewS
  rw [h]
  exact okTo_bind.mpr (okTo_noErr.mpr q)
/-! d[k] -/
def vGetD (i : Nat) (fk : VE) : VE := fun S => (dicD S i).bind fun _ => (fk S).bind fun p => (keyD p.1).bind fun y => (dicD p.2 i).bind fun kvs => match valD kvs y with
  | some d => .ok (d, p.2)
  | none => .bad
theorem s_getD {i : Nat} {tk : TE} {fk : VE} (hk : SE C tk fk) : SE C (tDGet (tVar i) tk) (vGetD i fk) := by
  intro σ H B S Q R h
  obtain ⟨ds0, a0, vs0, q1, q2, q3, q4, h⟩ := dic_of R (post_bind.mp h)
  refine ⟨_, q2, ?_⟩
  replace h := post_bind.mp h
  refine hk σ H B S _ R (h.mono fun p h1 v H1 B1 R1 e1 d1 => ?_)
  obtain ⟨y, rfl, _, h1⟩ := key_of d1 (post_bind.mp h1)
  obtain ⟨kvs, a, ws, p1, p2, p3, p4, h1⟩ := dic_of R1 (post_bind.mp h1)
  rw [q2] at p2
  cases p2
  split at h1
  · rename_i d e
    rcases dpks_val (k := y) p4 with ⟨z1, z2⟩ | ⟨v', d', z1, z2, z3⟩
    · rw [e] at z2
      cases z2
    · rw [e] at z2
      cases z2
      refine ⟨_, v', rfl, ?_, h1 v' H1 B1 R1 e1 z3⟩
      rw [← z1]
      exact DGet.k p3
  · exact h1.elim
theorem w_dic {i : Nat} {kvs : List (Key × PyData)} {k : List (Key × PyData) → Prop} (h : S[i]? = some (some (.dic kvs))) (q : k kvs) : (dicD S i).okTo k := by
  unfold dicD
  rw [h]
  exact q
theorem w_keyS {x : Str} {k : Key → Prop} (q : k (.inr x)) : (keyD (.str x)).okTo k := q
theorem w_keyI {x : Int} {k : Key → Prop} (q : k (.inl x)) : (keyD (.int x)).okTo k := q
theorem w_getD {i : Nat} {fk : VE} {kE : PyData × SS → Prop} (h : (dicD S i).okTo fun _ => (fk S).okTo fun p => (keyD p.1).okTo fun y => (dicD p.2 i).okTo fun kvs => ∃ d, valD kvs y = some d ∧ kE (d, p.2)) : (vGetD i fk S).okTo kE := by
  unfold vGetD
  refine okTo_bind.mpr (h.mono fun _ h => okTo_bind.mpr (h.mono fun p h => okTo_bind.mpr (h.mono fun y h => okTo_bind.mpr (h.mono fun kvs ⟨d, e, q⟩ => ?_))))
  rw [e]
  exact q
theorem w_putD {i : Nat} {fk fe : VE} {kS : FL → Prop} (h : (fe S).okTo fun p => (dicD p.2 i).okTo fun _ => (fk p.2).okTo fun q => (keyD q.1).okTo fun y => (dicD q.2 i).okTo fun kvs => kvs.length < 100000 ∧ kS (.nx (q.2.set i (some (.dic (putD kvs y p.1)))))) : (vPutD i fk fe S).okTo kS := by
  unfold vPutD
  simp only [okTo_bind, okTo_when]
  exact h
theorem w_callD {m i : Nat} {fr : VA} {g : List (Key × PyData) → List PyData → R (PyData × List (Key × PyData))} {kE : PyData × SS → Prop} (h : (dicD S i).okTo fun _ => (fr S).okTo fun p => (dicD p.2 i).okTo fun bs => p.1.length = m ∧ (g bs p.1).okTo fun z => kE (z.1, p.2.set i (some (.dic z.2)))) : (vCallD m g i fr S).okTo kE := by
  unfold vCallD
  simp only [okTo_bind, okTo_when, okTo_noErr]
  exact h
theorem w_denD {N : Nat} {f : VS} {bs : List (Key × PyData)} {ds : List PyData} {k : PyData × List (Key × PyData) → Prop} (h : (f (some (.dic bs) :: startS (N - 1) ds)).okTo fun fl => match fl with
    | .nx S => (dicD S 0).okTo fun b => k (.none, b)
    | .rt d S => (dicD S 0).okTo fun b => k (d, b)
    | _ => False) : (denD N f bs ds).okTo k := by
  unfold denD endD
  refine okTo_bind.mpr (h.mono fun fl q => ?_)
  cases fl <;> first | exact okTo_bind.mpr (q.mono fun b z => z) | exact q.elim
/-! x is None, x a slot's list at times -/
def vIsNO (neg : Bool) (i : Nat) : VE := fun S => match S[i]? with
  | some (some (.dat d)) => .ok (.bool (if neg then !isNone d else isNone d), S)
  | some (some (.own _)) => .ok (.bool neg, S)
  | _ => .bad
theorem w_isNOd {neg : Bool} {i : Nat} {d : PyData} {kE : PyData × SS → Prop} (h : S[i]? = some (some (.dat d))) (q : kE (.bool (if neg then !isNone d else isNone d), S)) : (vIsNO neg i S).okTo kE := by
  unfold vIsNO
  rw [h]
  exact q
theorem w_isNOo {neg : Bool} {i : Nat} {ds : List PyData} {kE : PyData × SS → Prop} (h : S[i]? = some (some (.own ds))) (q : kE (.bool neg, S)) : (vIsNO neg i S).okTo kE := by
  unfold vIsNO
  rw [h]
  exact q
/-! a slot's list is turned round -/
def vRevO (i : Nat) : VE := fun S => (ownD S i).bind fun ds => .ok (.none, S.set i (some (.own ds.reverse)))
theorem w_revO {i : Nat} {ds : List PyData} {kE : PyData × SS → Prop} (h : S[i]? = some (some (.own ds))) (q : kE (.none, S.set i (some (.own ds.reverse)))) : (vRevO i S).okTo kE := by
  unfold vRevO ownD
  rw [h]
  exact q
end
end Bo
namespace Bo
open PySem L2
theorem w_seqK {S : SS} {fa : VS} {fb : VK2} {k : List (Key × PyData) → Prop} (h : (fa S).okTo fun fl => match fl with
    | .nx S1 => (fb S1).okTo k
    | _ => False) : (vSeqK fa fb S).okTo k := by
  unfold vSeqK
  refine okTo_bind.mpr (h.mono fun fl q => ?_)
  cases fl <;> first | exact q | exact q.elim
theorem w_scr {S : SS} {i : Nat} {ns : List Int} {kA : List PyData × SS → Prop} (h : S[i]? = some (some (.scr ns))) (q : kA (ns.map PyData.int, S)) : (vScr i S).okTo kA := by
  unfold vScr
  rw [h]
  exact q
theorem ite_join {c : Prop} [Decidable c] {x y : R FL} {k P : FL → Prop} (h : ∀ fl, P fl → k fl) (h1 : c → x.okTo P) (h2 : ¬ c → y.okTo P) : if c then x.okTo k else y.okTo k := by
  by_cases q : c
  · rw [if_pos q]
    exact (h1 q).mono h
  · rw [if_neg q]
    exact (h2 q).mono h
end Bo

/-! ### defs that tell a new list, which the caller may change; their first argument is a dict or a list that they change -/
namespace Bo
open PySem L2
section
variable {K : PySem.W.Frag} {n : Nat} {C : Ct K n} {σ : L2.St} {H B : Hp} {S : SS}
/-- taken by a slot -/
def vOwnCallD (j : Nat) (m : Nat) (den : List (Key × PyData) → List PyData → R (List PyData × List (Key × PyData))) (i : Nat) (fa : VA) : VS := fun S => (dicD S i).bind fun _ => (fa S).bind fun p => (dicD p.2 i).bind fun bs => R.when (p.1.length = m) (((den bs p.1).noErr).bind fun z => .ok (.nx ((p.2.set i (some (.dic z.2))).set j (some (.own z.1)))))
/-- as a value -/
def vCallDF (m : Nat) (den : List (Key × PyData) → List PyData → R (List PyData × List (Key × PyData))) (i : Nat) (fa : VA) : VE := fun S => (dicD S i).bind fun _ => (fa S).bind fun p => (dicD p.2 i).bind fun bs => R.when (p.1.length = m) (((den bs p.1).noErr).bind fun z => .ok (.list z.1, p.2.set i (some (.dic z.2))))
theorem w_ownCallD {j m i : Nat} {den : List (Key × PyData) → List PyData → R (List PyData × List (Key × PyData))} {fa : VA} {kS : FL → Prop} (h : (dicD S i).okTo fun _ => (fa S).okTo fun p => (dicD p.2 i).okTo fun bs => p.1.length = m ∧ (den bs p.1).okTo fun z => kS (.nx ((p.2.set i (some (.dic z.2))).set j (some (.own z.1))))) : (vOwnCallD j m den i fa S).okTo kS := by
  unfold vOwnCallD
  simp only [okTo_bind, okTo_when, okTo_noErr]
  exact h
theorem w_callDF {m i : Nat} {den : List (Key × PyData) → List PyData → R (List PyData × List (Key × PyData))} {fa : VA} {kE : PyData × SS → Prop} (h : (dicD S i).okTo fun _ => (fa S).okTo fun p => (dicD p.2 i).okTo fun bs => p.1.length = m ∧ (den bs p.1).okTo fun z => kE (.list z.1, p.2.set i (some (.dic z.2)))) : (vCallDF m den i fa S).okTo kE := by
  unfold vCallDF
  simp only [okTo_bind, okTo_when, okTo_noErr]
  exact h
end
end Bo

namespace Bo
open PySem L2
noncomputable section
def body_b_draws : VS :=
    (vSeq (vAsg (vVar 0) (aName 3))
    (vSeq (vIfS (vTst (vOp (gIB fun i j => decide (i < j)) (vVar 3) (vC (.int 0)))) (vAsg (vOp (gI fun i j => i - j) (vC (.int 0)) (vVar 3)) (aName 3)) vNext)
    (vSeq (vOwn 4 (vLstF vNil))
    (vSeq (vThen [5] (vIfS (vTst (vOp (gIB fun i j => decide (j ≤ i)) (vVar 3) (vOp (gIC cPow fun i j => i ^ j.toNat) (vC (.int 10)) (vC (.int 18))))) (vSeq (vThen [3, 5] (vFor (vRange1 (vCons (vVar 2) vNil)) (aName 5) (vThen [5] (vSeq (vDrop (vApp 4 (vOp (gIC cMod Int.fmod) (vCall gInt (vCons (vVar 3) vNil)) (vVar 1))))
    (vAsg (vOp (gIC cFdiv Int.fdiv) (vVar 3) (vVar 1)) (aName 3))))))
    (vFrz 4 (vRet (vVar 4)))) vNext))
    (vSeq (vThen [5, 6] (vFor (vRange1 (vCons (vVar 2) vNil)) (aName 5) (vThen [5, 6] (vSeq (vAsg (vOp (gIC cMod Int.fmod) (vCall gInt (vCons (vOp (gIC cMulS fun i j => i * j) (vOp (gI fun i j => i + j) (vOp (gI fun i j => i + j) (vVar 3) (vOp (gIC cMulS fun i j => i * j) (vC (.int 7)) (vVar 5))) (vC (.int 1))) (vC (.int 48271))) vNil)) (vC (.int 2147483647))) (aName 6))
    (vSeq (vAsg (vOp (gIC cMod Int.fmod) (vCall gInt (vCons (vOp (gI fun i j => i + j) (vOp (gIC cMulS fun i j => i * j) (vVar 6) (vC (.int 69621))) (vOp (gIC cMulS fun i j => i * j) (vC (.int 31)) (vVar 5))) vNil)) (vC (.int 2147483629))) (aName 6))
    (vDrop (vApp 4 (vOp (gIC cMod Int.fmod) (vCall gInt (vCons (vOp (gIC cFdiv Int.fdiv) (vVar 6) (vC (.int 7))) vNil)) (vVar 1)))))))))
    (vFrz 4 (vRet (vVar 4))))))))
def den_b_draws := denP 7 body_b_draws
def body_b_box : VK2 :=
    (vSeqK (vAsg (vLst vNil) (aName 1))
    (vSeqK (vThen [2] (vFor (vScr 0) (aName 2) (vThen [2] (vAsg (vOp gCat (vVar 1) (vCallP 3 den_b_draws (vCons (vVar 2) (vCons (vC (.int 1000003)) (vCons (vC (.int 6)) vNil))))) (aName 1)))))
    (vSeqK (vIfS (vTst (vOp gEq (vCall gLen (vCons (vVar 1) vNil)) (vC (.int 0)))) (vAsg (vLst (vCons (vC (.int 11)) (vCons (vC (.int 5)) (vCons (vC (.int 2)) (vCons (vC (.int 7)) (vCons (vC (.int 31)) (vCons (vC (.int 101)) (vCons (vC (.int 997)) vNil)))))))) (aName 1)) vNext)
    (vRetK [("row", pVar 1), ("at", pInt 0)]))))
def den_b_box := denSN 3 body_b_box
def body_b_next : VS :=
    (vSeq (vAsg (vGetD 0 (vC (.str "at"))) (aName 2))
    (vSeq (vPutD 0 (vC (.str "at")) (vOp (gI fun i j => i + j) (vVar 2) (vC (.int 1))))
    (vSeq (vAsg (vOp gIxL (vGetD 0 (vC (.str "row"))) (vOp (gIC cMod Int.fmod) (vVar 2) (vCall gLen (vCons (vGetD 0 (vC (.str "row"))) vNil)))) (aName 3))
    (vRet (vOp (gIC cMod Int.fmod) (vCall gInt (vCons (vOp (gI fun i j => i + j) (vVar 3) (vOp (gIC cMulS fun i j => i * j) (vC (.int 7919)) (vOp (gIC cFdiv Int.fdiv) (vVar 2) (vCall gLen (vCons (vGetD 0 (vC (.str "row"))) vNil))))) vNil)) (vVar 1))))))
def den_b_next := denD 4 body_b_next
def body_b_endsN (m : Int) : VS :=
    (vSeq (vOwn 2 (vLstF vNil))
    (vSeq (vThen [3] (vFor (vRange1 (vCons (vVar 1) vNil)) (aName 3) (vThen [3] (vIfS (tAndF (vTst (vOp (gIB fun i j => decide (i < j)) (vLenO 2) (vC (.int m)))) (vTst (vOp gEq (vCallD 1 den_b_next 0 (vCons (vC (.int 2)) vNil)) (vC (.int 0))))) (vDrop (vApp 2 (vTup (vCons (vVar 3) (vCons (vOp (gI fun i j => i + j) (vC (.int 1)) (vCallD 1 den_b_next 0 (vCons (vC (.int 3)) vNil))) vNil))))) vNext))))
    (vSeq (vIfS (vTst (vOp gEq (vLenO 2) (vC (.int 0)))) (vOwn 2 (vLstF (vCons (vTup (vCons (vCallD 1 den_b_next 0 (vCons (vVar 1) vNil)) (vCons (vC (.int 1)) vNil))) vNil))) vNext)
    (vRet (vTupleO 2)))))
def den_b_endsN (m : Int) := denD 4 (body_b_endsN m)
def body_b_systemN (m : Int) : VS :=
    (vSeq (vOwn 4 (vLstF vNil))
    (vSeq (vThen [5, 6, 7] (vFor (vRange1 (vCons (vVar 1) vNil)) (aName 5) (vThen [5, 6] (vSeq (vOwn 6 (vLstF vNil))
    (vSeq (vPre [5, 7] (vThen [7] (vFor (vRange1 (vCons (vOp (gI fun i j => i + j) (vC (.int 1)) (vCallD 1 den_b_next 0 (vCons (vVar 2) vNil))) vNil)) (aName 7) (vThen [7] (vDrop (vApp 6 (vTup (vCons (vCallD 1 den_b_next 0 (vCons (vVar 3) vNil)) (vCons (vCallD 1 (den_b_endsN m) 0 (vCons (vVar 1) vNil)) vNil)))))))))
    (vDrop (vApp 4 (vTupleO 6))))))))
    (vRet (vTupleO 4))))
def den_b_systemN (m : Int) := denD 8 (body_b_systemN m)
end
end Bo

namespace Bo
open PySem L2
local macro_rules | `(tactic| walk_at "wv1") => `(tactic| (first
  | ((with_reducible refine w_var (d := ?wd) ?wh ?wq); (case wh => exact rfl))
  | with_reducible refine w_cons ?_
  | with_reducible refine w_nil ?_
  | with_reducible refine w_op ?_
  | with_reducible refine w_c ?_
  | with_reducible refine w_aName ?_
  | with_reducible refine w_seq ?_
  | with_reducible refine w_asg ?_
  | with_reducible refine w_toB ?_
  | with_reducible refine w_callP ?_
  | with_reducible refine w_tst ?_
  | with_reducible refine w_then ?_
  | with_reducible refine w_gIxT ?_
  | with_reducible refine w_call ?_
  | with_reducible refine w_ret ?_
  | with_reducible refine w_ifS ?_
  | with_reducible refine w_next ?_
  | ((with_reducible refine w_own (ds := ?wd) ?wh ?wq); (case wh => exact rfl))
  | with_reducible refine w_for ?_
  | with_reducible refine w_fr ?_
  | with_reducible refine w_lc ?_
  | with_reducible refine w_tup ?_
  | with_reducible refine w_iter ?_
  | with_reducible refine w_itFT ?_
  | with_reducible refine w_aCons ?_
  | with_reducible refine w_gIxL ?_
  | with_reducible refine w_tnot ?_
  | with_reducible refine w_pre ?_
  | ((with_reducible refine w_dic (kvs := ?wd) ?wh ?wq); (case wh => exact rfl))
  | with_reducible refine w_tor ?_
  | with_reducible refine w_range1 ?_
  | with_reducible refine w_yes ?_
  | with_reducible refine w_itTT ?_
  | with_reducible refine w_iterT ?_
  | with_reducible refine w_lst ?_
  | with_reducible refine w_toI ?_
  | with_reducible refine w_ownS ?_
  | with_reducible refine w_aTup rfl ?_
  | with_reducible refine w_aNil ?_
  | ((with_reducible refine w_frz (ds := ?wd) ?wh ?wq); (case wh => exact rfl))
  | with_reducible refine w_itT ?_
  | with_reducible refine w_callD ?_
  | with_reducible refine w_tand ?_
  | with_reducible refine w_gEqI ?_
  | with_reducible refine w_gNeI ?_
  | with_reducible refine w_gLenT ?_
  | with_reducible refine w_lstF ?_
  | with_reducible refine w_callB ?_
  | with_reducible refine w_app ?_
  | with_reducible refine w_setI ?_
  | with_reducible refine w_drop ?_
  | with_reducible refine w_gIB ?_
  | with_reducible refine w_gBools ?_
  | with_reducible refine w_and ?_
  | with_reducible refine w_isN ?_
  | with_reducible refine w_or ?_
  | with_reducible refine w_ixO ?_
  | with_reducible refine w_gI ?_
  | with_reducible refine w_gLenL ?_
  | with_reducible refine w_gTuple ?_
  | with_reducible refine w_gInts ?_
  | ((with_reducible refine w_newS (ns := ?wd) ?wh ?wq); (case wh => exact rfl))
  | with_reducible refine w_un ?_
  | with_reducible refine w_if ?_
  | with_reducible refine w_chain ?_
  | ((with_reducible refine w_callS (ns := ?wd) ?wh ?wq); (case wh => exact rfl))
  | with_reducible refine w_sl ?_
  | with_reducible refine w_noPart ?_
  | with_reducible refine w_part ?_
  | with_reducible refine w_listRg ?_
  | with_reducible refine w_enumK ?_
  | with_reducible refine w_repF ?_
  | with_reducible refine w_gIC ?_
  | with_reducible refine w_gCat ?_
  | with_reducible refine w_gCatT ?_
  | with_reducible refine w_notN ?_
  | with_reducible refine w_listF ?_
  | with_reducible refine w_neg ?_
  | with_reducible refine w_gIsB ?_
  | with_reducible refine w_not ?_
  | with_reducible refine w_tru ?_
  | with_reducible refine w_callL ?_
  | with_reducible refine w_consO ?_
  | with_reducible refine w_lenO ?_
  | with_reducible refine w_tupleO ?_
  | with_reducible refine w_listO ?_
  | with_reducible refine w_inO ?_
  | with_reducible refine w_truO ?_
  | with_reducible refine w_zipK ?_
  | with_reducible refine w_retN ?_
  | ((with_reducible refine w_aug (a := ?wd) ?wh ?wq); (case wh => exact rfl))
  | with_reducible refine w_gInL ?_
  | with_reducible refine w_gIntI ?_
  | with_reducible refine w_gRevL ?_
  | with_reducible refine w_gSlL ?_
  | with_reducible refine w_gSlT ?_
  | with_reducible refine w_itF ?_
  | with_reducible refine w_gList ?_
  | with_reducible refine w_gSortI ?_
  | with_reducible refine w_range2 ?_
  | ((with_reducible refine w_lcO (ds := ?wd) ?wh ?wq ?wr); (case wh => exact rfl); (case wq => exact rfl))
  | with_reducible refine w_aUnl rfl ?_
  | with_reducible refine w_brk ?_
  | with_reducible refine w_cnt ?_
  | with_reducible refine w_gIntB ?_
  | with_reducible refine w_getD ?_
  | with_reducible refine w_keyS ?_
  | with_reducible refine w_keyI ?_
  | with_reducible refine w_putD ?_
  | with_reducible refine w_ownCallD ?_
  | with_reducible refine w_callDF ?_
  | with_reducible refine w_gIxQL ?_
  | with_reducible refine w_gIxQT ?_
  | ((with_reducible refine w_revO (ds := ?wd) ?wh ?wq); (case wh => exact rfl))
  | ((with_reducible refine w_isNOd (d := ?wd) ?wh ?wq); (case wh => exact rfl))
  | ((with_reducible refine w_isNOo (ds := ?wd) ?wh ?wq); (case wh => exact rfl))
  | simp only [wipeS, backS, List.set_cons_zero, List.set_cons_succ, List.getElem?_cons_zero, List.getElem?_cons_succ, Option.join_some, Option.join_none, Bool.not_true, Bool.not_false]))
local macro_rules | `(tactic| walk_at "wv") => `(tactic| ((repeat (walk_at "wv1"; try dsimp only)); try simp only [List.set_cons_zero, List.set_cons_succ]))
local macro_rules | `(tactic| walk_at "st") => `(tactic| simp only [startS, List.map_cons, List.map_nil, List.length_cons, List.length_nil, Nat.reduceAdd, Nat.reduceSub, List.replicate_succ, List.replicate_zero, List.cons_append, List.nil_append])

section
/-! ### draws out of a box -/
open PySem L2
def boxK (row : List Int) (a : Int) : List (Key × PyData) := [(.inr "row", dL row), (.inr "at", .int a)]
/-- a box from which at most N numbers were drawn -/
def BoxK (N : Int) (kvs : List (Key × PyData)) : Prop := ∃ row a, kvs = boxK row a ∧ 0 ≤ a ∧ a ≤ N ∧ row ≠ [] ∧ row.length ≤ 1000 ∧ ∀ x ∈ row, 0 ≤ x ∧ x < 1000003
theorem BoxK.up {N M : Int} {kvs : List (Key × PyData)} (h : BoxK N kvs) (l : N ≤ M) : BoxK M kvs := by
  obtain ⟨row, a, e, h0, h1, h2⟩ := h
  exact ⟨row, a, e, h0, by omega, h2⟩
theorem app_int (l : List Int) (x : Int) : (l ++ [x]).map PyData.int = l.map PyData.int ++ [PyData.int x] := by rw [List.map_append]; rfl
theorem b_draws_ok {z : Int} {k : PyData → Prop} (h : ∀ row : List Int, row.length = 6 → (∀ x ∈ row, 0 ≤ x ∧ x < 1000003) → k (dL row)) : (den_b_draws [.int z, .int 1000003, .int 6]).okTo k := by
  have c1 : ∀ i j : Int, j ≠ 0 → cMod i j = true := fun i j a => cMod_ok a
  have c2 : ∀ i j : Int, j ≠ 0 → j.natAbs < 2 ^ 64 → cFdiv i j = true := fun i j a b => cFdiv_ok a b
  unfold den_b_draws body_b_draws
  generalize cMod = cm at c1 ⊢
  generalize cFdiv = cf at c2 ⊢
  refine w_denP ?_
  walk_at "st"
  walk_at "wv"
  refine ite_join (P := fun fl => ∃ m : Int, fl = .nx [some (.dat (.int z)), some (.dat (.int 1000003)), some (.dat (.int 6)), some (.dat (.int m)), none, none, none]) ?_ (fun _ => ?_) (fun _ => ?_)
  · rintro fl ⟨m, rfl⟩
    walk_at "wv"
    refine ⟨by simp, ?_⟩
    walk_at "wv"
    refine ⟨by decide, ?_⟩
    walk_at "wv"
    have rng : ∀ (l : List Int) (x : Int), (∀ y ∈ l, 0 ≤ y ∧ y < 1000003) → ∀ y ∈ l ++ [x.fmod 1000003], 0 ≤ y ∧ y < 1000003 := fun l x hl y hy => by
      rcases List.mem_append.mp hy with q | q
      · exact hl y q
      · rw [List.mem_singleton.mp q]
        exact modN (by decide)
    by_cases c : (10 : Int) ^ (18 : Int).toNat ≤ m
    · rw [if_pos (decide_eq_true c)]
      walk_at "wv"
      refine ⟨_, rfl, by decide, ?_⟩
      refine loop_ok (fun i S => ∃ (m : Int) (row : List Int), S = [some (.dat (.int z)), some (.dat (.int 1000003)), some (.dat (.int 6)), some (.dat (.int m)), some (.own (row.map PyData.int)), none, none] ∧ row.length = i ∧ ∀ x ∈ row, 0 ≤ x ∧ x < 1000003) ?_ ?_ ⟨m, [], rfl, rfl, by simp⟩
      · rintro i d S hi ⟨m, row, rfl, rl, rb⟩
        obtain ⟨i6, rfl⟩ := rangeD_get hi
        have i6 : row.length < 6 := by rw [rl]; exact i6
        walk_at "wv"
        refine ⟨c1 _ _ (by decide), ?_⟩
        walk_at "wv"
        refine ⟨by rw [List.length_map]; omega, ?_⟩
        walk_at "wv"
        refine ⟨c2 _ _ (by decide) (by decide), ?_⟩
        walk_at "wv"
        exact ⟨_, row ++ [m.fmod 1000003], by rw [app_int], by rw [List.length_append, List.length_singleton, rl], rng _ _ rb⟩
      · rintro S ⟨m, row, rfl, rl, rb⟩
        rw [rangeD_len] at rl
        walk_at "wv"
        exact h row rl rb
    · rw [if_neg (by simpa using c)]
      walk_at "wv"
      refine ⟨_, rfl, by decide, ?_⟩
      refine loop_ok (fun i S => ∃ (row : List Int), S = [some (.dat (.int z)), some (.dat (.int 1000003)), some (.dat (.int 6)), some (.dat (.int m)), some (.own (row.map PyData.int)), none, none] ∧ row.length = i ∧ ∀ x ∈ row, 0 ≤ x ∧ x < 1000003) ?_ ?_ ⟨[], rfl, rfl, by simp⟩
      · rintro i d S hi ⟨row, rfl, rl, rb⟩
        obtain ⟨i6, rfl⟩ := rangeD_get hi
        have i6 : row.length < 6 := by rw [rl]; exact i6
        walk_at "wv"
        refine ⟨cMulS_l (by decide), ?_⟩
        walk_at "wv"
        refine ⟨cMulS_r (by decide), ?_⟩
        walk_at "wv"
        refine ⟨c1 _ _ (by decide), ?_⟩
        walk_at "wv"
        refine ⟨cMulS_r (by decide), ?_⟩
        walk_at "wv"
        refine ⟨cMulS_l (by decide), ?_⟩
        walk_at "wv"
        refine ⟨c1 _ _ (by decide), ?_⟩
        walk_at "wv"
        refine ⟨c2 _ _ (by decide) (by decide), ?_⟩
        walk_at "wv"
        refine ⟨c1 _ _ (by decide), ?_⟩
        walk_at "wv"
        refine ⟨by rw [List.length_map]; omega, ?_⟩
        exact ⟨row ++ [_], by rw [app_int], by rw [List.length_append, List.length_singleton, rl], rng _ _ rb⟩
      · rintro S ⟨row, rfl, rl, rb⟩
        rw [rangeD_len] at rl
        walk_at "wv"
        exact h row rl rb
  · walk_at "wv"
    exact ⟨_, rfl⟩
  · exact ⟨_, rfl⟩
theorem b_box_ok {ns : List Int} {k : List (Key × PyData) → Prop} (hn : ns.length ≤ 63) (h : ∀ kvs, BoxK 0 kvs → k kvs) : (den_b_box ns).okTo k := by
  unfold den_b_box body_b_box denSN
  refine w_seqK ?_
  simp only [List.replicate_succ, List.replicate_zero]
  walk_at "wv"
  refine ⟨by simp, ?_⟩
  walk_at "wv"
  refine w_seqK ?_
  walk_at "wv"
  refine w_scr rfl ?_
  refine loop_ok (fun i S => ∃ row : List Int, S = [some (.scr ns), some (.dat (dL row)), none] ∧ row.length ≤ 6 * i ∧ ∀ x ∈ row, 0 ≤ x ∧ x < 1000003) ?_ ?_ ⟨[], rfl, by simp, by simp⟩
  · rintro i d S hi ⟨row, rfl, rl, rb⟩
    rw [List.getElem?_map] at hi
    obtain ⟨z, hz, rfl⟩ := Option.map_eq_some_iff.mp hi
    have hi63 := (List.getElem?_eq_some_iff.mp hz).1
    walk_at "wv"
    refine ⟨rfl, b_draws_ok fun r6 l6 b6 => ?_⟩
    unfold dL
    walk_at "wv"
    refine ⟨by rw [List.length_map, List.length_map]; omega, ?_⟩
    walk_at "wv"
    refine ⟨row ++ r6, by rw [List.map_append], by rw [List.length_append]; omega, fun x hx => ?_⟩
    rcases List.mem_append.mp hx with q | q
    · exact rb x q
    · exact b6 x q
  · rintro S ⟨row, rfl, rl, rb⟩
    rw [List.length_map] at rl
    walk_at "wv"
    refine w_seqK ?_
    walk_at "wv"
    refine okTo_eq (a := .int (row.length : Nat)) (by show R.ok (PyData.int ((row.map PyData.int).length : Nat)) = _; rw [List.length_map]) ?_
    walk_at "wv"
    have fin : ∀ row : List Int, row ≠ [] → row.length ≤ 1000 → (∀ x ∈ row, 0 ≤ x ∧ x < 1000003) → (vRetK [("row", pVar 1), ("at", pInt 0)] [some (.scr ns), some (.dat (dL row)), none]).okTo k := fun row ne rl rb => h _ ⟨row, 0, rfl, by decide, by decide, ne, rl, rb⟩
    by_cases c : (row.length : Int) = 0
    · rw [if_pos (decide_eq_true c)]
      walk_at "wv"
      refine ⟨by simp, ?_⟩
      walk_at "wv"
      exact fin [11, 5, 2, 7, 31, 101, 997] (by decide) (by decide) (by decide)
    · rw [if_neg (by simpa using c)]
      walk_at "wv"
      exact fin row (fun e => c (by rw [e]; rfl)) (by omega) rb
theorem gRow {row : List Int} : gLen [dL row] = .ok (.int (row.length : Nat)) := by show R.ok (PyData.int ((row.map PyData.int).length : Nat)) = _; rw [List.length_map]
theorem b_next_ok {N m : Int} {kvs : List (Key × PyData)} {k : PyData × List (Key × PyData) → Prop} (b : BoxK N kvs) (hm : 0 < m) (h : ∀ (r : Int) kvs', 0 ≤ r → r < m → BoxK (N + 1) kvs' → k (.int r, kvs')) : (den_b_next kvs [.int m]).okTo k := by
  obtain ⟨row, a, rfl, a0, a1, ne, rl, rb⟩ := b
  have lp := List.length_pos_iff.mpr ne
  unfold den_b_next body_b_next boxK
  refine w_denD ?_
  walk_at "st"
  walk_at "wv"
  refine ⟨_, rfl, ?_⟩
  walk_at "wv"
  refine ⟨by simp, ?_⟩
  have e : putD [((.inr "row" : Key), dL row), (.inr "at", .int a)] (.inr "at") (.int (a + 1)) = [(.inr "row", dL row), (.inr "at", .int (a + 1))] := by
    have ne : Str.ofString "row" ≠ Str.ofString "at" := by decide
    simp [putD, ne]
  rw [e]
  walk_at "wv"
  refine ⟨_, rfl, ?_⟩
  walk_at "wv"
  refine ⟨_, rfl, ?_⟩
  walk_at "wv"
  refine okTo_eq gRow ?_
  walk_at "wv"
  have l0 : (row.length : Int) ≠ 0 := by omega
  refine ⟨cMod_ok l0, ?_⟩
  obtain ⟨z, hz, ez⟩ := ixD_int (ts := row) (i := a.fmod (row.length : Int)) (modN (by omega)).1 (modN (by omega)).2
  unfold dL
  walk_at "wv"
  rw [ez]
  refine okTo_ok.mpr ?_
  walk_at "wv"
  refine ⟨_, rfl, ?_⟩
  walk_at "wv"
  rw [List.length_map]
  refine ⟨cFdiv_ok l0 (by omega), ?_⟩
  walk_at "wv"
  refine ⟨cMulS_l (by decide), ?_⟩
  walk_at "wv"
  refine ⟨cMod_ok (by omega), ?_⟩
  walk_at "wv"
  exact h _ _ (modN hm).1 (modN hm).2 ⟨row, a + 1, rfl, by omega, by omega, ne, rl, rb⟩

end
end Bo
/-! ### means, better ones: the worth of the program's defs, as gen2 reads them -/
namespace Bo
open PySem L2
noncomputable section
def body_mean : VS :=
    (vSeq (vAsg (vOp gIxT (vOp gIxT (vVar 0) (vVar 1)) (vVar 2)) (aTup 2 (aCons (aName 6) (aCons (aName 7) aNil))))
    (vSeq (vAsg (vC (.int 1)) (aName 4))
    (vSeq (vFor (vIterT (vVar 7)) (aTup 2 (aCons (aName 8) (aCons (aName 6) aNil))) (vAsg (vCall gLcm (vCons (vVar 4) (vCons (vOp gIxT (vOp gIxQ (vVar 3) (vVar 8)) (vC (.int 1))) vNil))) (aName 4)))
    (vSeq (vAsg (vC (.int 0)) (aName 5))
    (vSeq (vFor (vIterT (vVar 7)) (aTup 2 (aCons (aName 8) (aCons (aName 9) aNil))) (vSeq (vAsg (vOp gIxQ (vVar 3) (vVar 8)) (aTup 2 (aCons (aName 10) (aCons (aName 11) aNil))))
    (vAug 5 (fun i j => i + j) (vOp (gIC cMul fun i j => i * j) (vOp (gIC cMul fun i j => i * j) (vVar 9) (vVar 10)) (vOp (gIC cFdiv Int.fdiv) (vVar 4) (vVar 11))))))
    (vRet (vCallP 2 den_ratio (vCons (vVar 5) (vCons (vOp (gIC cMul fun i j => i * j) (vVar 4) (vCall (gInts fun ns => .int ns.sum) (vCons (vFr (vLc [6, 9] (vIterT (vVar 7)) (aTup 2 (aCons (aName 6) (aCons (aName 9) aNil))) vYes (vVar 9))) vNil))) vNil)))))))))
def den_mean := denP 12 body_mean
end
end Bo

namespace Bo
open PySem L2
noncomputable section
end
end Bo

namespace Bo
open PySem L2
local macro_rules | `(tactic| walk_at "wv1") => `(tactic| (first
  | ((with_reducible refine w_var (d := ?wd) ?wh ?wq); (case wh => exact rfl))
  | with_reducible refine w_cons ?_
  | with_reducible refine w_nil ?_
  | with_reducible refine w_op ?_
  | with_reducible refine w_c ?_
  | with_reducible refine w_aName ?_
  | with_reducible refine w_seq ?_
  | with_reducible refine w_asg ?_
  | with_reducible refine w_toB ?_
  | with_reducible refine w_callP ?_
  | with_reducible refine w_tst ?_
  | with_reducible refine w_gIxT ?_
  | with_reducible refine w_call ?_
  | with_reducible refine w_ret ?_
  | with_reducible refine w_ifS ?_
  | with_reducible refine w_next ?_
  | ((with_reducible refine w_own (ds := ?wd) ?wh ?wq); (case wh => exact rfl))
  | with_reducible refine w_for ?_
  | with_reducible refine w_fr ?_
  | with_reducible refine w_lc ?_
  | with_reducible refine w_tup ?_
  | with_reducible refine w_iter ?_
  | with_reducible refine w_itFT ?_
  | with_reducible refine w_aCons ?_
  | with_reducible refine w_gIxL ?_
  | with_reducible refine w_tnot ?_
  | with_reducible refine w_tor ?_
  | with_reducible refine w_range1 ?_
  | with_reducible refine w_yes ?_
  | with_reducible refine w_itTT ?_
  | with_reducible refine w_iterT ?_
  | with_reducible refine w_lst ?_
  | with_reducible refine w_toI ?_
  | with_reducible refine w_ownS ?_
  | with_reducible refine w_aTup rfl ?_
  | with_reducible refine w_aNil ?_
  | ((with_reducible refine w_frz (ds := ?wd) ?wh ?wq); (case wh => exact rfl))
  | with_reducible refine w_itT ?_
  | with_reducible refine w_tand ?_
  | with_reducible refine w_gEqI ?_
  | with_reducible refine w_gNeI ?_
  | with_reducible refine w_gLenT ?_
  | with_reducible refine w_lstF ?_
  | with_reducible refine w_callB ?_
  | with_reducible refine w_app ?_
  | with_reducible refine w_setI ?_
  | with_reducible refine w_gNeD ?_
  | with_reducible refine w_gEqD ?_
  | with_reducible refine w_drop ?_
  | with_reducible refine w_gIB ?_
  | with_reducible refine w_gBools ?_
  | with_reducible refine w_and ?_
  | with_reducible refine w_isN ?_
  | with_reducible refine w_or ?_
  | with_reducible refine w_ixO ?_
  | with_reducible refine w_gI ?_
  | with_reducible refine w_gLenL ?_
  | with_reducible refine w_gTuple ?_
  | with_reducible refine w_gInts ?_
  | with_reducible refine w_un ?_
  | with_reducible refine w_if ?_
  | with_reducible refine w_chain ?_
  | ((with_reducible refine w_callS (ns := ?wd) ?wh ?wq); (case wh => exact rfl))
  | with_reducible refine w_sl ?_
  | with_reducible refine w_noPart ?_
  | with_reducible refine w_part ?_
  | with_reducible refine w_listRg ?_
  | with_reducible refine w_enumK ?_
  | with_reducible refine w_repF ?_
  | with_reducible refine w_gIC ?_
  | with_reducible refine w_gCat ?_
  | with_reducible refine w_gCatT ?_
  | with_reducible refine w_notN ?_
  | with_reducible refine w_listF ?_
  | with_reducible refine w_neg ?_
  | with_reducible refine w_not ?_
  | with_reducible refine w_tru ?_
  | with_reducible refine w_callL ?_
  | with_reducible refine w_consO ?_
  | with_reducible refine w_lenO ?_
  | with_reducible refine w_tupleO ?_
  | with_reducible refine w_listO ?_
  | with_reducible refine w_inO ?_
  | with_reducible refine w_truO ?_
  | with_reducible refine w_zipK ?_
  | with_reducible refine w_retN ?_
  | ((with_reducible refine w_aug (a := ?wd) ?wh ?wq); (case wh => exact rfl))
  | with_reducible refine w_gInL ?_
  | with_reducible refine w_gIntI ?_
  | with_reducible refine w_gRevL ?_
  | with_reducible refine w_gSlL ?_
  | with_reducible refine w_gSlT ?_
  | with_reducible refine w_itF ?_
  | with_reducible refine w_gList ?_
  | with_reducible refine w_gSortI ?_
  | with_reducible refine w_range2 ?_
  | ((with_reducible refine w_lcO (ds := ?wd) ?wh ?wq ?wr); (case wh => exact rfl); (case wq => exact rfl))
  | with_reducible refine w_aUnl rfl ?_
  | with_reducible refine w_brk ?_
  | with_reducible refine w_cnt ?_
  | with_reducible refine w_gIntB ?_
  | simp only [wipeS, backS, List.set_cons_zero, List.set_cons_succ, List.getElem?_cons_zero, List.getElem?_cons_succ, Option.join_some, Option.join_none, Bool.not_true, Bool.not_false]))
local macro_rules | `(tactic| walk_at "wv") => `(tactic| ((repeat (walk_at "wv1"; try dsimp only)); try simp only [List.set_cons_zero, List.set_cons_succ]))
local macro_rules | `(tactic| walk_at "st") => `(tactic| simp only [startS, List.map_cons, List.map_nil, List.length_cons, List.length_nil, Nat.reduceAdd, Nat.reduceSub, List.replicate_succ, List.replicate_zero, List.cons_append, List.nil_append])

section
/-! ### means of fractions, as the program works them out -/
open PySem L2
def wSum (es : List (Int × Int)) : Int := (es.map (·.2)).sum
theorem wSum_cons (e : Int × Int) (es : List (Int × Int)) : wSum (e :: es) = e.2 + wSum es := rfl
theorem wSum_bd : ∀ {es : List (Int × Int)}, (∀ e ∈ es, 1 ≤ e.2 ∧ e.2 ≤ 1000) → (es.length : Int) ≤ wSum es ∧ wSum es ≤ 1000 * (es.length : Int)
  | [], _ => ⟨Int.le_refl _, Int.le_refl _⟩
  | e :: es, h => by
    obtain ⟨h1, h2⟩ := wSum_bd (es := es) fun x hx => h x (List.mem_cons_of_mem _ hx)
    obtain ⟨g1, g2⟩ := h e List.mem_cons_self
    rw [wSum_cons, List.length_cons]
    omega
def vAt (vs : List Rat) (i : Int) : Rat := vs.getD i.toNat 0
def mSum (vs : List Rat) : List (Int × Int) → Rat
  | [] => 0
  | e :: es => (e.2 : Rat) * vAt vs e.1 + mSum vs es
/-- the mean of the numbers over a choice -/
def meanQ (vs : List Rat) (es : List (Int × Int)) : Rat := mSum vs es / ((wSum es : Int) : Rat)
theorem mSum_pd {s u : Nat} {vs : List Rat} : ∀ es : List (Int × Int), (∀ e ∈ es, 1 ≤ e.2 ∧ Pd s u (vAt vs e.1)) → Pd s ((wSum es).natAbs * u) (mSum vs es)
  | [], _ => .mono (.zero s 0) (Nat.zero_le _)
  | e :: es, h => by
    have ih := mSum_pd es fun x hx => h x (List.mem_cons_of_mem e hx)
    obtain ⟨h1, h2⟩ := h e List.mem_cons_self
    have w0 : 0 ≤ wSum es := by
      have : ∀ l : List (Int × Int), (∀ x ∈ l, 1 ≤ x.2) → 0 ≤ wSum l := by
        intro l
        induction l with
        | nil => exact fun _ => Int.le_refl _
        | cons a l ih2 =>
          intro hl
          have := ih2 fun x hx => hl x (List.mem_cons_of_mem a hx)
          have := hl a List.mem_cons_self
          rw [wSum_cons]
          omega
      exact this es fun x hx => (h x (List.mem_cons_of_mem e hx)).1
    have e1 : Pd 1 e.2.natAbs ((e.2 : Int) : Rat) := ⟨e.2, by rw [show ((1 : Nat) : Rat) = 1 from rfl, Rat.mul_one], Nat.le_refl _⟩
    have m := (e1.mul h2).add (by rw [Nat.one_mul]; exact ih)
    rw [wSum_cons]
    have ea : (e.2 + wSum es).natAbs = e.2.natAbs + (wSum es).natAbs := by omega
    rw [ea, Nat.add_mul]
    rw [Nat.one_mul] at m
    exact m
theorem Pd.over {s b w : Nat} {q : Rat} (h : Pd s b q) (hw : w ≠ 0) : Pd (s * w) b (q / (w : Rat)) := by
  obtain ⟨m, e, n⟩ := h
  refine ⟨m, ?_, n⟩
  have : (w : Rat) ≠ 0 := by exact_mod_cast hw
  rw [Rat.natCast_mul, ← e]
  grind
theorem meanQ_pd {s u : Nat} {vs : List Rat} {es : List (Int × Int)} (h : ∀ e ∈ es, 1 ≤ e.2 ∧ Pd s u (vAt vs e.1)) (hw : 0 < wSum es) : Pd (s * (wSum es).natAbs) ((wSum es).natAbs * u) (meanQ vs es) := by
  have := (mSum_pd es h).over (w := (wSum es).natAbs) (by omega)
  unfold meanQ
  have e : ((wSum es : Int) : Rat) = (((wSum es).natAbs : Nat) : Rat) := by
    rw [← Rat.intCast_natCast]
    congr 1
    omega
  rw [e]
  exact this
/-- the least common multiple of the denominators that a choice meets -/
def dAt (vs : List Rat) (es : List (Int × Int)) : Nat := es.foldl (fun c e => Nat.lcm c (vAt vs e.1).den) 1
theorem dAt_snoc {vs : List Rat} {es : List (Int × Int)} {e : Int × Int} : dAt vs (es ++ [e]) = Nat.lcm (dAt vs es) (vAt vs e.1).den := by simp [dAt]
theorem dAt_dvd {vs : List Rat} {s : Nat} {es : List (Int × Int)} (h : ∀ e ∈ es, (vAt vs e.1).den ∣ s) : dAt vs es ∣ s := by
  unfold dAt
  have go : ∀ (es : List (Int × Int)) (c : Nat), c ∣ s → (∀ e ∈ es, (vAt vs e.1).den ∣ s) → es.foldl (fun c e => Nat.lcm c (vAt vs e.1).den) c ∣ s := by
    intro es
    induction es with
    | nil => exact fun c h _ => h
    | cons q qs ih => exact fun c h g => ih _ (Nat.lcm_dvd h (g q List.mem_cons_self)) fun x hx => g x (List.mem_cons_of_mem q hx)
  exact go es 1 (Nat.one_dvd s) h
theorem dvd_dAt {vs : List Rat} {es : List (Int × Int)} {e : Int × Int} (h : e ∈ es) : (vAt vs e.1).den ∣ dAt vs es := by
  unfold dAt
  have keep : ∀ (es : List (Int × Int)) (c : Nat), c ∣ es.foldl (fun c e => Nat.lcm c (vAt vs e.1).den) c := by
    intro es
    induction es with
    | nil => exact fun c => Nat.dvd_refl c
    | cons q qs ih => exact fun c => Nat.dvd_trans (Nat.dvd_lcm_left c _) (ih _)
  have go : ∀ (es : List (Int × Int)) (c : Nat), e ∈ es → (vAt vs e.1).den ∣ es.foldl (fun c e => Nat.lcm c (vAt vs e.1).den) c := by
    intro es
    induction es with
    | nil => exact fun c h => nomatch h
    | cons x qs ih =>
      intro c h
      rcases List.mem_cons.mp h with rfl | h
      · exact Nat.dvd_trans (Nat.dvd_lcm_right c _) (keep qs _)
      · exact ih _ h
  exact go es 1 h
theorem dAt_ne {vs : List Rat} {es : List (Int × Int)} : dAt vs es ≠ 0 := by
  unfold dAt
  have go : ∀ (es : List (Int × Int)) (c : Nat), c ≠ 0 → es.foldl (fun c e => Nat.lcm c (vAt vs e.1).den) c ≠ 0 := by
    intro es
    induction es with
    | nil => exact fun c h => h
    | cons q qs ih => exact fun c h => ih _ (Nat.lcm_ne_zero h (vAt vs q.1).den_nz)
  exact go es 1 (by decide)
/-- the program's sum over the common denominator -/
def iSum (C : Nat) (vs : List Rat) (es : List (Int × Int)) : Int := (es.map fun e => e.2 * (vAt vs e.1).num * Int.fdiv (C : Int) ((vAt vs e.1).den : Int)).sum
theorem iSum_app {C : Nat} {vs : List Rat} (a b : List (Int × Int)) : iSum C vs (a ++ b) = iSum C vs a + iSum C vs b := by
  unfold iSum
  rw [List.map_append, List.sum_append]
theorem iSum_cast {C : Nat} {vs : List Rat} : ∀ es : List (Int × Int), (∀ e ∈ es, (vAt vs e.1).den ∣ C) → ((iSum C vs es : Int) : Rat) = (C : Rat) * mSum vs es
  | [], _ => by simp [iSum, mSum]
  | e :: es, h => by
    have ih := iSum_cast es fun x hx => h x (List.mem_cons_of_mem e hx)
    obtain ⟨c, hc⟩ := h e List.mem_cons_self
    have dn := den_ne (vAt vs e.1)
    have f : Int.fdiv (C : Int) ((vAt vs e.1).den : Int) = (c : Int) := fdiv_of dn (by rw [hc, Int.natCast_mul])
    have s : iSum C vs (e :: es) = e.2 * (vAt vs e.1).num * (c : Int) + iSum C vs es := by rw [← f]; rfl
    rw [s, Rat.intCast_add, ih, Rat.intCast_mul, Rat.intCast_mul, Rat.intCast_natCast]
    simp only [mSum]
    have nd : vAt vs e.1 = ((vAt vs e.1).num : Rat) / ((vAt vs e.1).den : Rat) := by
      have := num_den (vAt vs e.1)
      rw [Rat.intCast_natCast] at this
      exact this.symm
    have dq : ((vAt vs e.1).den : Rat) ≠ 0 := by exact_mod_cast (vAt vs e.1).den_nz
    have hC : (C : Rat) = ((vAt vs e.1).den : Rat) * (c : Rat) := by rw [hc, Rat.natCast_mul]
    rw [hC]
    grind
theorem vAt_get {vs : List Rat} {e : Int × Int} (h0 : 0 ≤ e.1) (h1 : e.1 < (vs.length : Int)) : ixD (vs.map dQ) e.1 = .ok (dQ (vAt vs e.1)) := by
  obtain ⟨j, hj⟩ : ∃ j : Nat, e.1 = (j : Int) := ⟨e.1.toNat, by omega⟩
  rw [hj]
  refine ixD_nat ?_
  unfold vAt
  rw [Int.toNat_natCast, List.getElem?_map, List.getD_eq_getElem?_getD, List.getElem?_eq_getElem (show j < vs.length by omega)]
  rfl
/-- a choice that can be looked at with the numbers vs -/
structure MeanOk (s u : Nat) (vs : List Rat) (es : List (Int × Int)) : Prop where
  ne : es ≠ []
  len : es.length ≤ 1000
  ends : ∀ e ∈ es, (0 ≤ e.1 ∧ e.1 < (vs.length : Int)) ∧ 1 ≤ e.2 ∧ e.2 ≤ 1000
  val : ∀ e ∈ es, Pd s u (vAt vs e.1)
  s0 : s ≠ 0
  s1 : s < 2 ^ 1000
  u1 : u < 2 ^ 1000
theorem MeanOk.pos {s u : Nat} {vs : List Rat} {es : List (Int × Int)} (m : MeanOk s u vs es) : 0 < wSum es ∧ wSum es ≤ 1000000 := by
  have := wSum_bd fun e he => (m.ends e he).2
  have := List.length_pos_iff.mpr m.ne
  have := m.len
  omega
theorem MeanOk.pd {s u : Nat} {vs : List Rat} {es : List (Int × Int)} (m : MeanOk s u vs es) : Pd (s * (wSum es).natAbs) ((wSum es).natAbs * u) (meanQ vs es) := meanQ_pd (fun e he => ⟨(m.ends e he).2.1, m.val e he⟩) m.pos.1
theorem p1000 : 1000 * 2 ^ 1000 < 2 ^ 1010 ∧ 2 ^ 1000 * 1000000 < 2 ^ 1020 ∧ (2 : Nat) ^ 1000 < 2 ^ 1010 ∧ 1000 < 2 ^ 1000 ∧ 1000000 < 2 ^ 1000 := by decide +kernel
theorem mean_okV {y : List (List Cho)} {a b s u : Nat} {st : List Cho} {c : Cho} {vs : List Rat} {nd : PyData} {k : PyData → Prop} (hix : ∀ e ∈ c.2, gIxQ nd (.int e.1) = .ok (dQ (vAt vs e.1))) (h1 : y[a]? = some st) (h2 : st[b]? = some c) (m : MeanOk s u vs c.2) (h : k (dQ (meanQ vs c.2))) : (den_mean [dY y, .int (a : Nat), .int (b : Nat), nd]).okTo k := by
  have m3 : ∀ i j : Int, i.natAbs < 2 ^ 3000 → j.natAbs < 2 ^ 3000 → cMul i j = true := fun i j a b => cMul3 a b
  have f3 : ∀ (i : Int) (n : Nat), 0 < n → n < 2 ^ 3000 → cFdiv i (n : Int) = true := fun i n a b => decide_eq_true ⟨by omega, by rw [Int.natAbs_natCast]; exact Nat.lt_of_lt_of_le b (Nat.pow_le_pow_right (by decide) (by decide))⟩
  have dl : ∀ p, dAt vs (c.2.take p) ≤ s := fun p => Nat.le_of_dvd (Nat.pos_of_ne_zero m.s0) (dAt_dvd fun e he => (m.val e (List.mem_of_mem_take he)).dvd m.s0)
  have s3 : s < 2 ^ 3000 := Nat.lt_trans m.s1 (Nat.pow_lt_pow_right (by decide) (by decide))
  obtain ⟨w0, w1⟩ := m.pos
  unfold den_mean body_mean
  generalize cMul = cm at m3 ⊢
  generalize cFdiv = cf at f3 ⊢
  refine w_denP ?_
  walk_at "st"
  walk_at "wv"
  refine okTo_eq (a := dS st) (ixD_nat (ds := y.map dS) (by rw [List.getElem?_map, h1]; rfl)) ?_
  walk_at "wv"
  refine okTo_eq (a := dC c) (ixD_nat (ds := st.map dC) (by rw [List.getElem?_map, h2]; rfl)) ?_
  rw [show dC c = PyData.tuple [.int c.1, .tuple (c.2.map prD)] from rfl]
  walk_at "wv"
  refine ⟨_, rfl, ?_⟩
  refine loop_ok (fun p S => ∃ (e8 e6 : Option PyData), S = [some (.dat (dY y)), some (.dat (.int (a : Nat))), some (.dat (.int (b : Nat))), some (.dat nd), some (.dat (.int ((dAt vs (c.2.take p) : Nat) : Int))), none, e6.map SV.dat, some (.dat (.tuple (c.2.map prD))), e8.map SV.dat, none, none, none]) ?_ ?_ ⟨none, some (.int c.1), rfl⟩
  · rintro p dp S hp ⟨e8, e6, rfl⟩
    rw [List.getElem?_map] at hp
    obtain ⟨e, he, rfl⟩ := Option.map_eq_some_iff.mp hp
    have em := List.mem_of_getElem? he
    obtain ⟨⟨g0, g1⟩, g2, g3⟩ := m.ends e em
    unfold prD
    walk_at "wv"
    refine okTo_eq (hix e em) ?_
    walk_at "wv"
    refine okTo_eq (dq_d _) ?_
    walk_at "wv"
    have ve := (m.val e em).small m.s0
    refine okTo_eq (a := .int ((Nat.lcm (dAt vs (c.2.take p)) (vAt vs e.1).den : Nat) : Int)) ?_ ?_
    · have up : (2 : Nat) ^ 3000 ≤ 2 ^ 6000 := Nat.pow_le_pow_right (by decide) (by decide)
      exact if_pos ⟨by rw [Int.natAbs_natCast]; exact Nat.lt_of_lt_of_le (Nat.lt_of_le_of_lt (dl p) s3) up, by rw [Int.natAbs_natCast]; exact Nat.lt_of_lt_of_le (Nat.lt_of_le_of_lt ve.2 s3) up⟩
    walk_at "wv"
    refine ⟨some (.int e.1), some (.int e.2), ?_⟩
    rw [List.take_add_one, he, Option.toList_some, dAt_snoc]
    rfl
  rintro S ⟨e8, e6, rfl⟩
  rw [List.length_map, List.take_length]
  have dd := dl c.2.length
  rw [List.take_length] at dd
  have dn := dAt_ne (vs := vs) (es := c.2)
  have dv : ∀ e ∈ c.2, (vAt vs e.1).den ∣ dAt vs c.2 := fun e he => dvd_dAt he
  generalize hC : dAt vs c.2 = C at dd dn dv
  walk_at "wv"
  refine ⟨_, rfl, ?_⟩
  refine loop_ok (fun p S => ∃ (e6 e8 e9 e10 e11 : Option PyData), S = [some (.dat (dY y)), some (.dat (.int (a : Nat))), some (.dat (.int (b : Nat))), some (.dat nd), some (.dat (.int (C : Nat))), some (.dat (.int (iSum C vs (c.2.take p)))), e6.map SV.dat, some (.dat (.tuple (c.2.map prD))), e8.map SV.dat, e9.map SV.dat, e10.map SV.dat, e11.map SV.dat]) ?_ ?_ ⟨e6, e8, none, none, none, rfl⟩
  · rintro p dp S hp ⟨e6, e8, e9, e10, e11, rfl⟩
    rw [List.getElem?_map] at hp
    obtain ⟨e, he, rfl⟩ := Option.map_eq_some_iff.mp hp
    have em := List.mem_of_getElem? he
    obtain ⟨⟨g0, g1⟩, g2, g3⟩ := m.ends e em
    unfold prD
    walk_at "wv"
    refine okTo_eq (hix e em) ?_
    rw [show dQ (vAt vs e.1) = PyData.tuple [.int (vAt vs e.1).num, .int ((vAt vs e.1).den : Int)] by unfold dQ; rfl]
    walk_at "wv"
    have ve := (m.val e em).small m.s0
    obtain ⟨q1, q2, q3, q4, q5⟩ := p1000
    have u1 := m.u1
    have up : (2 : Nat) ^ 1010 < 2 ^ 3000 := Nat.pow_lt_pow_right (by decide) (by decide)
    have up0 : (2 : Nat) ^ 1000 < 2 ^ 3000 := Nat.pow_lt_pow_right (by decide) (by decide)
    have wn : (e.2 * (vAt vs e.1).num).natAbs < 2 ^ 3000 := by
      rw [Int.natAbs_mul]
      refine Nat.lt_of_le_of_lt (Nat.mul_le_mul (show e.2.natAbs ≤ 1000 by omega) (Nat.le_of_lt (Nat.lt_of_le_of_lt ve.1 u1))) ?_
      exact Nat.lt_trans q1 up
    have fd : (Int.fdiv (C : Int) ((vAt vs e.1).den : Int)).natAbs < 2 ^ 3000 := by
      rw [Int.fdiv_eq_ediv_of_nonneg _ (by omega)]
      have : ((C : Int) / ((vAt vs e.1).den : Int)).natAbs ≤ C := by
        rw [← Int.natCast_ediv, Int.natAbs_natCast]
        exact Nat.div_le_self _ _
      exact Nat.lt_of_le_of_lt (Nat.le_trans this dd) s3
    refine ⟨m3 _ _ (Nat.lt_of_le_of_lt (show e.2.natAbs ≤ 1000 by omega) (Nat.lt_trans q4 up0)) (Nat.lt_of_le_of_lt ve.1 (Nat.lt_trans u1 up0)), ?_⟩
    walk_at "wv"
    refine ⟨f3 _ _ (Rat.den_pos _) (Nat.lt_of_le_of_lt ve.2 s3), ?_⟩
    walk_at "wv"
    refine ⟨m3 _ _ wn fd, ?_⟩
    walk_at "wv"
    refine ⟨e6, some (.int e.1), some (.int e.2), some (.int (vAt vs e.1).num), some (.int ((vAt vs e.1).den : Int)), ?_⟩
    have one : iSum C vs [e] = e.2 * (vAt vs e.1).num * Int.fdiv (C : Int) ((vAt vs e.1).den : Int) := by simp [iSum]
    rw [List.take_add_one, he, Option.toList_some, iSum_app, one]
    rfl
  rintro S ⟨e6, e8, e9, e10, e11, rfl⟩
  rw [List.length_map, List.take_length]
  walk_at "wv"
  refine ⟨_, rfl, ⟨by cases e6 <;> cases e9 <;> rfl, by rw [List.length_map]; have := m.len; omega⟩, ?_⟩
  refine lc_ok (fun p acc Z => acc = ((c.2.take p).map (·.2)).map PyData.int ∧ Z = [some (.dat (dY y)), some (.dat (.int (a : Nat))), some (.dat (.int (b : Nat))), some (.dat nd), some (.dat (.int (C : Nat))), some (.dat (.int (iSum C vs c.2))), none, some (.dat (.tuple (c.2.map prD))), e8.map SV.dat, none, e10.map SV.dat, e11.map SV.dat]) ?_ ?_ ⟨rfl, rfl⟩
  · rintro p dp acc Z hp ⟨rfl, rfl⟩
    rw [List.getElem?_map] at hp
    obtain ⟨e, he, rfl⟩ := Option.map_eq_some_iff.mp hp
    unfold prD
    walk_at "wv"
    rw [List.take_add_one, he, Option.toList_some, List.map_append, List.map_append]
    exact ⟨rfl, by first | trivial | rfl⟩
  rintro acc Z ⟨rfl, rfl⟩
  rw [List.length_map, List.take_length]
  walk_at "wv"
  have up0 : (2 : Nat) ^ 1000 < 2 ^ 3000 := Nat.pow_lt_pow_right (by decide) (by decide)
  have up8 : (2 : Nat) ^ 3000 < 2 ^ 8000 := Nat.pow_lt_pow_right (by decide) (by decide)
  obtain ⟨q1, q2, q3, q4, q5⟩ := p1000
  have up2 : (2 : Nat) ^ 1020 < 2 ^ 3000 := Nat.pow_lt_pow_right (by decide) (by decide)
  have ws : (c.2.map (·.2)).sum = wSum c.2 := rfl
  rw [ws]
  have wa : (wSum c.2).natAbs ≤ 1000000 := by omega
  refine ⟨m3 _ _ (by rw [Int.natAbs_natCast]; exact Nat.lt_of_le_of_lt dd s3) (Nat.lt_of_le_of_lt wa (Nat.lt_trans q5 up0)), ?_⟩
  walk_at "wv"
  have cw : ((C : Int) * wSum c.2).natAbs < 2 ^ 8000 := by
    rw [Int.natAbs_mul, Int.natAbs_natCast]
    exact Nat.lt_of_le_of_lt (Nat.mul_le_mul (Nat.le_trans dd (Nat.le_of_lt m.s1)) wa) (Nat.lt_trans q2 (Nat.lt_trans up2 up8))
  have c0 : (C : Int) ≠ 0 := by omega
  refine ⟨rfl, ratio_ok (Int.mul_ne_zero c0 (by omega)) cw ?_⟩
  have eq : Rat.divInt (iSum C vs c.2) ((C : Int) * wSum c.2) = meanQ vs c.2 := by
    rw [divInt_eq, iSum_cast _ dv, Rat.intCast_mul, Rat.intCast_natCast]
    unfold meanQ
    have : (C : Rat) ≠ 0 := by exact_mod_cast dn
    have : ((wSum c.2 : Int) : Rat) ≠ 0 := by
      have : wSum c.2 ≠ 0 := by omega
      exact_mod_cast this
    grind
  rw [eq]
  exact h
theorem mean_ok {y : List (List Cho)} {a b s u : Nat} {st : List Cho} {c : Cho} {vs : List Rat} {nd : PyData} {k : PyData → Prop} (hnd : IsSeq nd (vs.map dQ)) (h1 : y[a]? = some st) (h2 : st[b]? = some c) (m : MeanOk s u vs c.2) (h : k (dQ (meanQ vs c.2))) : (den_mean [dY y, .int (a : Nat), .int (b : Nat), nd]).okTo k :=
  mean_okV (fun e he => hnd.ix.trans (vAt_get (m.ends e he).1.1 (m.ends e he).1.2)) h1 h2 m h

end
section
/-! ### k20: the law's mean, what is better, the first best choice -/
open PySem L2
def Bq5 (q : Rat) : Prop := q.num.natAbs < 2 ^ 2000 ∧ q.den < 2 ^ 2000

end
section
/-! ### chains: the right sides, and what is settled -/
open PySem L2
/-- a chain of at most 20 states -/
structure ChOk (z : List (List Cho)) : Prop where
  len : z.length ≤ 20
  at_ : ∀ i, i < z.length → z[i]? = some [cAt z i 0] ∧ EsOk z.length (cAt z i 0).2
def eAt (z : List (List Cho)) (i : Nat) : List (Int × Int) := (cAt z i 0).2
/-- numbers that are known, and what is paid -/
structure ValOk (n t u : Nat) (vals paid : List Rat) : Prop where
  lv : vals.length = n
  lp : paid.length = n
  v : ∀ q ∈ vals, Pd t u q
  p : ∀ i, i < n → Pd t u (paid.getD i 0)
  t0 : t ≠ 0
  t1 : t < 2 ^ 1000
  u1 : u < 2 ^ 1000
def rowsOf (z : List (List Cho)) (hp : List Nat) : List (List Rat) := hp.map fun i => rowOf hp (eAt z i) i

end
end Bo
/-! ### elimination upwards and downwards, rows divided by their leading numbers: what its rows are -/
namespace Bo
theorem Spn.smul {rs : List Row} {z : Row} (a : Rat) (s : Spn rs z) : Spn rs fun j => a * z j := by
  have := Spn.plus a (Spn.zero (rs := rs)) s
  have e : rAdd (fun _ => 0) z a = fun j => a * z j := by
    funext j
    simp only [rAdd]
    grind
  rwa [e] at this
theorem Clr.spn {cs : List Nat} {rs : List Row} {x y : Row} (k : Clr cs rs x y) : Spn (rs ++ [x]) y := by
  obtain ⟨⟨z, s, e⟩, _⟩ := k
  have h0 : Spn (rs ++ [x]) (rAdd (fun _ => 0) x 1) := .add 1 (List.mem_append_right _ List.mem_cons_self) .zero
  have h := Spn.plus (-1) h0 s.more
  have e2 : rAdd (rAdd (fun _ => 0) x 1) z (-1) = y := by
    funext j
    have : x j = y j + 1 * z j := by rw [e]; rfl
    simp only [rAdd]
    grind
  rwa [e2] at h
/-- behind c columns: m rows R, made of whole rows W; the first c are units on these columns, the others are cleared of them -/
structure J (m c : Nat) (R : Nat → Row) (rs : List RowZ) (xs : Nat → RowZ) (L : Nat → Rat) (W : List RowZ) : Prop where
  le : c ≤ m
  e : Elim (List.range c) (rs.map rQ)
  low : ∀ k, k < c → Spn (rs.map rQ) (R k) ∧ ∀ d, d < c → R k d = if d = k then 1 else 0
  high : ∀ k, c ≤ k → k < m → L k ≠ 0 ∧ ∃ y, Clr (List.range c) (rs.map rQ) (rQ (xs k)) y ∧ R k = fun j => L k * y j
  cov : ∀ w ∈ W, w ∈ rs ∨ ∃ k, c ≤ k ∧ k < m ∧ w = xs k
  rin : ∀ r ∈ rs, r ∈ W
  xin : ∀ k, c ≤ k → k < m → xs k ∈ W
theorem J.start {m : Nat} {R : Nat → Row} {xs : Nat → RowZ} {L : Nat → Rat} {W : List RowZ} (hL : ∀ k, k < m → L k ≠ 0) (hR : ∀ k, k < m → R k = fun j => L k * rQ (xs k) j) (hc : ∀ w ∈ W, ∃ k, k < m ∧ w = xs k) (hx : ∀ k, k < m → xs k ∈ W) : J m 0 R [] xs L W where
  le := Nat.zero_le m
  e := .nil
  low := fun k h => absurd h (Nat.not_lt_zero k)
  high := fun k _ hk => ⟨hL k hk, rQ (xs k), ⟨⟨fun _ => 0, .zero, by funext j; simp only [rAdd]; grind⟩, fun d hd => by simp at hd⟩, hR k hk⟩
  cov := fun w hw => let ⟨k, hk, e⟩ := hc w hw; .inr ⟨k, Nat.zero_le k, hk, e⟩
  rin := fun r h => nomatch h
  xin := fun k _ hk => hx k hk
def gjStep (R : Nat → Row) (c f : Nat) : Nat → Row := fun k =>
  if k = c then (fun j => R f j / R f c) else rAdd (if k = f then R c else R k) (fun j => R f j / R f c) (-((if k = f then R c else R k) c))
theorem J.step {m c f : Nat} {R : Nat → Row} {rs : List RowZ} {xs : Nat → RowZ} {L : Nat → Rat} {W : List RowZ} (h : J m c R rs xs L W) (h1 : c ≤ f) (h2 : f < m) (h3 : R f c ≠ 0) :
    J m (c + 1) (gjStep R c f) (rs ++ [xs f]) (fun k => if k = f then xs c else xs k) (fun k => if k = f then L c else L k) W := by
  obtain ⟨lf, y, ky, ey⟩ := h.high f h1 h2
  have yc : y c ≠ 0 := fun z => h3 (by rw [ey]; show L f * y c = 0; rw [z, Rat.mul_zero])
  have hmap : (rs ++ [xs f]).map rQ = rs.map rQ ++ [rQ (xs f)] := by simp
  have ch : (fun j => R f j / R f c) = fun j => y j / y c := by
    funext j
    rw [ey]
    show L f * y j / (L f * y c) = _
    grind
  have chs : Spn (rs.map rQ ++ [rQ (xs f)]) fun j => y j / y c := by
    have := Spn.smul (1 / y c) ky.spn
    have e : (fun j => 1 / y c * y j) = fun j => y j / y c := by
      funext j
      grind
    rwa [e] at this
  have cho : ∀ d, d < c → y d / y c = 0 := fun d hd => by
    rw [ky.out d (List.mem_range.mpr hd)]
    grind
  refine ⟨by omega, ?_, ?_, ?_, ?_, ?_, ?_⟩
  · rw [hmap, List.range_succ]
    exact .step h.e ky yc (by simp)
  · intro k hk
    rw [hmap]
    unfold gjStep
    by_cases e : k = c
    · subst e
      rw [if_pos rfl, ch]
      refine ⟨chs, fun d hd => ?_⟩
      by_cases q : d = k
      · subst q
        rw [if_pos rfl]
        grind
      · rw [if_neg q]
        have e2 : R f d / R f k = y d / y k := congrFun ch d
        exact e2.trans (cho d (by omega))
    · rw [if_neg e]
      have kf : ¬ k = f := by omega
      simp only [if_neg kf]
      obtain ⟨s, u⟩ := h.low k (by omega)
      rw [ch]
      refine ⟨Spn.plus _ s.more chs, fun d hd => ?_⟩
      simp only [rAdd]
      by_cases q : d = c
      · subst q
        rw [if_neg fun z => e z.symm]
        have : y d / y d = 1 := by grind
        rw [this]
        grind
      · rw [cho d (by omega), u d (by omega)]
        grind
  · intro k hk1 hk2
    have kc : ¬ k = c := by omega
    unfold gjStep
    rw [if_neg kc, hmap, List.range_succ, ch]
    have go : ∀ (x : RowZ) (l : Rat) (r : Row), (l ≠ 0 ∧ ∃ y', Clr (List.range c) (rs.map rQ) (rQ x) y' ∧ r = fun j => l * y' j) → l ≠ 0 ∧ ∃ y', Clr (List.range c ++ [c]) (rs.map rQ ++ [rQ (xs f)]) (rQ x) y' ∧ rAdd r (fun j => y j / y c) (-(r c)) = fun j => l * y' j := by
      rintro x l r ⟨hl, y', k', rfl⟩
      refine ⟨hl, _, k'.step ky yc, ?_⟩
      funext j
      simp only [rAdd]
      grind
    by_cases e : k = f
    · subst e
      simp only [if_pos]
      exact go (xs c) (L c) (R c) (h.high c (Nat.le_refl c) (by omega))
    · simp only [if_neg e]
      exact go (xs k) (L k) (R k) (h.high k (by omega) hk2)
  · intro w hw
    rcases h.cov w hw with q | ⟨k, q1, q2, q3⟩
    · exact .inl (List.mem_append_left _ q)
    · by_cases e : k = f
      · subst e
        exact .inl (List.mem_append_right _ (List.mem_singleton.mpr q3))
      · by_cases e2 : k = c
        · subst e2
          exact .inr ⟨f, by omega, h2, by rw [if_pos rfl]; exact q3⟩
        · exact .inr ⟨k, by omega, q2, by rw [if_neg e]; exact q3⟩
  · intro r hr
    rcases List.mem_append.mp hr with q | q
    · exact h.rin r q
    · rw [List.mem_singleton.mp q]
      exact h.xin f h1 h2
  · intro k hk1 hk2
    split
    · exact h.xin c (Nat.le_refl c) (by omega)
    · exact h.xin k (by omega) hk2
/-- no row with a number in the column: the column is made of those before it -/
theorem J.stop {m c : Nat} {R : Nat → Row} {rs : List RowZ} {xs : Nat → RowZ} {L : Nat → Rat} {W : List RowZ} (h : J m c R rs xs L W) (z : ∀ k, c ≤ k → k < m → R k c = 0) : ∃ v : Nat → Rat, ∀ w ∈ W, Is (List.range c) v c (rQ w) := by
  obtain ⟨v, hv⟩ := h.e.sol c
  refine ⟨v, fun w hw => ?_⟩
  rcases h.cov w hw with q | ⟨k, q1, q2, rfl⟩
  · exact hv _ (List.mem_map_of_mem q)
  · obtain ⟨l, y, ky, ey⟩ := h.high k q1 q2
    have g := ky.gap hv
    have y0 : y c = 0 := by
      have := z k q1 q2
      rw [ey] at this
      have this : L k * y c = 0 := this
      exact (Rat.mul_eq_zero.mp this).resolve_left l
    rw [y0] at g
    show rQ (xs k) c = sm v (rQ (xs k)) (List.range c)
    grind
theorem sm_one {u : Nat → Rat} {r : Row} {k : Nat} : ∀ n, (∀ d, d < n → r d = if d = k then 1 else 0) → sm u r (List.range n) = if k < n then u k else 0
  | 0, _ => by simp [sm]
  | n + 1, h => by
    rw [List.range_succ, sm_app, sm_one n fun d hd => h d (by omega)]
    simp only [sm]
    rw [h n (by omega)]
    by_cases e : n = k
    · subst e
      rw [if_pos rfl, if_neg (by omega), if_pos (by omega)]
      grind
    · rw [if_neg e]
      by_cases q : k < n
      · rw [if_pos q, if_pos (by omega)]
        grind
      · rw [if_neg q, if_neg (by omega)]
        grind
/-- behind all columns: the last numbers are the solution -/
theorem J.done {m : Nat} {R : Nat → Row} {rs : List RowZ} {xs : Nat → RowZ} {L : Nat → Rat} {W : List RowZ} {u : Nat → Rat} (h : J m m R rs xs L W) (hu : ∀ w ∈ W, Is (List.range m) u m (rQ w)) {k : Nat} (hk : k < m) : R k m = u k := by
  obtain ⟨s, d⟩ := h.low k hk
  have i : Is (List.range m) u m (R k) := Is.sp (fun r hr => by
    obtain ⟨w, hw, rfl⟩ := List.mem_map.mp hr
    exact hu w (h.rin w hw)) s
  have i' : R k m = sm u (R k) (List.range m) := i
  rw [i', sm_one m d, if_pos hk]
/-! how great the numbers are -/
def Frac (M : Nat) (q : Rat) : Prop := ∃ a b : Int, b ≠ 0 ∧ a.natAbs ≤ M ∧ b.natAbs ≤ M ∧ q = (a : Rat) / (b : Rat)
theorem J.lead {m c B : Nat} {R : Nat → Row} {rs : List RowZ} {xs : Nat → RowZ} {L : Nat → Rat} {W : List RowZ} (h : J m c R rs xs L W) : lapZ (List.range c) rs ≠ 0 := fun z => h.e.ne (by rw [lapZ_cast, z]; rfl)
theorem J.rlen {m c : Nat} {R : Nat → Row} {rs : List RowZ} {xs : Nat → RowZ} {L : Nat → Rat} {W : List RowZ} (h : J m c R rs xs L W) : rs.length = c := by
  have := h.e.len
  rwa [List.length_map, List.length_range] at this
def bigM (m B B2 : Nat) : Nat := ((m + 1) * (B + 1)) ^ m * ((m + 1) * (B2 + 1))
theorem Frac.mono {M N : Nat} {q : Rat} (h : Frac M q) (l : M ≤ N) : Frac N q :=
  let ⟨a, b, h1, h2, h3, h4⟩ := h
  ⟨a, b, h1, Nat.le_trans h2 l, Nat.le_trans h3 l, h4⟩
theorem Frac.zero {M : Nat} (h : 1 ≤ M) : Frac M 0 := ⟨0, 1, by decide, Nat.zero_le M, h, by
  have : ((1 : Int) : Rat) = 1 := rfl
  rw [this]
  have : ((0 : Int) : Rat) = 0 := rfl
  rw [this]
  grind⟩
theorem Frac.one {M : Nat} (h : 1 ≤ M) : Frac M 1 := ⟨1, 1, by decide, h, h, by
  have : ((1 : Int) : Rat) = 1 := rfl
  rw [this]
  grind⟩
/-- what stays of the rows' divisors -/
def Lok (m c s : Nat) (L : Nat → Rat) : Prop := ∀ k, c ≤ k → k < m → ∃ l : Nat, l ≠ 0 ∧ l ≤ s ∧ L k = 1 / (l : Rat)
theorem Lok.step {m c s f : Nat} {L : Nat → Rat} (h : Lok m c s L) (h1 : c ≤ f) (h2 : f < m) : Lok m (c + 1) s fun k => if k = f then L c else L k := fun k hk1 hk2 => by
  by_cases e : k = f
  · simp only [if_pos e]
    exact h c (Nat.le_refl c) (by omega)
  · simp only [if_neg e]
    exact h k (by omega) hk2
end Bo

namespace Bo
open PySem L2
local macro_rules | `(tactic| walk_at "wv1") => `(tactic| (first
  | ((with_reducible refine w_var (d := ?wd) ?wh ?wq); (case wh => exact rfl))
  | with_reducible refine w_cons ?_
  | with_reducible refine w_nil ?_
  | with_reducible refine w_op ?_
  | with_reducible refine w_c ?_
  | with_reducible refine w_aName ?_
  | with_reducible refine w_seq ?_
  | with_reducible refine w_asg ?_
  | with_reducible refine w_toB ?_
  | with_reducible refine w_callP ?_
  | with_reducible refine w_tst ?_
  | with_reducible refine w_gIxT ?_
  | with_reducible refine w_call ?_
  | with_reducible refine w_ret ?_
  | with_reducible refine w_ifS ?_
  | with_reducible refine w_next ?_
  | ((with_reducible refine w_own (ds := ?wd) ?wh ?wq); (case wh => exact rfl))
  | with_reducible refine w_for ?_
  | with_reducible refine w_fr ?_
  | with_reducible refine w_lc ?_
  | with_reducible refine w_tup ?_
  | with_reducible refine w_iter ?_
  | with_reducible refine w_itFT ?_
  | with_reducible refine w_aCons ?_
  | with_reducible refine w_gIxL ?_
  | with_reducible refine w_tnot ?_
  | with_reducible refine w_tor ?_
  | with_reducible refine w_range1 ?_
  | with_reducible refine w_yes ?_
  | with_reducible refine w_itTT ?_
  | with_reducible refine w_iterT ?_
  | with_reducible refine w_lst ?_
  | with_reducible refine w_toI ?_
  | with_reducible refine w_ownS ?_
  | with_reducible refine w_aTup rfl ?_
  | with_reducible refine w_aNil ?_
  | ((with_reducible refine w_frz (ds := ?wd) ?wh ?wq); (case wh => exact rfl))
  | with_reducible refine w_itT ?_
  | with_reducible refine w_tand ?_
  | with_reducible refine w_gEqI ?_
  | with_reducible refine w_gNeI ?_
  | with_reducible refine w_gLenT ?_
  | with_reducible refine w_lstF ?_
  | with_reducible refine w_callB ?_
  | with_reducible refine w_app ?_
  | with_reducible refine w_setI ?_
  | with_reducible refine w_gNeD ?_
  | with_reducible refine w_gEqD ?_
  | with_reducible refine w_drop ?_
  | with_reducible refine w_gIB ?_
  | with_reducible refine w_gBools ?_
  | with_reducible refine w_and ?_
  | with_reducible refine w_isN ?_
  | with_reducible refine w_or ?_
  | with_reducible refine w_ixO ?_
  | with_reducible refine w_gI ?_
  | with_reducible refine w_gLenL ?_
  | with_reducible refine w_gTuple ?_
  | with_reducible refine w_gInts ?_
  | with_reducible refine w_un ?_
  | with_reducible refine w_if ?_
  | with_reducible refine w_chain ?_
  | ((with_reducible refine w_callS (ns := ?wd) ?wh ?wq); (case wh => exact rfl))
  | with_reducible refine w_sl ?_
  | with_reducible refine w_noPart ?_
  | with_reducible refine w_part ?_
  | with_reducible refine w_listRg ?_
  | with_reducible refine w_enumK ?_
  | with_reducible refine w_repF ?_
  | with_reducible refine w_gIC ?_
  | with_reducible refine w_gCat ?_
  | with_reducible refine w_gCatT ?_
  | with_reducible refine w_notN ?_
  | with_reducible refine w_listF ?_
  | with_reducible refine w_neg ?_
  | with_reducible refine w_not ?_
  | with_reducible refine w_tru ?_
  | with_reducible refine w_callL ?_
  | with_reducible refine w_consO ?_
  | with_reducible refine w_lenO ?_
  | with_reducible refine w_tupleO ?_
  | with_reducible refine w_listO ?_
  | with_reducible refine w_inO ?_
  | with_reducible refine w_truO ?_
  | with_reducible refine w_zipK ?_
  | with_reducible refine w_retN ?_
  | ((with_reducible refine w_aug (a := ?wd) ?wh ?wq); (case wh => exact rfl))
  | with_reducible refine w_gInL ?_
  | with_reducible refine w_gIntI ?_
  | with_reducible refine w_gRevL ?_
  | with_reducible refine w_gSlL ?_
  | with_reducible refine w_gSlT ?_
  | with_reducible refine w_itF ?_
  | with_reducible refine w_gList ?_
  | with_reducible refine w_gSortI ?_
  | with_reducible refine w_range2 ?_
  | ((with_reducible refine w_lcO (ds := ?wd) ?wh ?wq ?wr); (case wh => exact rfl); (case wq => exact rfl))
  | with_reducible refine w_aUnl rfl ?_
  | with_reducible refine w_brk ?_
  | with_reducible refine w_cnt ?_
  | with_reducible refine w_gIntB ?_
  | simp only [wipeS, backS, List.set_cons_zero, List.set_cons_succ, List.getElem?_cons_zero, List.getElem?_cons_succ, Option.join_some, Option.join_none, Bool.not_true, Bool.not_false]))
local macro_rules | `(tactic| walk_at "wv") => `(tactic| ((repeat (walk_at "wv1"; try dsimp only)); try simp only [List.set_cons_zero, List.set_cons_succ]))
local macro_rules | `(tactic| walk_at "st") => `(tactic| simp only [startS, List.map_cons, List.map_nil, List.length_cons, List.length_nil, Nat.reduceAdd, Nat.reduceSub, List.replicate_succ, List.replicate_zero, List.cons_append, List.nil_append])

section
/-! ### k10: what its defs answer -/
open PySem L2

end
section
/-! ### k10: a row of fractions made whole -/
open PySem L2
def lcms (qs : List Rat) : Nat := qs.foldl (fun c q => Nat.lcm c q.den) 1
def whole (qs : List Rat) : List Int := qs.map fun q => q.num * Int.fdiv (lcms qs : Int) (q.den : Int)

end
section
/-! ### k10: the values, from the last step back -/
open PySem L2
structure BkOk (b : Int) (acc s : List Int) : Prop where
  ne : s ≠ []
  last : cMul b (s.getLastD 0) = true
  pair : ∀ p ∈ s.tail.zip acc, cMul p.1 p.2 = true
  div : ∀ i, cFdiv i (s.headD 0) = true

end
section
/-! ### k10: solve -/
open PySem L2
/-- what holds of the table, the steps and the number before, at each turn -/
structure Steady (Gd : List (List Int) → List (List Int) → Int → Prop) : Prop where
  size : ∀ {t st b}, Gd t st b → t.length ≤ 1000 ∧ (∀ r ∈ t, r ≠ [] ∧ r.length ≤ 1000) ∧ st.length ≤ 1000 ∧ cFdiv 0 b = true
  mul : ∀ {t st b i s}, Gd t st b → pick t = some i → t[i]? = some s → ∀ row ∈ t, (∀ x ∈ row.tail, cMul (s.headD 0) x = true) ∧ ∀ x ∈ s.tail, cMul (row.headD 0) x = true
  next : ∀ {t st b i s}, Gd t st b → pick t = some i → t[i]? = some s → Gd ((t.eraseIdx i).map fun row => bRow s row b) (st ++ [s]) (s.headD 0)
  last : ∀ {st b}, Gd [] st b → b ≠ 0 ∧ b.natAbs < 2 ^ 8000 ∧ (∀ s ∈ st, s.length ≤ 1000) ∧ ∀ p s, st.reverse[p]? = some s → BkOk b (bBack b (st.reverse.take p) []) s

end
end Bo
/-! ### k10: what holds at each turn of solve -/
namespace Bo
open PySem L2
structure GdT (n B : Nat) (A : List RowZ) (t st : List (List Int)) (b : Int) : Prop where
  ex : ∃ xs rs : List RowZ, t = xs.map (tRow (n + 1) rs.length rs) ∧ st = stp (n + 1) rs ∧ b = lapZ (List.range rs.length) rs ∧ Elim (List.range rs.length) (rs.map rQ) ∧ (rs ++ xs).Perm A
end Bo

/-! ### k10: what solve answers -/
namespace Bo
open PySem L2
def rowZ (w : List Int) : RowZ := fun c => w.getD c 0
end Bo

/-! ### solve, told of its fractions: none where a column is made of those before it, else the one solution -/
namespace Bo
open PySem L2
theorem lcms_dvd {s : Nat} : ∀ {qs : List Rat}, (∀ q ∈ qs, q.den ∣ s) → lcms qs ∣ s := by
  intro qs
  unfold lcms
  have go : ∀ (qs : List Rat) (c : Nat), c ∣ s → (∀ q ∈ qs, q.den ∣ s) → qs.foldl (fun c q => Nat.lcm c q.den) c ∣ s := by
    intro qs
    induction qs with
    | nil => exact fun c h _ => h
    | cons q qs ih => exact fun c h g => ih _ (Nat.lcm_dvd h (g q List.mem_cons_self)) fun x hx => g x (List.mem_cons_of_mem q hx)
  exact go qs 1 (Nat.one_dvd s)
theorem dvd_lcms {qs : List Rat} {q : Rat} (h : q ∈ qs) : q.den ∣ lcms qs := by
  unfold lcms
  have keep : ∀ (qs : List Rat) (c : Nat), c ∣ qs.foldl (fun c q => Nat.lcm c q.den) c := by
    intro qs
    induction qs with
    | nil => exact fun c => Nat.dvd_refl c
    | cons q qs ih => exact fun c => Nat.dvd_trans (Nat.dvd_lcm_left c q.den) (ih _)
  have go : ∀ (qs : List Rat) (c : Nat), q ∈ qs → q.den ∣ qs.foldl (fun c q => Nat.lcm c q.den) c := by
    intro qs
    induction qs with
    | nil => exact fun c h => nomatch h
    | cons x qs ih =>
      intro c h
      rcases List.mem_cons.mp h with rfl | h
      · exact Nat.dvd_trans (Nat.dvd_lcm_right c q.den) (keep qs _)
      · exact ih _ h
  exact go qs 1 h
theorem whole_cast {qs : List Rat} {q : Rat} (h : q ∈ qs) : ((q.num * Int.fdiv (lcms qs : Int) (q.den : Int) : Int) : Rat) = (lcms qs : Rat) * q := by
  obtain ⟨c, hc⟩ := dvd_lcms h
  have dn := den_ne q
  have e : Int.fdiv (lcms qs : Int) (q.den : Int) = (c : Int) := fdiv_of dn (by rw [hc, Int.natCast_mul])
  rw [e, hc, Rat.intCast_mul, Rat.intCast_natCast, Rat.natCast_mul]
  have : q = (q.num : Rat) / (q.den : Rat) := by
    have := num_den q
    rw [Rat.intCast_natCast] at this
    exact this.symm
  have dq : (q.den : Rat) ≠ 0 := by exact_mod_cast q.den_nz
  grind
theorem whole_at {qs : List Rat} {c : Nat} (h : c < qs.length) : ((rowZ (whole qs) c : Int) : Rat) = (lcms qs : Rat) * qs.getD c 0 := by
  unfold rowZ whole
  rw [List.getD_eq_getElem?_getD, List.getElem?_map, List.getElem?_eq_getElem h, List.getD_eq_getElem?_getD, List.getElem?_eq_getElem h]
  exact whole_cast (List.getElem_mem h)
/-- the number of row i at c -/
def cell (rows : List (List Rat)) (i c : Nat) : Rat := (rows.getD i []).getD c 0
/-- what solve is asked with: n rows of n fractions and n of them on the right, whose whole rows stay small -/
structure Asked (n B : Nat) (rows : List (List Rat)) (right : List Rat) : Prop where
  len : rows.length = n
  row : ∀ r ∈ rows, r.length = n
  rgt : right.length = n
  few : n ≤ 900
  lcm : ∀ p ∈ rows.zip right, ∀ i, lcms ((p.1 ++ [p.2]).take i) < 2 ^ 3000
  num : ∀ p ∈ rows.zip right, ∀ q ∈ p.1 ++ [p.2], q.den < 2 ^ 3000 ∧ q.num.natAbs < 2 ^ 3000
  bnd : ∀ p ∈ rows.zip right, ∀ z ∈ whole (p.1 ++ [p.2]), z.natAbs ≤ B
  pow : ((n + 1) * (B + 1)) ^ (n + 1) < 2 ^ 4400
def wOf (rows : List (List Rat)) (right : List Rat) : List (List Int) := (rows.zip right).map fun p => whole (p.1 ++ [p.2])
theorem Asked.zip {n B : Nat} {rows : List (List Rat)} {right : List Rat} (a : Asked n B rows right) {i : Nat} (hi : i < n) : (rows.zip right)[i]? = some (rows.getD i [], right.getD i 0) := by
  have h1 := a.len
  have h2 := a.rgt
  rw [List.getElem?_zip_eq_some]
  rw [List.getD_eq_getElem?_getD, List.getD_eq_getElem?_getD, List.getElem?_eq_getElem (show i < rows.length by omega), List.getElem?_eq_getElem (show i < right.length by omega)]
  exact ⟨rfl, rfl⟩
theorem Asked.at_ {n B : Nat} {rows : List (List Rat)} {right : List Rat} (a : Asked n B rows right) {i : Nat} (hi : i < n) : (wOf rows right)[i]? = some (whole (rows.getD i [] ++ [right.getD i 0])) := by
  unfold wOf
  rw [List.getElem?_map, a.zip hi]
  rfl
theorem Asked.get {n B : Nat} {rows : List (List Rat)} {right : List Rat} (a : Asked n B rows right) {i : Nat} (hi : i < n) : (wOf rows right).getD i [] = whole (rows.getD i [] ++ [right.getD i 0]) := by
  rw [List.getD_eq_getElem?_getD, a.at_ hi]
  rfl
theorem Asked.wlen {n B : Nat} {rows : List (List Rat)} {right : List Rat} (a : Asked n B rows right) : (wOf rows right).length = n := by
  unfold wOf
  rw [List.length_map, List.length_zip, a.len, a.rgt, Nat.min_self]
theorem Asked.rlen {n B : Nat} {rows : List (List Rat)} {right : List Rat} (a : Asked n B rows right) {i : Nat} (hi : i < n) : (rows.getD i []).length = n := by
  rw [List.getD_eq_getElem?_getD, List.getElem?_eq_getElem (show i < rows.length by have := a.len; omega)]
  exact a.row _ (List.getElem_mem _)
/-- the number of the whole row i at c -/
theorem Asked.cell {n B : Nat} {rows : List (List Rat)} {right : List Rat} (a : Asked n B rows right) {i c : Nat} (hi : i < n) (hc : c < n) : ((rowZ ((wOf rows right).getD i []) c : Int) : Rat) = (lcms (rows.getD i [] ++ [right.getD i 0]) : Rat) * cell rows i c := by
  have rl := a.rlen hi
  rw [List.getD_eq_getElem?_getD, a.at_ hi, Option.getD_some, whole_at (by rw [List.length_append, List.length_singleton]; omega)]
  congr 1
  unfold Bo.cell
  rw [List.getD_eq_getElem?_getD, List.getElem?_append_left (by omega), ← List.getD_eq_getElem?_getD]
theorem Asked.last {n B : Nat} {rows : List (List Rat)} {right : List Rat} (a : Asked n B rows right) {i : Nat} (hi : i < n) : ((rowZ ((wOf rows right).getD i []) n : Int) : Rat) = (lcms (rows.getD i [] ++ [right.getD i 0]) : Rat) * right.getD i 0 := by
  have rl := a.rlen hi
  rw [List.getD_eq_getElem?_getD, a.at_ hi, Option.getD_some, whole_at (by rw [List.length_append, List.length_singleton]; omega)]
  congr 1
  rw [List.getD_eq_getElem?_getD, List.getElem?_append_right (by omega), rl, Nat.sub_self]
  rfl
theorem Asked.mem {n B : Nat} {rows : List (List Rat)} {right : List Rat} (a : Asked n B rows right) {w : List Int} (h : w ∈ wOf rows right) : ∃ i, i < n ∧ w = (wOf rows right).getD i [] := by
  obtain ⟨i, hi, rfl⟩ := List.getElem_of_mem h
  refine ⟨i, by have := a.wlen; omega, ?_⟩
  rw [List.getD_eq_getElem?_getD, List.getElem?_eq_getElem hi]
  rfl
end Bo

/-! ### chains: the equations have one solution, and how great their numbers are -/
namespace Bo
open PySem L2
theorem sm_congr {u v : Nat → Rat} {r : Row} : ∀ cs : List Nat, (∀ c ∈ cs, u c = v c) → sm u r cs = sm v r cs
  | [], _ => rfl
  | c :: cs, h => by
    simp only [sm]
    rw [h c List.mem_cons_self, sm_congr cs fun d hd => h d (List.mem_cons_of_mem c hd)]
theorem sm_congr2 {u : Nat → Rat} {r s : Row} : ∀ cs : List Nat, (∀ c ∈ cs, r c = s c) → sm u r cs = sm u s cs
  | [], _ => rfl
  | c :: cs, h => by
    simp only [sm]
    rw [h c List.mem_cons_self, sm_congr2 cs fun d hd => h d (List.mem_cons_of_mem c hd)]
theorem sm_uz {u : Nat → Rat} {r : Row} : ∀ cs : List Nat, (∀ c ∈ cs, u c = 0) → sm u r cs = 0
  | [], _ => rfl
  | c :: cs, h => by
    simp only [sm]
    rw [h c List.mem_cons_self, sm_uz cs fun d hd => h d (List.mem_cons_of_mem c hd)]
    grind
/-- what x is worth at the state o -/
def xAt (hp : List Nat) (x : Nat → Rat) (o : Nat) : Rat := sm x (fun j => if hp.getD j 0 = o then 1 else 0) (List.range hp.length)
theorem nd_at {hp : List Nat} (nd : hp.Nodup) {i j : Nat} (hi : i < hp.length) (hj : j < hp.length) (h : hp.getD j 0 = hp.getD i 0) : j = i := by
  rw [List.getD_eq_getElem?_getD, List.getD_eq_getElem?_getD, List.getElem?_eq_getElem hi, List.getElem?_eq_getElem hj] at h
  have h : hp[j] = hp[i] := h
  have pw := List.pairwise_iff_getElem.mp nd
  rcases Nat.lt_trichotomy j i with q | q | q
  · exact absurd h (pw j i hj hi q)
  · exact q
  · exact absurd h.symm (pw i j hi hj q)
theorem xAt_at {hp : List Nat} {x : Nat → Rat} (nd : hp.Nodup) {i : Nat} (hi : i < hp.length) : xAt hp x (hp.getD i 0) = x i := by
  unfold xAt
  rw [sm_one (k := i) hp.length fun d hd => by
    by_cases e : d = i
    · subst e
      rw [if_pos rfl, if_pos rfl]
    · rw [if_neg e, if_neg fun z => e (nd_at nd hi hd z)], if_pos hi]
theorem xAt_out {hp : List Nat} {x : Nat → Rat} {o : Nat} (h : o ∉ hp) : xAt hp x o = 0 := by
  unfold xAt
  refine sm_zero _ fun c hc => if_neg fun z => h ?_
  have cl := List.mem_range.mp hc
  rw [← z, List.getD_eq_getElem?_getD, List.getElem?_eq_getElem cl]
  exact List.getElem_mem cl
def pSum (W : Int) (es : List (Int × Int)) (o : Int) : Rat := match es with
  | [] => 0
  | e :: es => (if e.1 = o then Rat.divInt e.2 W else 0) + pSum W es o
theorem pSum_none {W o : Int} : ∀ {es : List (Int × Int)}, (∀ e ∈ es, e.1 ≠ o) → pSum W es o = 0
  | [], _ => rfl
  | e :: es, h => by
    unfold pSum
    rw [if_neg (h e List.mem_cons_self), pSum_none fun x hx => h x (List.mem_cons_of_mem e hx)]
    grind
theorem prE_sum {W o : Int} : ∀ {es : List (Int × Int)}, (es.Pairwise fun x y => x.1 < y.1) → prE W es o = pSum W es o
  | [], _ => rfl
  | e :: es, p => by
    have pe := List.pairwise_cons.mp p
    have ih := prE_sum (W := W) (o := o) pe.2
    unfold prE at ih ⊢
    unfold pSum
    rw [List.find?_cons]
    by_cases c : e.1 = o
    · simp only [decide_eq_true c, if_pos c]
      rw [pSum_none fun x hx z => by have := pe.1 x hx; omega]
      show Rat.divInt e.2 W = Rat.divInt e.2 W + 0
      grind
    · simp only [decide_eq_false c, if_neg c]
      rw [ih]
      grind
/-- the mean of what x is worth behind a choice -/
def mX (W : Int) (X : Nat → Rat) : List (Int × Int) → Rat
  | [] => 0
  | e :: es => Rat.divInt e.2 W * X e.1.toNat + mX W X es
theorem sm_prob {W : Int} {hp : List Nat} {x : Nat → Rat} : ∀ es : List (Int × Int), (∀ e ∈ es, 0 ≤ e.1) → sm x (fun j => pSum W es (hp.getD j 0 : Nat)) (List.range hp.length) = mX W (xAt hp x) es
  | [], _ => sm_zero _ fun _ _ => rfl
  | e :: es, h => by
    have ih := sm_prob (W := W) (hp := hp) (x := x) es fun y hy => h y (List.mem_cons_of_mem e hy)
    have e0 := h e List.mem_cons_self
    unfold mX
    rw [← ih]
    have split : ∀ cs : List Nat, sm x (fun j => pSum W (e :: es) (hp.getD j 0 : Nat)) cs = Rat.divInt e.2 W * sm x (fun j => if hp.getD j 0 = e.1.toNat then 1 else 0) cs + sm x (fun j => pSum W es (hp.getD j 0 : Nat)) cs := by
      intro cs
      induction cs with
      | nil => simp only [sm]; grind
      | cons c cs ihc =>
        simp only [sm]
        rw [ihc]
        have : pSum W (e :: es) (hp.getD c 0 : Nat) = (if hp.getD c 0 = e.1.toNat then Rat.divInt e.2 W else 0) + pSum W es (hp.getD c 0 : Nat) := by
          show (if e.1 = ((hp.getD c 0 : Nat) : Int) then _ else _) + _ = _
          by_cases q : hp.getD c 0 = e.1.toNat
          · rw [if_pos (by omega), if_pos q]
          · rw [if_neg (by omega), if_neg q]
        rw [this]
        by_cases q : hp.getD c 0 = e.1.toNat
        · rw [if_pos q, if_pos q]
          grind
        · rw [if_neg q, if_neg q]
          grind
    rw [split]
    rfl
theorem cell_at {z : List (List Cho)} {hp : List Nat} {i j : Nat} (hi : i < hp.length) (hj : j < hp.length) : cell (rowsOf z hp) i j = (if hp.getD j 0 = hp.getD i 0 then 1 else 0) - prob (eAt z (hp.getD i 0)) (hp.getD j 0 : Nat) := by
  unfold cell rowsOf
  have ei : hp[i]? = some (hp.getD i 0) := by rw [List.getD_eq_getElem?_getD, List.getElem?_eq_getElem hi]; rfl
  have ej : hp[j]? = some (hp.getD j 0) := by rw [List.getD_eq_getElem?_getD, List.getElem?_eq_getElem hj]; rfl
  have e1 : (hp.map fun i => rowOf hp (eAt z i) i).getD i [] = rowOf hp (eAt z (hp.getD i 0)) (hp.getD i 0) := by
    rw [List.getD_eq_getElem?_getD, List.getElem?_map, ei]
    rfl
  rw [e1]
  unfold rowOf
  rw [List.getD_eq_getElem?_getD, List.getElem?_map, ej]
  rfl
theorem cell_sm {z : List (List Cho)} {hp : List Nat} {x : Nat → Rat} (hz : ChOk z) (hh : ∀ i ∈ hp, i < z.length) (nd : hp.Nodup) {i : Nat} (hi : i < hp.length) : sm x (cell (rowsOf z hp) i) (List.range hp.length) = x i - mX (wsum (eAt z (hp.getD i 0))) (xAt hp x) (eAt z (hp.getD i 0)) := by
  have hm : hp.getD i 0 < z.length := by
    refine hh _ ?_
    rw [List.getD_eq_getElem?_getD, List.getElem?_eq_getElem hi]
    exact List.getElem_mem hi
  have he := (hz.at_ _ hm).2
  have ee : (cAt z (hp.getD i 0) 0).2 = eAt z (hp.getD i 0) := rfl
  rw [ee] at he
  rw [sm_congr2 (s := rAdd (fun j => if hp.getD j 0 = hp.getD i 0 then 1 else 0) (fun j => pSum (wsum (eAt z (hp.getD i 0))) (eAt z (hp.getD i 0)) (hp.getD j 0 : Nat)) (-1)) _ fun c hc => by
    rw [cell_at hi (List.mem_range.mp hc)]
    simp only [rAdd]
    unfold prob
    rw [prE_sum he.rise]
    grind, sm_add, sm_prob _ fun e h => (he.ends e h).1.1]
  have := xAt_at (x := x) nd hi
  unfold xAt at this
  rw [this]
  grind
theorem frac_pos {a W : Int} (ha : 1 ≤ a) (hW : 1 ≤ W) : 0 < Rat.divInt a W := by
  rw [Rat.divInt_eq_div]
  have h1 : (0 : Rat) < (a : Rat) := by exact_mod_cast (show (0 : Int) < a by omega)
  have h2 : (0 : Rat) < (W : Rat) := by exact_mod_cast (show (0 : Int) < W by omega)
  rw [Rat.div_def]
  exact Rat.mul_pos h1 (Rat.inv_pos.mpr h2)
theorem mX_le {W : Int} {X : Nat → Rat} {M : Rat} (hW : 1 ≤ W) : ∀ es : List (Int × Int), (∀ e ∈ es, 1 ≤ e.2) → (∀ e ∈ es, X e.1.toNat ≤ M) → mX W X es ≤ Rat.divInt (wsum es) W * M ∧ ((∃ e ∈ es, X e.1.toNat < M) → mX W X es < Rat.divInt (wsum es) W * M)
  | [], _, _ => by
    have : Rat.divInt (wsum []) W * M = 0 := by
      have : wsum [] = 0 := rfl
      rw [this, Rat.zero_divInt]
      grind
    rw [this]
    exact ⟨by show (0 : Rat) ≤ 0; grind, fun ⟨_, h, _⟩ => nomatch h⟩
  | e :: es, h, g => by
    obtain ⟨i1, i2⟩ := mX_le (X := X) (M := M) hW es (fun x hx => h x (List.mem_cons_of_mem e hx)) fun x hx => g x (List.mem_cons_of_mem e hx)
    have fp := frac_pos (h e List.mem_cons_self) hW
    have ge := g e List.mem_cons_self
    have wn : W ≠ 0 := by omega
    have ws : Rat.divInt (wsum (e :: es)) W = Rat.divInt e.2 W + Rat.divInt (wsum es) W := by
      have : wsum (e :: es) = e.2 + wsum es := rfl
      rw [this, Rat.divInt_add_divInt _ _ wn wn, ← Int.add_mul, Rat.divInt_mul_right wn]
    unfold mX
    rw [ws]
    have m1 : Rat.divInt e.2 W * X e.1.toNat ≤ Rat.divInt e.2 W * M := Rat.mul_le_mul_of_nonneg_left ge (Rat.le_of_lt fp)
    refine ⟨by grind, ?_⟩
    rintro ⟨x, hx, lt⟩
    rcases List.mem_cons.mp hx with rfl | hx
    · have m2 : Rat.divInt x.2 W * X x.1.toNat < Rat.divInt x.2 W * M := Rat.mul_lt_mul_of_pos_left lt fp
      grind
    · have := i2 ⟨x, hx, lt⟩
      grind
theorem arg_max (x : Nat → Rat) : ∀ m, 0 < m → ∃ i, i < m ∧ ∀ j, j < m → x j ≤ x i
  | 1, _ => ⟨0, by omega, fun j hj => by
    have : j = 0 := by omega
    rw [this]
    grind⟩
  | m + 2, _ => by
    obtain ⟨i, h1, h2⟩ := arg_max x (m + 1) (by omega)
    by_cases c : x (m + 1) ≤ x i
    · refine ⟨i, by omega, fun j hj => ?_⟩
      by_cases e : j = m + 1
      · rw [e]; exact c
      · exact h2 j (by omega)
    · refine ⟨m + 1, by omega, fun j hj => ?_⟩
      by_cases e : j = m + 1
      · rw [e]; grind
      · have := h2 j (by omega)
        grind
end Bo

/-! ### chains, by the law: the worth of its defs, as gen2 reads them -/
namespace Bo
open PySem L2
noncomputable section
end
end Bo

namespace Bo
open PySem L2
local macro_rules | `(tactic| walk_at "wv1") => `(tactic| (first
  | ((with_reducible refine w_var (d := ?wd) ?wh ?wq); (case wh => exact rfl))
  | with_reducible refine w_cons ?_
  | with_reducible refine w_nil ?_
  | with_reducible refine w_op ?_
  | with_reducible refine w_c ?_
  | with_reducible refine w_aName ?_
  | with_reducible refine w_seq ?_
  | with_reducible refine w_asg ?_
  | with_reducible refine w_toB ?_
  | with_reducible refine w_callP ?_
  | with_reducible refine w_tst ?_
  | with_reducible refine w_gIxT ?_
  | with_reducible refine w_call ?_
  | with_reducible refine w_ret ?_
  | with_reducible refine w_ifS ?_
  | with_reducible refine w_next ?_
  | ((with_reducible refine w_own (ds := ?wd) ?wh ?wq); (case wh => exact rfl))
  | with_reducible refine w_for ?_
  | with_reducible refine w_fr ?_
  | with_reducible refine w_lc ?_
  | with_reducible refine w_tup ?_
  | with_reducible refine w_iter ?_
  | with_reducible refine w_itFT ?_
  | with_reducible refine w_aCons ?_
  | with_reducible refine w_gIxL ?_
  | with_reducible refine w_tnot ?_
  | with_reducible refine w_tor ?_
  | with_reducible refine w_range1 ?_
  | with_reducible refine w_yes ?_
  | with_reducible refine w_itTT ?_
  | with_reducible refine w_iterT ?_
  | with_reducible refine w_lst ?_
  | with_reducible refine w_toI ?_
  | with_reducible refine w_ownS ?_
  | with_reducible refine w_aTup rfl ?_
  | with_reducible refine w_aNil ?_
  | ((with_reducible refine w_frz (ds := ?wd) ?wh ?wq); (case wh => exact rfl))
  | with_reducible refine w_itT ?_
  | with_reducible refine w_tand ?_
  | with_reducible refine w_gEqI ?_
  | with_reducible refine w_gNeI ?_
  | with_reducible refine w_gLenT ?_
  | with_reducible refine w_lstF ?_
  | with_reducible refine w_callB ?_
  | with_reducible refine w_app ?_
  | with_reducible refine w_setI ?_
  | with_reducible refine w_gNeD ?_
  | with_reducible refine w_gEqD ?_
  | with_reducible refine w_drop ?_
  | with_reducible refine w_gIB ?_
  | with_reducible refine w_gBools ?_
  | with_reducible refine w_and ?_
  | with_reducible refine w_isN ?_
  | with_reducible refine w_or ?_
  | with_reducible refine w_ixO ?_
  | with_reducible refine w_gI ?_
  | with_reducible refine w_gLenL ?_
  | with_reducible refine w_gTuple ?_
  | with_reducible refine w_gInts ?_
  | with_reducible refine w_un ?_
  | with_reducible refine w_if ?_
  | with_reducible refine w_chain ?_
  | ((with_reducible refine w_callS (ns := ?wd) ?wh ?wq); (case wh => exact rfl))
  | with_reducible refine w_sl ?_
  | with_reducible refine w_noPart ?_
  | with_reducible refine w_part ?_
  | with_reducible refine w_listRg ?_
  | with_reducible refine w_enumK ?_
  | with_reducible refine w_repF ?_
  | with_reducible refine w_gIC ?_
  | with_reducible refine w_gCat ?_
  | with_reducible refine w_gCatT ?_
  | with_reducible refine w_notN ?_
  | with_reducible refine w_listF ?_
  | with_reducible refine w_neg ?_
  | with_reducible refine w_not ?_
  | with_reducible refine w_tru ?_
  | with_reducible refine w_callL ?_
  | with_reducible refine w_consO ?_
  | with_reducible refine w_lenO ?_
  | with_reducible refine w_tupleO ?_
  | with_reducible refine w_listO ?_
  | with_reducible refine w_inO ?_
  | with_reducible refine w_truO ?_
  | with_reducible refine w_zipK ?_
  | with_reducible refine w_retN ?_
  | ((with_reducible refine w_aug (a := ?wd) ?wh ?wq); (case wh => exact rfl))
  | with_reducible refine w_gInL ?_
  | with_reducible refine w_gIntI ?_
  | with_reducible refine w_gRevL ?_
  | with_reducible refine w_gSlL ?_
  | with_reducible refine w_gSlT ?_
  | with_reducible refine w_itF ?_
  | with_reducible refine w_gList ?_
  | with_reducible refine w_gSortI ?_
  | with_reducible refine w_range2 ?_
  | ((with_reducible refine w_lcO (ds := ?wd) ?wh ?wq ?wr); (case wh => exact rfl); (case wq => exact rfl))
  | with_reducible refine w_aUnl rfl ?_
  | with_reducible refine w_brk ?_
  | with_reducible refine w_cnt ?_
  | with_reducible refine w_gIntB ?_
  | simp only [wipeS, backS, List.set_cons_zero, List.set_cons_succ, List.getElem?_cons_zero, List.getElem?_cons_succ, Option.join_some, Option.join_none, Bool.not_true, Bool.not_false]))
local macro_rules | `(tactic| walk_at "wv") => `(tactic| ((repeat (walk_at "wv1"; try dsimp only)); try simp only [List.set_cons_zero, List.set_cons_succ]))
local macro_rules | `(tactic| walk_at "st") => `(tactic| simp only [startS, List.map_cons, List.map_nil, List.length_cons, List.length_nil, Nat.reduceAdd, Nat.reduceSub, List.replicate_succ, List.replicate_zero, List.cons_append, List.nil_append])

section
/-! ### k16: the law's own elimination -/
open PySem L2
theorem Frac.b {M : Nat} {q : Rat} (h : Frac M q) : q.num.natAbs ≤ M ∧ q.den ≤ M := by
  obtain ⟨a, b, h1, h2, h3, rfl⟩ := h
  rw [← divInt_eq]
  have e1 := rN_le (n := a) h1
  have e2 := rD_le (n := a) h1
  rw [rN_rat h1] at e1
  rw [rD_rat h1, Int.natAbs_natCast] at e2
  exact ⟨by omega, by omega⟩
theorem Frac.b3 {M : Nat} {q : Rat} (h : Frac M q) (l : M < 2 ^ 400) : Bq3 q := ⟨Nat.lt_of_le_of_lt h.b.1 l, Nat.lt_of_le_of_lt h.b.2 l⟩
theorem Frac.neg {M : Nat} {q : Rat} (h : Frac M q) : Frac M (-q) := by
  obtain ⟨a, b, h1, h2, h3, rfl⟩ := h
  refine ⟨-a, b, h1, by omega, h3, ?_⟩
  rw [Rat.intCast_neg]
  grind
theorem Frac.mul {M N : Nat} {q r : Rat} (h : Frac M q) (g : Frac N r) : Frac (M * N) (q * r) := by
  obtain ⟨a, b, h1, h2, h3, rfl⟩ := h
  obtain ⟨c, d, g1, g2, g3, rfl⟩ := g
  refine ⟨a * c, b * d, Int.mul_ne_zero h1 g1, by rw [Int.natAbs_mul]; exact Nat.mul_le_mul h2 g2, by rw [Int.natAbs_mul]; exact Nat.mul_le_mul h3 g3, ?_⟩
  rw [Rat.intCast_mul, Rat.intCast_mul]
  have : (b : Rat) ≠ 0 := by exact_mod_cast h1
  have : (d : Rat) ≠ 0 := by exact_mod_cast g1
  grind
def rowL (m : Nat) (r : Row) : List Rat := (List.range (m + 1)).map r
/-- a table that is cleared column by column, as the law does it: how great its numbers stay, and what it tells -/
structure GJ (m M : Nat) (u : Nat → Rat) (Tb : Nat → (Nat → Row) → Prop) : Prop where
  ent : ∀ {c : Nat} {R : Nat → Row}, Tb c R → c < m → ∀ k j, k < m → j < m + 1 → Frac M (R k j)
  cho : ∀ {c f : Nat} {R : Nat → Row}, Tb c R → c < m → c ≤ f → f < m → R f c ≠ 0 → ∀ j, j < m + 1 → Frac M (R f j / R f c)
  one : ∀ {c : Nat} {R : Nat → Row}, Tb c R → c < m → ∃ f, c ≤ f ∧ f < m ∧ R f c ≠ 0
  step : ∀ {c f : Nat} {R : Nat → Row}, Tb c R → c < m → c ≤ f → f < m → R f c ≠ 0 → Tb (c + 1) (gjStep R c f)
  done : ∀ {R : Nat → Row}, Tb m R → ∀ k, k < m → R k m = u k

end
end Bo
/-! ### chains: one solution, told by the program and by the law -/
namespace Bo
open PySem L2
/-- from a state that is asked some way leads out of these -/
inductive Rc (z : List (List Cho)) (hp : List Nat) : Nat → Prop where
  | out {s : Nat} {e : Int × Int} : s ∈ hp → e ∈ eAt z s → e.1.toNat ∉ hp → Rc z hp s
  | step {s : Nat} {e : Int × Int} : s ∈ hp → e ∈ eAt z s → Rc z hp e.1.toNat → Rc z hp s
theorem Rc.mem {z : List (List Cho)} {hp : List Nat} {s : Nat} (h : Rc z hp s) : s ∈ hp := by cases h <;> assumption
/-- the states that are asked, in a chain -/
structure Hop (z : List (List Cho)) (hp : List Nat) : Prop where
  ch : ChOk z
  lt : ∀ i ∈ hp, i < z.length
  nd : hp.Nodup
  rc : ∀ i ∈ hp, Rc z hp i
theorem Hop.get {z : List (List Cho)} {hp : List Nat} (h : Hop z hp) {i : Nat} (hi : i < hp.length) : hp.getD i 0 ∈ hp ∧ hp.getD i 0 < z.length ∧ EsOk z.length (eAt z (hp.getD i 0)) := by
  have m : hp.getD i 0 ∈ hp := by
    rw [List.getD_eq_getElem?_getD, List.getElem?_eq_getElem hi]
    exact List.getElem_mem hi
  exact ⟨m, h.lt _ m, (h.ch.at_ _ (h.lt _ m)).2⟩
theorem Hop.idx {z : List (List Cho)} {hp : List Nat} (h : Hop z hp) {s : Nat} (hs : s ∈ hp) : ∃ i, i < hp.length ∧ hp.getD i 0 = s := by
  obtain ⟨i, hi, e⟩ := List.getElem_of_mem hs
  refine ⟨i, hi, ?_⟩
  rw [List.getD_eq_getElem?_getD, List.getElem?_eq_getElem hi]
  exact e
theorem Hop.less {z : List (List Cho)} {hp : List Nat} (h : Hop z hp) {x : Nat → Rat} {M : Rat} (hM : 0 < M) (hx : ∀ i, i < hp.length → x i ≤ M) (ker : ∀ i, i < hp.length → x i ≤ mX (wsum (eAt z (hp.getD i 0))) (xAt hp x) (eAt z (hp.getD i 0))) {s : Nat} (r : Rc z hp s) : ∀ i, i < hp.length → hp.getD i 0 = s → x i < M := by
  have all : ∀ o, xAt hp x o ≤ M := fun o => by
    by_cases q : o ∈ hp
    · obtain ⟨j, hj, rfl⟩ := h.idx q
      rw [xAt_at h.nd hj]
      exact hx j hj
    · rw [xAt_out q]
      exact Rat.le_of_lt hM
  have fin : ∀ i, i < hp.length → (∃ e ∈ eAt z (hp.getD i 0), xAt hp x e.1.toNat < M) → x i < M := fun i hi ex => by
    have he := (h.get hi).2.2
    have w := he.pos
    have := (mX_le (W := wsum (eAt z (hp.getD i 0))) (X := xAt hp x) (M := M) w.1 _ (fun e hh => (he.ends e hh).2.1) fun e _ => all _).2 ex
    have le := ker i hi
    have one : Rat.divInt (wsum (eAt z (hp.getD i 0))) (wsum (eAt z (hp.getD i 0))) = 1 := by
      have e := Rat.divInt_mul_right (n := 1) (d := 1) (a := wsum (eAt z (hp.getD i 0))) (by omega)
      rw [Int.one_mul] at e
      rw [e]
      rfl
    rw [one, Rat.one_mul] at this
    grind
  induction r with
  | @out s e hs he no => exact fun i hi es => fin i hi ⟨e, by rw [es]; exact he, by rw [xAt_out no]; exact hM⟩
  | @step s e hs he r' ih =>
    intro i hi es
    obtain ⟨j, hj, ej⟩ := h.idx r'.mem
    refine fin i hi ⟨e, by rw [es]; exact he, ?_⟩
    rw [← ej, xAt_at h.nd hj]
    exact ih j hj ej
theorem Hop.top {z : List (List Cho)} {hp : List Nat} (h : Hop z hp) {x : Nat → Rat} (ker : ∀ i, i < hp.length → sm x (cell (rowsOf z hp) i) (List.range hp.length) = 0) : ∀ i, i < hp.length → x i ≤ 0 := by
  intro i hi
  obtain ⟨i0, h0, h1⟩ := arg_max x hp.length (by omega)
  have k2 : ∀ i, i < hp.length → x i = mX (wsum (eAt z (hp.getD i 0))) (xAt hp x) (eAt z (hp.getD i 0)) := fun i hi => by
    have := ker i hi
    rw [cell_sm h.ch h.lt h.nd hi] at this
    grind
  have h2 := h1 i hi
  by_cases c : 0 < x i0
  · have := h.less c h1 (fun i hi => by rw [← k2 i hi]; exact Rat.le_refl) (h.rc _ (h.get h0).1) i0 h0 rfl
    grind
  · grind
theorem Hop.ker {z : List (List Cho)} {hp : List Nat} (h : Hop z hp) {x : Nat → Rat} (ker : ∀ i, i < hp.length → sm x (cell (rowsOf z hp) i) (List.range hp.length) = 0) (i : Nat) (hi : i < hp.length) : x i = 0 := by
  have a := h.top ker i hi
  have b := h.top (x := fun j => 0 - 1 * x j) (fun i hi => by
    rw [sm_mix (u := fun _ => 0) (v := x) (t := 1) _ fun c _ => rfl, ker i hi, sm_uz _ fun _ _ => rfl]
    grind) i hi
  grind
/-- where nothing but nothing comes to nothing, no column is made of those before it -/
theorem ker_free {n : Nat} {A : Nat → Row} (ker : ∀ x : Nat → Rat, (∀ i, i < n → sm x (A i) (List.range n) = 0) → ∀ i, i < n → x i = 0) {c : Nat} (hc : c < n) {v : Nat → Rat} : ¬ ∀ i, i < n → A i c = sm v (A i) (List.range c) := fun q => by
  have := ker ( fun j => if j < c then v j else if j = c then -1 else 0) (fun i hi => by
    have e : List.range n = List.range c ++ (c :: List.range' (c + 1) (n - (c + 1))) := by
      rw [List.range_eq_range', List.range_eq_range', ← List.range'_succ, show n - (c + 1) + 1 = n - c by omega]
      have := List.range'_append (s := 0) (m := c) (n := n - c) (step := 1)
      rw [show 0 + 1 * c = c by omega, show c + (n - c) = n by omega] at this
      exact this.symm
    rw [e, sm_app, sm_congr (u := fun j => if j < c then v j else if j = c then -1 else 0) (v := v) (List.range c) fun d hd => if_pos (List.mem_range.mp hd), ← q i hi]
    simp only [sm]
    rw [sm_uz _ fun d hd => by
      have := (List.mem_range'_1.mp hd).1
      show (if d < c then v d else if d = c then -1 else 0) = (0 : Rat)
      rw [if_neg (by omega), if_neg (by omega)], if_neg (Nat.lt_irrefl c), if_pos trivial]
    grind) c hc
  have e : (if c < c then v c else if c = c then (-1 : Rat) else 0) = -1 := by rw [if_neg (Nat.lt_irrefl c), if_pos rfl]
  have this : (if c < c then v c else if c = c then (-1 : Rat) else 0) = 0 := this
  rw [e] at this
  grind
/-- no column of the equations is made of those before it -/
theorem Hop.free {z : List (List Cho)} {hp : List Nat} (h : Hop z hp) {c : Nat} (hc : c < hp.length) {v : Nat → Rat} : ¬ ∀ i, i < hp.length → cell (rowsOf z hp) i c = sm v (cell (rowsOf z hp) i) (List.range c) :=
  ker_free (A := cell (rowsOf z hp)) (fun _ k => h.ker k) hc
/-- two solutions are the same -/
theorem Hop.one {z : List (List Cho)} {hp : List Nat} (h : Hop z hp) {u v : Nat → Rat} {b : Nat → Rat} (hu : ∀ i, i < hp.length → b i = sm u (cell (rowsOf z hp) i) (List.range hp.length)) (hv : ∀ i, i < hp.length → b i = sm v (cell (rowsOf z hp) i) (List.range hp.length)) (i : Nat) (hi : i < hp.length) : u i = v i := by
  have := h.ker (x := fun j => u j - 1 * v j) (fun i hi => by
    rw [sm_mix (u := u) (v := v) (t := 1) _ fun c _ => rfl, ← hu i hi, ← hv i hi]
    grind) i hi
  grind
end Bo

/-! ### chains: solve and the law's elimination tell the same -/
namespace Bo
open PySem L2
theorem whole_le {s b : Nat} {qs : List Rat} {q : Rat} (hq : q ∈ qs) (h0 : s ≠ 0) (h : ∀ q ∈ qs, q.den ∣ s) (hb : Pd s b q) : (q.num * Int.fdiv (lcms qs : Int) (q.den : Int)).natAbs ≤ b := by
  have c := whole_cast hq
  obtain ⟨m, e, n⟩ := hb
  have ll : lcms qs ≤ s := Nat.le_of_dvd (by omega) (lcms_dvd h)
  generalize q.num * Int.fdiv (lcms qs : Int) (q.den : Int) = z at c ⊢
  have e2 : z * (s : Int) = (lcms qs : Int) * m := by
    have : ((z * (s : Int) : Int) : Rat) = (((lcms qs : Int) * m : Int) : Rat) := by
      rw [Rat.intCast_mul, Rat.intCast_mul, c, Rat.intCast_natCast, Rat.intCast_natCast, ← e]
      grind
    exact_mod_cast this
  have e3 : z.natAbs * s = lcms qs * m.natAbs := by
    have := congrArg Int.natAbs e2
    rwa [Int.natAbs_mul, Int.natAbs_mul, Int.natAbs_natCast, Int.natAbs_natCast] at this
  have e4 : z.natAbs * s ≤ b * s := by
    rw [e3, Nat.mul_comm b]
    exact Nat.mul_le_mul ll n
  exact Nat.le_of_mul_le_mul_right e4 (by omega)
/-- rows whose numbers are over small denominators -/
structure RowsOk (n S B B2 : Nat) (rows : List (List Rat)) (right : List Rat) : Prop where
  len : rows.length = n
  row : ∀ r ∈ rows, r.length = n
  rgt : right.length = n
  two : B ≤ B2
  pd : ∀ i, i < n → ∃ s, s ≠ 0 ∧ s ≤ S ∧ (∀ q ∈ rows.getD i [], Pd s B q) ∧ Pd s B2 (right.getD i 0)
theorem RowsOk.all {n S B B2 : Nat} {rows : List (List Rat)} {right : List Rat} (h : RowsOk n S B B2 rows right) {i : Nat} (hi : i < n) : ∃ s, s ≠ 0 ∧ s ≤ S ∧ (∀ q ∈ rows.getD i [], Pd s B q) ∧ Pd s B2 (right.getD i 0) ∧ ∀ q ∈ rows.getD i [] ++ [right.getD i 0], Pd s B2 q := by
  obtain ⟨s, h0, h1, h2, h3⟩ := h.pd i hi
  refine ⟨s, h0, h1, h2, h3, fun q hq => ?_⟩
  rcases List.mem_append.mp hq with c | c
  · exact (h2 q c).mono h.two
  · rw [List.mem_singleton.mp c]
    exact h3
theorem RowsOk.asked {n S B B2 : Nat} {rows : List (List Rat)} {right : List Rat} (h : RowsOk n S B B2 rows right) (hn : n ≤ 900) (hS : S < 2 ^ 3000) (hB : B2 < 2 ^ 3000) (hP : ((n + 1) * (B2 + 1)) ^ (n + 1) < 2 ^ 4400) : Asked n B2 rows right := by
  have at_ : ∀ p ∈ rows.zip right, ∃ s, s ≠ 0 ∧ s ≤ S ∧ ∀ q ∈ p.1 ++ [p.2], Pd s B2 q := fun p hp => by
    obtain ⟨i, hi, e⟩ := List.getElem_of_mem hp
    have l : i < n := by
      rw [List.length_zip, h.len, h.rgt, Nat.min_self] at hi
      exact hi
    obtain ⟨s, h0, h1, _, _, h3⟩ := h.all l
    refine ⟨s, h0, h1, ?_⟩
    have e1 : rows.getD i [] = p.1 := by
      rw [List.getD_eq_getElem?_getD, List.getElem?_eq_getElem (show i < rows.length by rw [h.len]; exact l), ← e]
      rw [List.getElem_zip]
      rfl
    have e2 : right.getD i 0 = p.2 := by
      rw [List.getD_eq_getElem?_getD, List.getElem?_eq_getElem (show i < right.length by rw [h.rgt]; exact l), ← e]
      rw [List.getElem_zip]
      rfl
    rw [← e1, ← e2]
    exact h3
  refine ⟨h.len, h.row, h.rgt, hn, fun p hp i => ?_, fun p hp q hq => ?_, fun p hp z hz => ?_, hP⟩
  · obtain ⟨s, h0, h1, h3⟩ := at_ p hp
    exact Nat.lt_of_le_of_lt (Nat.le_trans (Nat.le_of_dvd (by omega) (lcms_dvd fun q hq => (h3 q (List.mem_of_mem_take hq)).dvd h0)) h1) hS
  · obtain ⟨s, h0, h1, h3⟩ := at_ p hp
    have := (h3 q hq).small h0
    exact ⟨Nat.lt_of_le_of_lt (Nat.le_trans this.2 h1) hS, Nat.lt_of_le_of_lt this.1 hB⟩
  · obtain ⟨s, h0, h1, h3⟩ := at_ p hp
    unfold whole at hz
    obtain ⟨q, hq, rfl⟩ := List.mem_map.mp hz
    exact whole_le hq h0 (fun q hq => (h3 q hq).dvd h0) (h3 q hq)
def R0of (rows : List (List Rat)) (right : List Rat) (i : Nat) : Row := fun j => (rows.getD i [] ++ [right.getD i 0]).getD j 0
theorem rowL_of {n : Nat} {l : List Rat} (h : l.length = n + 1) : l = rowL n fun j => l.getD j 0 := by
  refine List.ext_getElem? fun j => ?_
  unfold rowL
  by_cases c : j < n + 1
  · rw [List.getElem?_map, List.getElem?_range c, List.getElem?_eq_getElem (by omega), Option.map_some, List.getD_eq_getElem?_getD, List.getElem?_eq_getElem (by omega)]
    rfl
  · rw [List.getElem?_eq_none (by omega), List.getElem?_eq_none (by simp; omega)]
theorem Asked.r0 {n B : Nat} {rows : List (List Rat)} {right : List Rat} (a : Asked n B rows right) {i : Nat} (hi : i < n) : rows.getD i [] ++ [right.getD i 0] = rowL n (R0of rows right i) :=
  rowL_of (by have := a.rlen hi; rw [List.length_append, List.length_singleton]; omega)
end Bo

/-! ### what policies reach -/
namespace Bo
section
variable (E : Nat → Nat → Nat → Prop) (U : Nat → Nat → Prop) (T : Nat → Prop) (p : Nat → Nat)
/-- the choices of p alone -/
def Up : Nat → Nat → Prop := fun s k => U s k ∧ k = p s
end
section
variable {E : Nat → Nat → Nat → Prop} {U V : Nat → Nat → Prop} {T : Nat → Prop} {n : Nat} {s : Nat} {p : Nat → Nat}
def Tot (U : Nat → Nat → Prop) (p : Nat → Nat) : Prop := ∀ s, (∃ k, U s k) → U s (p s)
end
end Bo

/-! ### means, and where something is greatest -/
namespace Bo
structure Av (E : Nat → Prop) (A : (Nat → Rat) → Rat) : Prop where
  le : ∀ u v : Nat → Rat, (∀ j, E j → u j ≤ v j) → A u ≤ A v
  eq : ∀ u v : Nat → Rat, (∀ j, E j → u j ≤ v j) → A u = A v → ∀ j, E j → u j = v j
  lin : ∀ (u v : Nat → Rat) (a b : Rat), A (fun j => a * u j + b * v j) = a * A u + b * A v
  one : ∀ c : Rat, A (fun _ => c) = c
section
variable {E : Nat → Prop} {A : (Nat → Rat) → Rat}
theorem Av.congr (h : Av E A) {u v : Nat → Rat} (e : ∀ j, E j → u j = v j) : A u = A v := by
  have h1 := h.le u v fun j hj => by rw [e j hj]; exact Rat.le_refl
  have h2 := h.le v u fun j hj => by rw [e j hj]; exact Rat.le_refl
  exact Rat.le_antisymm h1 h2
theorem Av.ne (h : Av E A) : ∃ j, E j := Classical.byContradiction fun no => by
  have h1 := h.le (fun _ => 1) (fun _ => 0) fun j hj => (no ⟨j, hj⟩).elim
  rw [h.one, h.one] at h1
  exact absurd h1 (by decide)
theorem Av.sub (h : Av E A) (u v : Nat → Rat) : A (fun j => u j - v j) = A u - A v := by
  have := h.lin u v 1 (-1)
  have e : (fun j => u j - v j) = fun j => 1 * u j + -1 * v j := funext fun j => by grind
  rw [e, this]
  grind
theorem Av.add (h : Av E A) (u v : Nat → Rat) : A (fun j => u j + v j) = A u + A v := by
  have := h.lin u v 1 1
  have e : (fun j => u j + v j) = fun j => 1 * u j + 1 * v j := funext fun j => by grind
  rw [e, this]
  grind
theorem Av.neg (h : Av E A) (u : Nat → Rat) : A (fun j => - u j) = - A u := by
  have := h.lin u u (-1) 0
  have e : (fun j => - u j) = fun j => -1 * u j + 0 * u j := funext fun j => by grind
  rw [e, this]
  grind
end
theorem amax (u : Nat → Rat) (C : Nat → Prop) : ∀ n : Nat, (∃ s, s < n ∧ C s) → ∃ i, i < n ∧ C i ∧ ∀ s, s < n → C s → u s ≤ u i
  | 0, h => by obtain ⟨s, h, _⟩ := h; omega
  | n + 1, h => by
    by_cases g : ∃ s, s < n ∧ C s
    · obtain ⟨i, h1, h2, h3⟩ := amax u C n g
      by_cases c : C n ∧ u i ≤ u n
      · refine ⟨n, by omega, c.1, fun s hs hc => ?_⟩
        by_cases e : s = n
        · rw [e]; exact Rat.le_refl
        · exact Rat.le_trans (h3 s (by omega) hc) c.2
      · refine ⟨i, by omega, h2, fun s hs hc => ?_⟩
        by_cases e : s = n
        · subst e
          have : ¬ u i ≤ u s := fun z => c ⟨hc, z⟩
          grind
        · exact h3 s (by omega) hc
    · obtain ⟨s, h1, h2⟩ := h
      have e : s = n := by
        by_cases q : s = n
        · exact q
        · exact (g ⟨s, by omega, h2⟩).elim
      subst e
      refine ⟨s, by omega, h2, fun t ht hc => ?_⟩
      by_cases e : t = s
      · rw [e]; exact Rat.le_refl
      · exact (g ⟨t, by omega, hc⟩).elim
section
variable {n : Nat} {C D : Nat → Prop} {F : Nat → Nat → Prop} {B : Nat → (Nat → Rat) → Rat} {u : Nat → Rat} {b : Rat}
/-- where u is greatest -/
theorem argset (hA : ∀ s, C s → Av (F s) (B s)) (lt : ∀ s, C s → s < n) (cl : ∀ s, C s → ∀ j, F s j → C j ∨ u j ≤ b) (sub : ∀ s, C s → u s ≤ B s u) (h : ∃ s, C s ∧ b < u s) :
    ∃ m, b < m ∧ (∃ s, C s ∧ u s = m) ∧ (∀ s, C s → u s ≤ m) ∧ ∀ s, C s → u s = m → (∀ j, F s j → C j ∧ u j = m) ∧ B s u = m := by
  obtain ⟨s0, c0, g0⟩ := h
  obtain ⟨i, hi, ci, mx⟩ := amax u C n ⟨s0, lt s0 c0, c0⟩
  have gi : b < u i := by
    have := mx s0 (lt s0 c0) c0
    grind
  refine ⟨u i, gi, ⟨i, ci, rfl⟩, fun s hs => mx s (lt s hs) hs, fun s cs es => ?_⟩
  have av := hA s cs
  have le : ∀ j, F s j → u j ≤ u i := fun j fj => by
    rcases cl s cs j fj with c | c
    · exact mx j (lt j c) c
    · grind
  have l1 := av.le u (fun _ => u i) le
  rw [av.one] at l1
  have l2 := sub s cs
  have e : B s u = u i := by grind
  refine ⟨fun j fj => ?_, e⟩
  have ej := av.eq u (fun _ => u i) le (by rw [av.one, e]) j fj
  refine ⟨?_, ej⟩
  rcases cl s cs j fj with c | c
  · exact c
  · have ej : u j = u i := ej
    grind
/-- some way leads out -/
inductive Esc (D : Nat → Prop) (F : Nat → Nat → Prop) : Nat → Prop
  | out {s : Nat} : ¬ D s → Esc D F s
  | step {s j : Nat} : F s j → Esc D F j → Esc D F s
/-- what is no more than its mean is no greater inside than outside -/
theorem maxp (hA : ∀ s, D s → Av (F s) (B s)) (lt : ∀ s, D s → s < n) (ln : ∀ s j, D s → F s j → j < n) (sub : ∀ s, D s → u s ≤ B s u) (out : ∀ s, s < n → ¬ D s → u s ≤ b) (rc : ∀ s, D s → Esc D F s) : ∀ s, s < n → u s ≤ b := by
  intro s hs
  refine Classical.byContradiction fun no => ?_
  have ds : D s := Classical.byContradiction fun nd => no (out s hs nd)
  obtain ⟨m, hm, ⟨t, ct, et⟩, _, st⟩ := argset (b := b) hA lt (fun s h j fj => by
    by_cases c : D j
    · exact .inl c
    · exact .inr (out j (ln s j h fj) c)) sub ⟨s, ds, by grind⟩
  have go : ∀ x, Esc D F x → D x → u x = m → False := by
    intro x e
    induction e with
    | out h => exact fun d _ => h d
    | step f _ ih => exact fun d e => ih ((st _ d e).1 _ f).1 ((st _ d e).1 _ f).2
  exact go t (rc t ct) ct et
end
/-! ### chances -/
structure Md (n : Nat) (E : Nat → Nat → Nat → Prop) (U : Nat → Nat → Prop) (T : Nat → Prop) (A : Nat → Nat → (Nat → Rat) → Rat) : Prop where
  av : ∀ s k, U s k → Av (E s k) (A s k)
  lt : ∀ s k, U s k → s < n
  en : ∀ s k j, U s k → E s k j → j < n
  nt : ∀ s k, U s k → ¬ T s
def On (U : Nat → Nat → Prop) (s : Nat) : Prop := ∃ k, U s k
/-- what the policy d is worth -/
structure PV (n : Nat) (E : Nat → Nat → Nat → Prop) (U : Nat → Nat → Prop) (T : Nat → Prop) (A : Nat → Nat → (Nat → Rat) → Rat) (d : Nat → Nat) (v : Nat → Rat) : Prop where
  tg : ∀ s, s < n → T s → v s = 1
  no : ∀ s, s < n → ¬ Rch E (Up U d) T s → v s = 0
  eq : ∀ s, s < n → ¬ T s → Rch E (Up U d) T s → v s = A s (d s) v
/-- on the way, and a target can be reached -/
def Hpf (E : Nat → Nat → Nat → Prop) (U : Nat → Nat → Prop) (T : Nat → Prop) (d : Nat → Nat) (s : Nat) : Prop := ¬ T s ∧ Rch E (Up U d) T s
section
variable {n : Nat} {E : Nat → Nat → Nat → Prop} {U : Nat → Nat → Prop} {T : Nat → Prop} {A : Nat → Nat → (Nat → Rat) → Rat} {d d' : Nat → Nat} {v w x : Nat → Rat}
theorem hp_u {s : Nat} (h : Hpf E U T d s) : U s (d s) := by
  obtain ⟨h1, h2⟩ := h
  cases h2 with
  | goal t => exact (h1 t).elim
  | step u _ _ => rw [← u.2]; exact u.1
theorem hp_esc {s : Nat} (r : Rch E (Up U d) T s) : Esc (Hpf E U T d) (fun s j => E s (d s) j) s := by
  induction r with
  | goal t => exact .out fun h => h.1 t
  | step u e _ ih => exact .step (by rw [← u.2]; exact e) ih
/-- the greatest inside -/
theorem Md.maxp (M : Md n E U T A) {u : Nat → Rat} {b : Rat} (sub : ∀ s, Hpf E U T d s → u s ≤ A s (d s) u) (out : ∀ s, s < n → ¬ Hpf E U T d s → u s ≤ b) : ∀ s, s < n → u s ≤ b :=
  Bo.maxp (D := Hpf E U T d) (F := fun s j => E s (d s) j) (B := fun s => A s (d s)) (fun s h => M.av s _ (hp_u h)) (fun s h => M.lt s _ (hp_u h)) (fun s j h e => M.en s _ j (hp_u h) e) sub out (fun s h => hp_esc h.2)
theorem PV.ge0 (M : Md n E U T A) (p : PV n E U T A d v) : ∀ s, s < n → 0 ≤ v s := fun s hs => by
  have := M.maxp (d := d) (u := fun j => - v j) (b := 0) (fun s h => by
    have := p.eq s (M.lt s _ (hp_u h)) h.1 h.2
    rw [(M.av s _ (hp_u h)).neg, ← this]
    exact Rat.le_refl) (fun s hs h => by
    by_cases t : T s
    · show - v s ≤ 0
      rw [p.tg s hs t]; grind
    · show - v s ≤ 0
      rw [p.no s hs fun r => h ⟨t, r⟩]; grind) s hs
  grind
/-- in each state on the way -/
theorem PV.on (M : Md n E U T A) (ht : Tot U d) (p : PV n E U T A d v) {s : Nat} (o : On U s) : v s = A s (d s) v := by
  have us := ht s o
  have hs := M.lt s _ us
  by_cases r : Rch E (Up U d) T s
  · exact p.eq s hs (M.nt s _ us) r
  · rw [p.no s hs r]
    have : A s (d s) v = A s (d s) fun _ => 0 := (M.av s _ us).congr fun j e => p.no j (M.en s _ j us e) fun q => r (.step ⟨us, rfl⟩ e q)
    rw [this, (M.av s _ us).one]
theorem PV.off (M : Md n E U T A) (p : PV n E U T A d v) {s : Nat} (hs : s < n) (t : ¬ T s) (o : ¬ On U s) : v s = 0 := p.no s hs fun r => by
  cases r with
  | goal h => exact t h
  | step u _ _ => exact o ⟨_, u.1⟩
theorem PV.pos (M : Md n E U T A) (p : PV n E U T A d v) {s : Nat} (hs : s < n) (r : Rch E (Up U d) T s) : 0 < v s := by
  induction r with
  | goal t => rw [p.tg _ hs t]; grind
  | @step s k j u e r ih =>
    have hj := M.en _ _ _ u.1 e
    have ek := u.2
    subst ek
    have pj := ih hj
    have av := M.av s _ u.1
    have z := p.eq s hs (M.nt _ _ u.1) (.step u e r)
    have ge := av.le (fun _ => 0) v fun i ei => p.ge0 M i (M.en _ _ _ u.1 ei)
    rw [av.one] at ge
    by_cases c : A s (d s) v = 0
    · have := av.eq (fun _ => 0) v (fun i ei => p.ge0 M i (M.en _ _ _ u.1 ei)) (by rw [av.one, c]) j e
      have : (0 : Rat) = v j := this
      grind
    · grind
/-- it is told by this alone -/
theorem PV.one (M : Md n E U T A) (p : PV n E U T A d v) (q : PV n E U T A d w) {s : Nat} (hs : s < n) : v s = w s := by
  have key : ∀ {v w : Nat → Rat}, PV n E U T A d v → PV n E U T A d w → v s - w s ≤ 0 := fun {v w} p q =>
    M.maxp (d := d) (u := fun j => v j - w j) (b := 0) (fun s h => by
      rw [(M.av s _ (hp_u h)).sub, ← p.eq s (M.lt s _ (hp_u h)) h.1 h.2, ← q.eq s (M.lt s _ (hp_u h)) h.1 h.2]
      exact Rat.le_refl) (fun s hs h => by
      show v s - w s ≤ 0
      by_cases t : T s
      · rw [p.tg s hs t, q.tg s hs t]; grind
      · rw [p.no s hs fun r => h ⟨t, r⟩, q.no s hs fun r => h ⟨t, r⟩]; grind) s hs
  have := key p q
  have := key q p
  grind
/-! certificates -/
structure Cert0 (n : Nat) (U : Nat → Nat → Prop) (T : Nat → Prop) (x : Nat → Rat) : Prop where
  tg : ∀ s, s < n → T s → x s = 1
  off : ∀ s, s < n → ¬ T s → ¬ On U s → x s = 0
  rng : ∀ s, s < n → 0 ≤ x s ∧ x s ≤ 1
structure CertM (n : Nat) (E : Nat → Nat → Nat → Prop) (U : Nat → Nat → Prop) (T : Nat → Prop) (A : Nat → Nat → (Nat → Rat) → Rat) (d : Nat → Nat) (r : Nat → Int) (x : Nat → Rat) : Prop extends Cert0 n U T x where
  up : ∀ s k, U s k → A s k x ≤ x s
  eq : ∀ s, On U s → 0 < x s → A s (d s) x = x s
  rk : ∀ s, On U s → 0 < x s → ∃ j, E s (d s) j ∧ 0 < x j ∧ r j < r s
structure CertL (n : Nat) (E : Nat → Nat → Nat → Prop) (U : Nat → Nat → Prop) (T : Nat → Prop) (A : Nat → Nat → (Nat → Rat) → Rat) (d : Nat → Nat) (r : Nat → Int) (x : Nat → Rat) : Prop extends Cert0 n U T x where
  lo : ∀ s k, U s k → x s ≤ A s k x
  eq : ∀ s, On U s → A s (d s) x = x s
  rk : ∀ s k, U s k → 0 < x s → ∃ j, E s k j ∧ (T j ∨ x j = 0 ∨ r j < r s)
variable {r : Nat → Int}
theorem CertM.best (M : Md n E U T A) (h : CertM n E U T A d r x) (ht : Tot U d') (p : PV n E U T A d' v) : ∀ s, s < n → v s ≤ x s := by
  intro s hs
  have := M.maxp (d := d') (u := fun j => v j - x j) (b := 0) (fun s h' => by
    have o : On U s := ⟨_, hp_u h'⟩
    rw [(M.av s _ (hp_u h')).sub, ← p.on M ht o]
    have := h.up s _ (hp_u h')
    grind) (fun s hs h' => by
    show v s - x s ≤ 0
    by_cases t : T s
    · rw [p.tg s hs t, h.tg s hs t]; grind
    · rw [p.no s hs fun r => h' ⟨t, r⟩]
      have := (h.rng s hs).1
      grind) s hs
  grind
theorem CertM.rch (M : Md n E U T A) (h : CertM n E U T A d r x) (r0 : ∀ s, s < n → 0 ≤ r s) (ht : Tot U d) : ∀ (m s : Nat), s < n → r s < m → 0 < x s → Rch E (Up U d) T s := by
  intro m
  induction m with
  | zero =>
    intro s hs lt
    have := r0 s hs
    omega
  | succ m ih =>
    intro s hs lt px
    by_cases t : T s
    · exact .goal t
    by_cases o : On U s
    · obtain ⟨j, e, pj, rj⟩ := h.rk s o px
      exact .step ⟨ht s o, rfl⟩ e (ih j (M.en s _ j (ht s o) e) (by omega) pj)
    · rw [h.off s hs t o] at px
      exact absurd px (by decide)
theorem CertM.pol (M : Md n E U T A) (h : CertM n E U T A d r x) (r0 : ∀ s, s < n → 0 ≤ r s) (ht : Tot U d) : PV n E U T A d x where
  tg := h.tg
  no := fun s hs nr => by
    have := (h.rng s hs).1
    by_cases c : 0 < x s
    · exact (nr (h.rch M r0 ht ((r s).toNat + 1) s hs (by omega) c)).elim
    · grind
  eq := fun s hs t rc => by
    have us := hp_u (d := d) ⟨t, rc⟩
    by_cases c : 0 < x s
    · exact (h.eq s ⟨_, us⟩ c).symm
    · have g0 := (h.rng s hs).1
      have z : x s = 0 := by grind
      have up := h.up s _ us
      have ge := (M.av s _ us).le (fun _ => 0) x fun j e => (h.rng j (M.en s _ j us e)).1
      rw [(M.av s _ us).one] at ge
      grind
theorem CertL.best (M : Md n E U T A) (h : CertL n E U T A d r x) (r0 : ∀ s, s < n → 0 ≤ r s) (ht : Tot U d') (p : PV n E U T A d' v) : ∀ s, s < n → x s ≤ v s := by
  have lost : ∀ s, On U s → ¬ Rch E (Up U d') T s → x s ≤ 0 := fun s o nr => Classical.byContradiction fun no => by
    obtain ⟨m, hm, ⟨t, ct, et⟩, _, st⟩ := argset (n := n) (C := fun s => On U s ∧ ¬ Rch E (Up U d') T s) (F := fun s j => E s (d' s) j) (B := fun s => A s (d' s)) (u := x) (b := 0)
      (fun s h => M.av s _ (ht s h.1)) (fun s h => M.lt s _ (ht s h.1)) (fun s h' j e => by
        have us := ht s h'.1
        have hj := M.en s _ j us e
        have nr : ¬ Rch E (Up U d') T j := fun r => h'.2 (.step ⟨us, rfl⟩ e r)
        by_cases c : On U j
        · exact .inl ⟨c, nr⟩
        · refine .inr ?_
          rw [h.off j hj (fun t => nr (.goal t)) c]
          exact Rat.le_refl) (fun s h' => h.lo s _ (ht s h'.1)) ⟨s, ⟨o, nr⟩, by grind⟩
    have go : ∀ (k : Nat) (y : Nat), r y < k → (On U y ∧ ¬ Rch E (Up U d') T y) → x y = m → False := by
      intro k
      induction k with
      | zero =>
        intro y lt c
        have := r0 y (M.lt y _ (ht y c.1))
        omega
      | succ k ih =>
        intro y lt c ey
        obtain ⟨j, e, q⟩ := h.rk y _ (ht y c.1) (by rw [ey]; exact hm)
        obtain ⟨z1, z2⟩ := (st y c ey).1 j e
        rcases q with q | q | q
        · exact z1.2 (.goal q)
        · rw [q] at z2
          grind
        · exact ih j (by omega) z1 z2
    exact go ((r t).toNat + 1) t (by omega) ct et
  intro s hs
  have := M.maxp (d := d') (u := fun j => x j - v j) (b := 0) (fun s h' => by
    have o : On U s := ⟨_, hp_u h'⟩
    rw [(M.av s _ (hp_u h')).sub, ← p.on M ht o]
    have := h.lo s _ (hp_u h')
    grind) (fun s hs h' => by
    show x s - v s ≤ 0
    by_cases t : T s
    · rw [p.tg s hs t, h.tg s hs t]; grind
    · have nr : ¬ Rch E (Up U d') T s := fun r => h' ⟨t, r⟩
      rw [p.no s hs nr]
      by_cases o : On U s
      · have := lost s o nr
        grind
      · rw [h.off s hs t o]; grind) s hs
  grind
theorem CertL.pol (M : Md n E U T A) (h : CertL n E U T A d r x) (r0 : ∀ s, s < n → 0 ≤ r s) (ht : Tot U d) (p : PV n E U T A d v) : ∀ s, s < n → v s = x s := by
  intro s hs
  have l1 := h.best M r0 ht p s hs
  have := M.maxp (d := d) (u := fun j => v j - x j) (b := 0) (fun s h' => by
    have o : On U s := ⟨_, hp_u h'⟩
    rw [(M.av s _ (hp_u h')).sub, ← p.on M ht o, h.eq s o]
    exact Rat.le_refl) (fun s hs h' => by
    show v s - x s ≤ 0
    by_cases t : T s
    · rw [p.tg s hs t, h.tg s hs t]; grind
    · rw [p.no s hs fun r => h' ⟨t, r⟩]
      have := (h.rng s hs).1
      grind) s hs
  grind
/-! what the search ends with -/
end
end Bo

/-! ### costs until targets -/
namespace Bo
/-- what is no more than its mean is no greater inside than where one comes out -/
theorem maxq {n : Nat} {D : Nat → Prop} {F : Nat → Nat → Prop} {B : Nat → (Nat → Rat) → Rat} {u : Nat → Rat} {b : Rat} (hA : ∀ s, D s → Av (F s) (B s)) (lt : ∀ s, D s → s < n) (cl : ∀ s, D s → ∀ j, F s j → D j ∨ u j ≤ b) (sub : ∀ s, D s → u s ≤ B s u) (rc : ∀ s, D s → Esc D F s) : ∀ s, D s → u s ≤ b := by
  intro s ds
  refine Classical.byContradiction fun no => ?_
  obtain ⟨m, hm, ⟨t, ct, et⟩, _, st⟩ := argset (b := b) hA lt cl sub ⟨s, ds, by grind⟩
  have go : ∀ x, Esc D F x → D x → u x = m → False := by
    intro x e
    induction e with
    | out h => exact fun d _ => h d
    | step f _ ih => exact fun d e => ih ((st _ d e).1 _ f).1 ((st _ d e).1 _ f).2
  exact go t (rc t ct) ct et
/-- inside the finite states -/
structure Mc (n : Nat) (E : Nat → Nat → Nat → Prop) (U : Nat → Nat → Prop) (T : Nat → Prop) (A : Nat → Nat → (Nat → Rat) → Rat) (c : Nat → Nat → Rat) : Prop extends Md n E U T A where
  cl : ∀ s k j, U s k → E s k j → T j ∨ On U j
  c0 : ∀ s k, U s k → 0 ≤ c s k
/-- what the policy d costs, which reaches the targets -/
structure PC (n : Nat) (E : Nat → Nat → Nat → Prop) (U : Nat → Nat → Prop) (T : Nat → Prop) (A : Nat → Nat → (Nat → Rat) → Rat) (c : Nat → Nat → Rat) (d : Nat → Nat) (v : Nat → Rat) : Prop where
  tg : ∀ s, s < n → T s → v s = 0
  eq : ∀ s, On U s → v s = c s (d s) + A s (d s) v
  pr : ∀ s, On U s → Rch E (Up U d) T s
section
variable {n : Nat} {E : Nat → Nat → Nat → Prop} {U : Nat → Nat → Prop} {T : Nat → Prop} {A : Nat → Nat → (Nat → Rat) → Rat} {c : Nat → Nat → Rat} {d d' : Nat → Nat} {v w x : Nat → Rat}
theorem on_esc (M : Mc n E U T A c) {s : Nat} (r : Rch E (Up U d) T s) : Esc (On U) (fun s j => E s (d s) j) s := by
  induction r with
  | goal t => exact .out fun ⟨k, h⟩ => M.nt _ k h t
  | step u e _ ih => exact .step (by rw [← u.2]; exact e) ih
theorem Mc.maxq (M : Mc n E U T A c) (ht : Tot U d) (pr : ∀ s, On U s → Rch E (Up U d) T s) {u : Nat → Rat} {b : Rat} (sub : ∀ s, On U s → u s ≤ A s (d s) u) (out : ∀ s, s < n → T s → u s ≤ b) : ∀ s, On U s → u s ≤ b :=
  Bo.maxq (n := n) (F := fun s j => E s (d s) j) (B := fun s => A s (d s)) (fun s h => M.av s _ (ht s h)) (fun s h => M.lt s _ (ht s h)) (fun s h j e => by
    rcases M.cl s _ j (ht s h) e with t | o
    · exact .inr (out j (M.en s _ j (ht s h) e) t)
    · exact .inl o) sub (fun s h => on_esc M (pr s h))
theorem PC.ge0 (M : Mc n E U T A c) (ht : Tot U d) (p : PC n E U T A c d v) : ∀ s, On U s → 0 ≤ v s := fun s hs => by
  have := M.maxq ht p.pr (u := fun j => - v j) (b := 0) (fun s h => by
    have := p.eq s h
    have := M.c0 s _ (ht s h)
    rw [(M.av s _ (ht s h)).neg]
    grind) (fun s hs t => by
    show - v s ≤ 0
    rw [p.tg s hs t]; grind) s hs
  grind
theorem PC.one (M : Mc n E U T A c) (ht : Tot U d) (p : PC n E U T A c d v) (q : PC n E U T A c d w) {s : Nat} (hs : On U s) : v s = w s := by
  have key : ∀ {v w : Nat → Rat}, PC n E U T A c d v → PC n E U T A c d w → v s - w s ≤ 0 := fun {v w} p q =>
    M.maxq ht p.pr (u := fun j => v j - w j) (b := 0) (fun s h => by
      rw [(M.av s _ (ht s h)).sub]
      have := p.eq s h
      have := q.eq s h
      grind) (fun s hs t => by
      show v s - w s ≤ 0
      rw [p.tg s hs t, q.tg s hs t]; grind) s hs
  have := key p q
  have := key q p
  grind
/-! certificates -/
structure CertC (most : Bool) (n : Nat) (E : Nat → Nat → Nat → Prop) (U : Nat → Nat → Prop) (T : Nat → Prop) (A : Nat → Nat → (Nat → Rat) → Rat) (c : Nat → Nat → Rat) (d : Nat → Nat) (r : Nat → Int) (x : Nat → Rat) : Prop where
  tg : ∀ s, s < n → T s → x s = 0
  us : ∀ s, On U s → U s (d s)
  eq : ∀ s, On U s → x s = c s (d s) + A s (d s) x
  rk : ∀ s, On U s → ∃ j, E s (d s) j ∧ (T j ∨ r j < r s)
  be : ∀ s k, U s k → if most then c s k + A s k x ≤ x s else x s ≤ c s k + A s k x
variable {r : Nat → Int} {most : Bool}
theorem CertC.pol (M : Mc n E U T A c) (h : CertC most n E U T A c d r x) (r0 : ∀ s, s < n → 0 ≤ r s) : PC n E U T A c d x where
  tg := h.tg
  eq := h.eq
  pr := by
    have go : ∀ (m : Nat) (s : Nat), r s < m → On U s → Rch E (Up U d) T s := by
      intro m
      induction m with
      | zero =>
        intro s lt o
        have := r0 s (M.lt s _ (h.us s o))
        omega
      | succ m ih =>
        intro s lt o
        obtain ⟨j, e, q⟩ := h.rk s o
        refine .step ⟨h.us s o, rfl⟩ e ?_
        rcases q with t | q
        · exact .goal t
        · rcases M.cl s _ j (h.us s o) e with t | oj
          · exact .goal t
          · exact ih j (by omega) oj
    exact fun s o => go ((r s).toNat + 1) s (by omega) o
/-- no more than any policy's, where this one comes to the targets -/
theorem CertC.le (M : Mc n E U T A c) (h : CertC false n E U T A c d r x) {D : Nat → Prop} (hD : ∀ s, D s → U s (d' s)) (cl : ∀ s j, D s → E s (d' s) j → T j ∨ D j) (rc : ∀ s, D s → Rch E (Up U d') T s) (tg : ∀ s, s < n → T s → v s = 0) (eq : ∀ s, D s → v s = c s (d' s) + A s (d' s) v) : ∀ s, D s → x s ≤ v s := by
  intro s hs
  have := maxq (n := n) (D := D) (F := fun s j => E s (d' s) j) (B := fun s => A s (d' s)) (u := fun j => x j - v j) (b := 0) (fun s h => M.av s _ (hD s h)) (fun s h => M.lt s _ (hD s h)) (fun s h' j e => by
    rcases cl s j h' e with t | o
    · refine .inr ?_
      have hj := M.en s _ j (hD s h') e
      rw [tg j hj t, h.tg j hj t]; grind
    · exact .inl o) (fun s h' => by
    rw [(M.av s _ (hD s h')).sub]
    have := eq s h'
    have : x s ≤ c s (d' s) + A s (d' s) x := h.be s _ (hD s h')
    grind) (fun s h' => by
    have r := rc s h'
    have go : ∀ {s}, Rch E (Up U d') T s → Esc D (fun s j => E s (d' s) j) s := fun {s} r => by
      induction r with
      | goal t => exact .out fun h => M.nt _ _ (hD _ h) t
      | step u e _ ih => exact .step (by rw [← u.2]; exact e) ih
    exact go r) s hs
  grind
theorem CertC.ge (M : Mc n E U T A c) (h : CertC true n E U T A c d r x) (ht : Tot U d') (p : PC n E U T A c d' v) : ∀ s, On U s → v s ≤ x s := by
  intro s hs
  have := M.maxq ht p.pr (u := fun j => v j - x j) (b := 0) (fun s o => by
    rw [(M.av s _ (ht s o)).sub]
    have := p.eq s o
    have : c s (d' s) + A s (d' s) x ≤ x s := h.be s _ (ht s o)
    grind) (fun s hs t => by
    show v s - x s ≤ 0
    rw [p.tg s hs t, h.tg s hs t]; grind) s hs
  grind
end
end Bo

/-! ### costs in the long run -/
namespace Bo
structure Ma (n : Nat) (E : Nat → Nat → Nat → Prop) (U : Nat → Nat → Prop) (A : Nat → Nat → (Nat → Rat) → Rat) : Prop where
  av : ∀ s k, U s k → Av (E s k) (A s k)
  lt : ∀ s k, U s k → s < n
  en : ∀ s k j, U s k → E s k j → j < n
/-- gains and potentials of the policy d -/
structure AV (n : Nat) (A : Nat → Nat → (Nat → Rat) → Rat) (c : Nat → Nat → Rat) (d : Nat → Nat) (g h : Nat → Rat) : Prop where
  gain : ∀ s, s < n → g s = A s (d s) g
  pot : ∀ s, s < n → g s + h s = c s (d s) + A s (d s) h
section
variable {n : Nat} {E : Nat → Nat → Nat → Prop} {U : Nat → Nat → Prop} {A : Nat → Nat → (Nat → Rat) → Rat} {c : Nat → Nat → Rat} {d d' : Nat → Nat} {g h g' h' : Nat → Rat}
/-- in a closed set nothing grows at each step -/
theorem no_drift {C : Nat → Prop} {F : Nat → Nat → Prop} {B : Nat → (Nat → Rat) → Rat} {w : Nat → Rat} {m : Rat} (hA : ∀ s, C s → Av (F s) (B s)) (lt : ∀ s, C s → s < n) (cl : ∀ s j, C s → F s j → C j) (ne : ∃ s, C s) (hm : 0 < m) : ¬ ∀ s, C s → m + w s ≤ B s w := fun q => by
  obtain ⟨s, cs⟩ := ne
  obtain ⟨i, hi, ci, mx⟩ := amax w C n ⟨s, lt s cs, cs⟩
  have le := (hA i ci).le w (fun _ => w i) fun j e => mx j (lt j (cl i j ci e)) (cl i j ci e)
  rw [(hA i ci).one] at le
  have := q i ci
  grind
/-- what is told of gains by any potentials: the set where g exceeds g' -/
theorem gain_le (M : Ma n E U A) (hd : ∀ s, s < n → U s (d s)) (sub : ∀ s, s < n → g s - g' s ≤ A s (d s) (fun j => g j - g' j)) (pot : ∀ s, s < n → A s (d s) (fun j => g j - g' j) = g s - g' s → (g s - g' s) + (h s - h' s) ≤ A s (d s) (fun j => h j - h' j)) : ∀ s, s < n → g s ≤ g' s := by
  intro s hs
  refine Classical.byContradiction fun no => ?_
  obtain ⟨m, hm, ⟨t, ct, et⟩, _, st⟩ := argset (n := n) (C := fun s => s < n) (F := fun s j => E s (d s) j) (B := fun s => A s (d s)) (u := fun j => g j - g' j) (b := 0)
    (fun s h => M.av s _ (hd s h)) (fun s h => h) (fun s h j e => .inl (M.en s _ j (hd s h) e)) sub ⟨s, hs, by grind⟩
  refine no_drift (n := n) (C := fun s => s < n ∧ g s - g' s = m) (F := fun s j => E s (d s) j) (B := fun s => A s (d s)) (w := fun j => h j - h' j) (m := m) (fun s q => M.av s _ (hd s q.1)) (fun s q => q.1) (fun s j q e => (st s q.1 q.2).1 j e) ⟨t, ct, et⟩ hm fun s q => ?_
  have := pot s q.1 (by rw [(st s q.1 q.2).2, q.2])
  rw [q.2] at this
  exact this
theorem AV.one (M : Ma n E U A) (hd : ∀ s, s < n → U s (d s)) (p : AV n A c d g h) (q : AV n A c d g' h') {s : Nat} (hs : s < n) : g s = g' s := by
  have key : ∀ {g h g' h' : Nat → Rat}, AV n A c d g h → AV n A c d g' h' → g s ≤ g' s := fun {g h g' h'} p q =>
    gain_le (h := h) (h' := h') M hd (fun s hs => by
      rw [(M.av s _ (hd s hs)).sub]
      have := p.gain s hs
      have := q.gain s hs
      grind) (fun s hs _ => by
      rw [(M.av s _ (hd s hs)).sub]
      have := p.pot s hs
      have := q.pot s hs
      grind) s hs
  exact Rat.le_antisymm (key p q) (key q p)
/-- signs: for the greatest 1, for the least -1 -/
def sgn (most : Bool) : Rat := if most then 1 else -1
/-- an improvement: `most` greater, else less -/
structure Imp (most : Bool) (n : Nat) (A : Nat → Nat → (Nat → Rat) → Rat) (c : Nat → Nat → Rat) (d d' : Nat → Nat) (g h : Nat → Rat) : Prop where
  gain : ∀ s, s < n → sgn most * g s ≤ sgn most * A s (d' s) g
  pot : ∀ s, s < n → A s (d' s) g = g s → sgn most * (g s + h s) ≤ sgn most * (c s (d' s) + A s (d' s) h)
  same : ∀ s, s < n → A s (d' s) g = g s → c s (d' s) + A s (d' s) h = g s + h s → d' s = d s
theorem sgn_cases (most : Bool) : sgn most = 1 ∨ sgn most = -1 := by cases most <;> simp [sgn]
theorem Imp.ge {most : Bool} (M : Ma n E U A) (hd' : ∀ s, s < n → U s (d' s)) (q : AV n A c d' g' h') (i : Imp most n A c d d' g h) : ∀ s, s < n → sgn most * g s ≤ sgn most * g' s := by
  refine gain_le (g := fun s => sgn most * g s) (g' := fun s => sgn most * g' s) (h := fun s => sgn most * h s) (h' := fun s => sgn most * h' s) M hd' (fun s hs => ?_) fun s hs e => ?_
  · have av := M.av s _ (hd' s hs)
    have e1 : (fun j => sgn most * g j - sgn most * g' j) = fun j => sgn most * g j + (- sgn most) * g' j := funext fun j => by grind
    rw [e1, av.lin]
    have := i.gain s hs
    have := q.gain s hs
    grind
  · have av := M.av s _ (hd' s hs)
    have e1 : (fun j => sgn most * g j - sgn most * g' j) = fun j => sgn most * g j + (- sgn most) * g' j := funext fun j => by grind
    have e2 : (fun j => sgn most * h j - sgn most * h' j) = fun j => sgn most * h j + (- sgn most) * h' j := funext fun j => by grind
    rw [e1, av.lin] at e
    rw [e2, av.lin]
    have g1 := q.gain s hs
    have p1 := q.pot s hs
    have eg : A s (d' s) g = g s := by
      rcases sgn_cases most with z | z <;> rw [z] at e <;> grind
    have := i.pot s hs eg
    rcases sgn_cases most with z | z <;> rw [z] at this ⊢ <;> grind
/-- if the gains stay, the potentials grow: told of potentials that are nothing in the least states of closed classes -/
inductive Rd (E : Nat → Nat → Nat → Prop) (d : Nat → Nat) (s : Nat) : Nat → Prop
  | rf : Rd E d s s
  | st {j k : Nat} : Rd E d s j → E j (d j) k → Rd E d s k
theorem Rd.trans {s t u : Nat} (p : Rd E d s t) (q : Rd E d t u) : Rd E d s u := by
  induction q with
  | rf => exact p
  | st _ e ih => exact .st ih e
theorem Rd.in_ {C : Nat → Prop} (cl : ∀ s j, C s → E s (d s) j → C j) {s t : Nat} (hs : C s) (r : Rd E d s t) : C t := by
  induction r with
  | rf => exact hs
  | st _ e ih => exact cl _ _ ih e
theorem Rd.same {C : Nat → Prop} (cl : ∀ s j, C s → E s (d s) j → C j) (e : ∀ s, C s → d' s = d s) {s t : Nat} (hs : C s) (r : Rd E d s t) : Rd E d' s t := by
  induction r with
  | rf => exact .rf
  | st r q ih => exact .st ih (by rw [e _ (r.in_ cl hs)]; exact q)
/-! certificates -/
structure CertA (most : Bool) (n : Nat) (U : Nat → Nat → Prop) (A : Nat → Nat → (Nat → Rat) → Rat) (c : Nat → Nat → Rat) (d : Nat → Nat) (g h : Nat → Rat) : Prop where
  av : AV n A c d g h
  gain : ∀ s k, U s k → sgn most * A s k g ≤ sgn most * g s
  pot : ∀ s k, U s k → A s k g = g s → sgn most * (c s k + A s k h) ≤ sgn most * (g s + h s)
theorem CertA.best {most : Bool} (M : Ma n E U A) (hd' : ∀ s, s < n → U s (d' s)) (q : AV n A c d' g' h') (i : CertA most n U A c d g h) : ∀ s, s < n → sgn most * g' s ≤ sgn most * g s := by
  refine gain_le (g := fun s => sgn most * g' s) (g' := fun s => sgn most * g s) (h := fun s => sgn most * h' s) (h' := fun s => sgn most * h s) M hd' (fun s hs => ?_) fun s hs e => ?_
  · have av := M.av s _ (hd' s hs)
    have e1 : (fun j => sgn most * g' j - sgn most * g j) = fun j => sgn most * g' j + (- sgn most) * g j := funext fun j => by grind
    rw [e1, av.lin]
    have := i.gain s _ (hd' s hs)
    have := q.gain s hs
    grind
  · have av := M.av s _ (hd' s hs)
    have e1 : (fun j => sgn most * g' j - sgn most * g j) = fun j => sgn most * g' j + (- sgn most) * g j := funext fun j => by grind
    have e2 : (fun j => sgn most * h' j - sgn most * h j) = fun j => sgn most * h' j + (- sgn most) * h j := funext fun j => by grind
    rw [e1, av.lin] at e
    rw [e2, av.lin]
    have g1 := q.gain s hs
    have p1 := q.pot s hs
    have eg : A s (d' s) g = g s := by
      rcases sgn_cases most with z | z <;> rw [z] at e <;> grind
    have := i.pot s _ (hd' s hs) eg
    rcases sgn_cases most with z | z <;> rw [z] at this ⊢ <;> grind
end
end Bo

/-! ### means over choices; what is settled, as equations; one denominator for all -/
namespace Bo
open PySem L2
/-- the mean over ends -/
def mu (es : List (Int × Int)) (X : Nat → Rat) : Rat := mX (wsum es) X es
end Bo

/-! ### chains: how great the numbers of the equations are -/
namespace Bo
open PySem L2
end Bo

namespace Bo
open PySem L2
local macro_rules | `(tactic| walk_at "wv1") => `(tactic| (first
  | ((with_reducible refine w_var (d := ?wd) ?wh ?wq); (case wh => exact rfl))
  | with_reducible refine w_cons ?_
  | with_reducible refine w_nil ?_
  | with_reducible refine w_op ?_
  | with_reducible refine w_c ?_
  | with_reducible refine w_aName ?_
  | with_reducible refine w_seq ?_
  | with_reducible refine w_asg ?_
  | with_reducible refine w_toB ?_
  | with_reducible refine w_callP ?_
  | with_reducible refine w_tst ?_
  | with_reducible refine w_gIxT ?_
  | with_reducible refine w_call ?_
  | with_reducible refine w_ret ?_
  | with_reducible refine w_ifS ?_
  | with_reducible refine w_next ?_
  | ((with_reducible refine w_own (ds := ?wd) ?wh ?wq); (case wh => exact rfl))
  | with_reducible refine w_for ?_
  | with_reducible refine w_fr ?_
  | with_reducible refine w_lc ?_
  | with_reducible refine w_tup ?_
  | with_reducible refine w_iter ?_
  | with_reducible refine w_itFT ?_
  | with_reducible refine w_aCons ?_
  | with_reducible refine w_gIxL ?_
  | with_reducible refine w_tnot ?_
  | with_reducible refine w_tor ?_
  | with_reducible refine w_range1 ?_
  | with_reducible refine w_yes ?_
  | with_reducible refine w_itTT ?_
  | with_reducible refine w_iterT ?_
  | with_reducible refine w_lst ?_
  | with_reducible refine w_toI ?_
  | with_reducible refine w_ownS ?_
  | with_reducible refine w_aTup rfl ?_
  | with_reducible refine w_aNil ?_
  | ((with_reducible refine w_frz (ds := ?wd) ?wh ?wq); (case wh => exact rfl))
  | with_reducible refine w_itT ?_
  | with_reducible refine w_tand ?_
  | with_reducible refine w_gEqI ?_
  | with_reducible refine w_gNeI ?_
  | with_reducible refine w_gLenT ?_
  | with_reducible refine w_lstF ?_
  | with_reducible refine w_callB ?_
  | with_reducible refine w_app ?_
  | with_reducible refine w_setI ?_
  | with_reducible refine w_gNeD ?_
  | with_reducible refine w_gEqD ?_
  | with_reducible refine w_drop ?_
  | with_reducible refine w_gIB ?_
  | with_reducible refine w_gBools ?_
  | with_reducible refine w_and ?_
  | with_reducible refine w_isN ?_
  | with_reducible refine w_or ?_
  | with_reducible refine w_ixO ?_
  | with_reducible refine w_gI ?_
  | with_reducible refine w_gLenL ?_
  | with_reducible refine w_gTuple ?_
  | with_reducible refine w_gInts ?_
  | with_reducible refine w_un ?_
  | with_reducible refine w_if ?_
  | with_reducible refine w_chain ?_
  | ((with_reducible refine w_callS (ns := ?wd) ?wh ?wq); (case wh => exact rfl))
  | with_reducible refine w_sl ?_
  | with_reducible refine w_noPart ?_
  | with_reducible refine w_part ?_
  | with_reducible refine w_listRg ?_
  | with_reducible refine w_enumK ?_
  | with_reducible refine w_repF ?_
  | with_reducible refine w_gIC ?_
  | with_reducible refine w_gCat ?_
  | with_reducible refine w_gCatT ?_
  | with_reducible refine w_notN ?_
  | with_reducible refine w_listF ?_
  | with_reducible refine w_neg ?_
  | with_reducible refine w_not ?_
  | with_reducible refine w_tru ?_
  | with_reducible refine w_callL ?_
  | with_reducible refine w_consO ?_
  | with_reducible refine w_lenO ?_
  | with_reducible refine w_tupleO ?_
  | with_reducible refine w_listO ?_
  | with_reducible refine w_inO ?_
  | with_reducible refine w_truO ?_
  | with_reducible refine w_zipK ?_
  | with_reducible refine w_retN ?_
  | ((with_reducible refine w_aug (a := ?wd) ?wh ?wq); (case wh => exact rfl))
  | with_reducible refine w_gInL ?_
  | with_reducible refine w_gIntI ?_
  | with_reducible refine w_gRevL ?_
  | with_reducible refine w_gSlL ?_
  | with_reducible refine w_gSlT ?_
  | with_reducible refine w_itF ?_
  | with_reducible refine w_gList ?_
  | with_reducible refine w_gSortI ?_
  | with_reducible refine w_range2 ?_
  | ((with_reducible refine w_lcO (ds := ?wd) ?wh ?wq ?wr); (case wh => exact rfl); (case wq => exact rfl))
  | with_reducible refine w_aUnl rfl ?_
  | with_reducible refine w_brk ?_
  | with_reducible refine w_cnt ?_
  | with_reducible refine w_gIntB ?_
  | simp only [wipeS, backS, List.set_cons_zero, List.set_cons_succ, List.getElem?_cons_zero, List.getElem?_cons_succ, Option.join_some, Option.join_none, Bool.not_true, Bool.not_false]))
local macro_rules | `(tactic| walk_at "wv") => `(tactic| ((repeat (walk_at "wv1"; try dsimp only)); try simp only [List.set_cons_zero, List.set_cons_succ]))
local macro_rules | `(tactic| walk_at "st") => `(tactic| simp only [startS, List.map_cons, List.map_nil, List.length_cons, List.length_nil, Nat.reduceAdd, Nat.reduceSub, List.replicate_succ, List.replicate_zero, List.cons_append, List.nil_append])

section
/-! ### backward through a chain -/
open PySem L2
def EG (z : List (List (Int × Int))) (i _k j : Nat) : Prop := ∃ es e, z[i]? = some es ∧ e ∈ es ∧ e.1 = ((j : Nat) : Int)
def Rb (z : List (List (Int × Int))) (rest known : List Nat) : Nat → Prop := Rch (EG z) (fun i k => i ∈ rest ∧ k = 0) (· ∈ known)
structure GOk (n : Nat) (z : List (List (Int × Int))) : Prop where
  len : z.length = n
  le : n ≤ 20
  es : ∀ es ∈ z, es.length ≤ 1000 ∧ ∀ e ∈ es, 0 ≤ e.1
section
variable {z : List (List (Int × Int))} {rest known F F' : List Nat} {n x : Nat} {es : List (Int × Int)}
end

end
section
/-! ### k16: the law's chain, and what it fills in -/
open PySem L2

end
section
/-! ### k16: what the law fills in -/
open PySem L2

end
end Bo
namespace Bo
open PySem L2
noncomputable section
end
end Bo

namespace Bo
open PySem L2
local macro_rules | `(tactic| walk_at "wv1") => `(tactic| (first
  | ((with_reducible refine w_var (d := ?wd) ?wh ?wq); (case wh => exact rfl))
  | with_reducible refine w_cons ?_
  | with_reducible refine w_nil ?_
  | with_reducible refine w_op ?_
  | with_reducible refine w_c ?_
  | with_reducible refine w_aName ?_
  | with_reducible refine w_seq ?_
  | with_reducible refine w_asg ?_
  | with_reducible refine w_toB ?_
  | with_reducible refine w_callP ?_
  | with_reducible refine w_tst ?_
  | with_reducible refine w_gIxT ?_
  | with_reducible refine w_call ?_
  | with_reducible refine w_ret ?_
  | with_reducible refine w_ifS ?_
  | with_reducible refine w_next ?_
  | ((with_reducible refine w_own (ds := ?wd) ?wh ?wq); (case wh => exact rfl))
  | with_reducible refine w_for ?_
  | with_reducible refine w_fr ?_
  | with_reducible refine w_lc ?_
  | with_reducible refine w_tup ?_
  | with_reducible refine w_iter ?_
  | with_reducible refine w_itFT ?_
  | with_reducible refine w_aCons ?_
  | with_reducible refine w_gIxL ?_
  | with_reducible refine w_tnot ?_
  | with_reducible refine w_tor ?_
  | with_reducible refine w_range1 ?_
  | with_reducible refine w_yes ?_
  | with_reducible refine w_itTT ?_
  | with_reducible refine w_iterT ?_
  | with_reducible refine w_lst ?_
  | with_reducible refine w_toI ?_
  | with_reducible refine w_ownS ?_
  | with_reducible refine w_aTup rfl ?_
  | with_reducible refine w_aNil ?_
  | ((with_reducible refine w_frz (ds := ?wd) ?wh ?wq); (case wh => exact rfl))
  | with_reducible refine w_itT ?_
  | with_reducible refine w_tand ?_
  | with_reducible refine w_gEqI ?_
  | with_reducible refine w_gNeI ?_
  | with_reducible refine w_gLenT ?_
  | with_reducible refine w_lstF ?_
  | with_reducible refine w_callB ?_
  | with_reducible refine w_app ?_
  | with_reducible refine w_setI ?_
  | with_reducible refine w_gNeD ?_
  | with_reducible refine w_gEqD ?_
  | with_reducible refine w_drop ?_
  | with_reducible refine w_gIB ?_
  | with_reducible refine w_gBools ?_
  | with_reducible refine w_and ?_
  | with_reducible refine w_isN ?_
  | with_reducible refine w_or ?_
  | with_reducible refine w_ixO ?_
  | with_reducible refine w_gI ?_
  | with_reducible refine w_gLenL ?_
  | with_reducible refine w_gTuple ?_
  | with_reducible refine w_gInts ?_
  | with_reducible refine w_un ?_
  | with_reducible refine w_if ?_
  | with_reducible refine w_chain ?_
  | ((with_reducible refine w_callS (ns := ?wd) ?wh ?wq); (case wh => exact rfl))
  | with_reducible refine w_sl ?_
  | with_reducible refine w_noPart ?_
  | with_reducible refine w_part ?_
  | with_reducible refine w_listRg ?_
  | with_reducible refine w_enumK ?_
  | with_reducible refine w_repF ?_
  | with_reducible refine w_gIC ?_
  | with_reducible refine w_gCat ?_
  | with_reducible refine w_gCatT ?_
  | with_reducible refine w_notN ?_
  | with_reducible refine w_listF ?_
  | with_reducible refine w_neg ?_
  | with_reducible refine w_not ?_
  | with_reducible refine w_tru ?_
  | with_reducible refine w_callL ?_
  | with_reducible refine w_consO ?_
  | with_reducible refine w_lenO ?_
  | with_reducible refine w_tupleO ?_
  | with_reducible refine w_listO ?_
  | with_reducible refine w_inO ?_
  | with_reducible refine w_truO ?_
  | with_reducible refine w_zipK ?_
  | with_reducible refine w_retN ?_
  | ((with_reducible refine w_aug (a := ?wd) ?wh ?wq); (case wh => exact rfl))
  | with_reducible refine w_gInL ?_
  | with_reducible refine w_gIntI ?_
  | with_reducible refine w_gRevL ?_
  | with_reducible refine w_gSlL ?_
  | with_reducible refine w_gSlT ?_
  | with_reducible refine w_itF ?_
  | with_reducible refine w_gList ?_
  | with_reducible refine w_gSortI ?_
  | with_reducible refine w_range2 ?_
  | ((with_reducible refine w_lcO (ds := ?wd) ?wh ?wq ?wr); (case wh => exact rfl); (case wq => exact rfl))
  | with_reducible refine w_aUnl rfl ?_
  | with_reducible refine w_brk ?_
  | with_reducible refine w_cnt ?_
  | with_reducible refine w_gIntB ?_
  | simp only [wipeS, backS, List.set_cons_zero, List.set_cons_succ, List.getElem?_cons_zero, List.getElem?_cons_succ, Option.join_some, Option.join_none, Bool.not_true, Bool.not_false]))
local macro_rules | `(tactic| walk_at "wv") => `(tactic| ((repeat (walk_at "wv1"; try dsimp only)); try simp only [List.set_cons_zero, List.set_cons_succ]))
local macro_rules | `(tactic| walk_at "st") => `(tactic| simp only [startS, List.map_cons, List.map_nil, List.length_cons, List.length_nil, Nat.reduceAdd, Nat.reduceSub, List.replicate_succ, List.replicate_zero, List.cons_append, List.nil_append])

section
/-! ### k16: the chances, by the program and by the law -/
open PySem L2
theorem rep_flat {α : Type} (x : α) : ∀ m, (List.replicate m [x]).flatten = List.replicate m x
  | 0 => rfl
  | m + 1 => by rw [List.replicate_succ, List.flatten_cons, rep_flat x m]; rfl

end
section
/-! ### thin systems -/
open PySem L2
local macro_rules | `(tactic| walk_at "ev0") => `(tactic| simp only [okTo_bind, okTo_ok, okTo_noErr, okTo_when, R.bind_ok, seqF, vAsg, vVar, vC, vOp, vUn, vCall, vCons, vNil, vTup, vLst, vFr, vLstF, vTst, toB, toI, gI, gIC, gIB, gNeg, gInt, gLen, gEq, gNe, eqF, vAnd, vOr, vNot, tNotF, vYes, gTuple, gList, gRevL, wipeS, backS, okS, vIfS, vIf, vNext, vRet, vRetN, vDrop, vOwn, vFrz, frzS, aName, vFor, vScr, vRange1, vApp, ownD, vIxO, vSetI, gIxL, gIxT, vInO, vCallP, vCallB, vTupleO, vListO, vLenO, vLc, List.getElem?_cons_zero, List.getElem?_cons_succ, List.set_cons_zero, List.set_cons_succ, List.length_cons, List.length_nil, startS, List.map_cons, List.map_nil, List.replicate_succ, List.replicate_zero, List.cons_append, List.nil_append, denP, denB, denS, endP, endB, Nat.sub_self, Nat.reduceSub, Nat.reduceAdd, List.all_cons, List.all_nil, Bool.and_true, SV.mine, Bool.not_false, Option.join_some, true_and, and_true])

end
end Bo
/-! ### the kinds of systems that are drawn, and their chains -/
namespace Bo
open PySem L2
structure Kind (y : List (List Cho)) : Prop where
  ex : ∃ q c Wm : Nat, SysOk q c y ∧ c ≤ 20 ∧ 1 ≤ Wm ∧ Wm < 2 ^ 100 ∧ (∀ s ∈ y, ∀ c ∈ s, wsum c.2 ≤ (Wm : Int)) ∧ ∀ m, m ≤ y.length → bigM m Wm Wm * Wm < 2 ^ 200
end Bo

namespace Bo
open PySem L2
local macro_rules | `(tactic| walk_at "wv1") => `(tactic| (first
  | ((with_reducible refine w_var (d := ?wd) ?wh ?wq); (case wh => exact rfl))
  | with_reducible refine w_cons ?_
  | with_reducible refine w_nil ?_
  | with_reducible refine w_op ?_
  | with_reducible refine w_c ?_
  | with_reducible refine w_aName ?_
  | with_reducible refine w_seq ?_
  | with_reducible refine w_asg ?_
  | with_reducible refine w_toB ?_
  | with_reducible refine w_callP ?_
  | with_reducible refine w_tst ?_
  | with_reducible refine w_then ?_
  | with_reducible refine w_gIxT ?_
  | with_reducible refine w_call ?_
  | with_reducible refine w_ret ?_
  | with_reducible refine w_ifS ?_
  | with_reducible refine w_next ?_
  | ((with_reducible refine w_own (ds := ?wd) ?wh ?wq); (case wh => exact rfl))
  | with_reducible refine w_for ?_
  | with_reducible refine w_fr ?_
  | with_reducible refine w_lc ?_
  | with_reducible refine w_tup ?_
  | with_reducible refine w_iter ?_
  | with_reducible refine w_itFT ?_
  | with_reducible refine w_aCons ?_
  | with_reducible refine w_gIxL ?_
  | with_reducible refine w_tnot ?_
  | with_reducible refine w_pre ?_
  | ((with_reducible refine w_dic (kvs := ?wd) ?wh ?wq); (case wh => exact rfl))
  | with_reducible refine w_tor ?_
  | with_reducible refine w_range1 ?_
  | with_reducible refine w_yes ?_
  | with_reducible refine w_itTT ?_
  | with_reducible refine w_iterT ?_
  | with_reducible refine w_lst ?_
  | with_reducible refine w_toI ?_
  | with_reducible refine w_ownS ?_
  | with_reducible refine w_aTup rfl ?_
  | with_reducible refine w_aNil ?_
  | ((with_reducible refine w_frz (ds := ?wd) ?wh ?wq); (case wh => exact rfl))
  | with_reducible refine w_itT ?_
  | with_reducible refine w_callD ?_
  | with_reducible refine w_tand ?_
  | with_reducible refine w_gEqI ?_
  | with_reducible refine w_gNeI ?_
  | with_reducible refine w_gLenT ?_
  | with_reducible refine w_lstF ?_
  | with_reducible refine w_callB ?_
  | with_reducible refine w_app ?_
  | with_reducible refine w_setI ?_
  | with_reducible refine w_drop ?_
  | with_reducible refine w_gIB ?_
  | with_reducible refine w_gBools ?_
  | with_reducible refine w_and ?_
  | with_reducible refine w_isN ?_
  | with_reducible refine w_or ?_
  | with_reducible refine w_ixO ?_
  | with_reducible refine w_gI ?_
  | with_reducible refine w_gLenL ?_
  | with_reducible refine w_gTuple ?_
  | with_reducible refine w_gInts ?_
  | ((with_reducible refine w_newS (ns := ?wd) ?wh ?wq); (case wh => exact rfl))
  | with_reducible refine w_un ?_
  | with_reducible refine w_if ?_
  | with_reducible refine w_chain ?_
  | ((with_reducible refine w_callS (ns := ?wd) ?wh ?wq); (case wh => exact rfl))
  | with_reducible refine w_sl ?_
  | with_reducible refine w_noPart ?_
  | with_reducible refine w_part ?_
  | with_reducible refine w_listRg ?_
  | with_reducible refine w_enumK ?_
  | with_reducible refine w_repF ?_
  | with_reducible refine w_gIC ?_
  | with_reducible refine w_gCat ?_
  | with_reducible refine w_gCatT ?_
  | with_reducible refine w_notN ?_
  | with_reducible refine w_listF ?_
  | with_reducible refine w_neg ?_
  | with_reducible refine w_gIsB ?_
  | with_reducible refine w_not ?_
  | with_reducible refine w_tru ?_
  | with_reducible refine w_callL ?_
  | with_reducible refine w_consO ?_
  | with_reducible refine w_lenO ?_
  | with_reducible refine w_tupleO ?_
  | with_reducible refine w_listO ?_
  | with_reducible refine w_inO ?_
  | with_reducible refine w_truO ?_
  | with_reducible refine w_zipK ?_
  | with_reducible refine w_retN ?_
  | ((with_reducible refine w_aug (a := ?wd) ?wh ?wq); (case wh => exact rfl))
  | with_reducible refine w_gInL ?_
  | with_reducible refine w_gIntI ?_
  | with_reducible refine w_gRevL ?_
  | with_reducible refine w_gSlL ?_
  | with_reducible refine w_gSlT ?_
  | with_reducible refine w_itF ?_
  | with_reducible refine w_gList ?_
  | with_reducible refine w_gSortI ?_
  | with_reducible refine w_range2 ?_
  | ((with_reducible refine w_lcO (ds := ?wd) ?wh ?wq ?wr); (case wh => exact rfl); (case wq => exact rfl))
  | with_reducible refine w_aUnl rfl ?_
  | with_reducible refine w_brk ?_
  | with_reducible refine w_cnt ?_
  | with_reducible refine w_gIntB ?_
  | with_reducible refine w_getD ?_
  | with_reducible refine w_keyS ?_
  | with_reducible refine w_keyI ?_
  | with_reducible refine w_putD ?_
  | with_reducible refine w_ownCallD ?_
  | with_reducible refine w_callDF ?_
  | with_reducible refine w_gIxQL ?_
  | with_reducible refine w_gIxQT ?_
  | ((with_reducible refine w_revO (ds := ?wd) ?wh ?wq); (case wh => exact rfl))
  | ((with_reducible refine w_isNOd (d := ?wd) ?wh ?wq); (case wh => exact rfl))
  | ((with_reducible refine w_isNOo (ds := ?wd) ?wh ?wq); (case wh => exact rfl))
  | simp only [wipeS, backS, List.set_cons_zero, List.set_cons_succ, List.getElem?_cons_zero, List.getElem?_cons_succ, Option.join_some, Option.join_none, Bool.not_true, Bool.not_false]))
local macro_rules | `(tactic| walk_at "wv") => `(tactic| ((repeat (walk_at "wv1"; try dsimp only)); try simp only [List.set_cons_zero, List.set_cons_succ]))
local macro_rules | `(tactic| walk_at "st") => `(tactic| simp only [startS, List.map_cons, List.map_nil, List.length_cons, List.length_nil, Nat.reduceAdd, Nat.reduceSub, List.replicate_succ, List.replicate_zero, List.cons_append, List.nil_append])

section
/-! ### chances of policies as what they are worth -/
open PySem L2
theorem cAt_get {y : List (List Cho)} {i k : Nat} {st : List Cho} (h1 : y[i]? = some st) (h2 : k < st.length) : st[k]? = some (cAt y i k) := by
  unfold cAt
  have e : y.getD i [] = st := by rw [List.getD_eq_getElem?_getD, h1]; rfl
  rw [e, List.getD_eq_getElem?_getD, List.getElem?_eq_getElem h2]
  rfl
/-- numbers over one denominator -/
structure Num (n : Nat) (D : List Rat) : Prop where
  len : D.length = n
  pd : ∃ s u : Nat, s ≠ 0 ∧ s < 2 ^ 200 ∧ u < 2 ^ 200 ∧ ∀ i, Pd s u (D.getD i 0)

end
section
/-! ### fractions of the laws that draw out of boxes -/
open PySem L2
/-- behind i rounds of the search for a divisor, all of it in units of g -/
structure Eb (G g M i A B : Nat) : Prop where
  gc : Nat.gcd A B = G
  ga : g ∣ A
  gb : g ∣ B
  st : i = 0 → B * B < M
  on : 0 < i → B ≤ A ∧ 0 < A ∧ A * B * 2 ^ (i - 1) < M
  tw : 2 ≤ i → A * A * 2 ^ (i - 2) < M
theorem Eb.next {G g M i A B : Nat} (h : Eb G g M i A B) (hB : B ≠ 0) : Eb G g M (i + 1) B (A % B) := by
  have hp : 0 < B := Nat.pos_of_ne_zero hB
  have ml := Nat.mod_lt A hp
  refine ⟨by rw [← h.gc, Nat.gcd_comm B, ← Nat.gcd_rec, Nat.gcd_comm], h.gb, (Nat.dvd_mod_iff h.gb).mpr h.ga, fun z => by omega, fun _ => ⟨Nat.le_of_lt ml, hp, ?_⟩, fun hi => ?_⟩
  · rw [Nat.add_sub_cancel]
    by_cases hi : i = 0
    · subst hi
      rw [Nat.pow_zero, Nat.mul_one]
      exact Nat.lt_of_le_of_lt (Nat.mul_le_mul_left B (Nat.le_of_lt ml)) (h.st rfl)
    · obtain ⟨le, _, lt⟩ := h.on (by omega)
      obtain ⟨j, rfl⟩ : ∃ j, i = j + 1 := ⟨i - 1, by omega⟩
      rw [Nat.add_sub_cancel] at lt
      have two : 2 * (A % B) ≤ A := by
        have := Nat.div_add_mod A B
        have q : 1 ≤ A / B := Nat.div_pos le hp
        have : B ≤ B * (A / B) := Nat.le_mul_of_pos_right B q
        omega
      have e : B * (A % B) * 2 ^ (j + 1) = (2 * (A % B)) * B * 2 ^ j := by
        rw [Nat.pow_succ, Nat.mul_comm (2 ^ j) 2, Nat.mul_comm B, Nat.mul_assoc, Nat.mul_assoc, Nat.mul_assoc, Nat.mul_left_comm B 2, Nat.mul_left_comm]
      rw [e]
      exact Nat.lt_of_le_of_lt (Nat.mul_le_mul_right _ (Nat.mul_le_mul_right _ two)) lt
  · obtain ⟨le, _, lt⟩ := h.on (by omega)
    have e : i + 1 - 2 = i - 1 := by omega
    rw [e]
    exact Nat.lt_of_le_of_lt (Nat.mul_le_mul_right _ (Nat.mul_le_mul_right _ le)) lt
/-- numbers whose denominators go into s -/
structure Dn2 (s : Nat) (q : Rat) : Prop where
  dv : q.den ∣ s
  nm : q.num.natAbs < 2 ^ 2000
theorem Dn2.b4 {s : Nat} {q : Rat} (h : Dn2 s q) (s0 : s ≠ 0) (s1 : s < 2 ^ 199) : Bq4 q :=
  ⟨Nat.lt_trans h.nm (Nat.pow_lt_pow_right (by decide) (by decide)), Nat.lt_of_le_of_lt (Nat.le_of_dvd (Nat.pos_of_ne_zero s0) h.dv) (Nat.lt_trans s1 (Nat.pow_lt_pow_right (by decide) (by decide)))⟩

end
end Bo
/-! ### data of which == says that they are the same -/
namespace Bo
open PySem L2
theorem map_get {α β : Type} {f : α → β} {l : List α} {i : Nat} {d : β} (h : (l.map f)[i]? = some d) : ∃ a, l[i]? = some a ∧ d = f a := by
  rw [List.getElem?_map] at h
  obtain ⟨a, ha, rfl⟩ := Option.map_eq_some_iff.mp h
  exact ⟨a, ha, rfl⟩
theorem get_getD {α : Type} {l : List α} {i : Nat} (d : α) (h : i < l.length) : l[i]? = some (l.getD i d) := by
  rw [List.getD_eq_getElem?_getD, List.getElem?_eq_getElem h]
  rfl
/-- none, ints, texts, lists and tuples of such, n deep at most -/
def Pn : Nat → PyData → Prop
  | _, .none => True
  | _, .int _ => True
  | _, .str x => PyData.strOk x = true
  | n + 1, .list ds => ∀ d ∈ ds, Pn n d
  | n + 1, .tuple ds => ∀ d ∈ ds, Pn n d
  | _, _ => False
theorem pn_shp : ∀ {n : Nat} {d : PyData}, Pn n d → Shp n d := by
  intro n
  induction n with
  | zero =>
    intro d h
    cases d with
    | none => exact ⟨rfl, by simp [PyData.depth]⟩
    | int i => exact shp_int i
    | str x => exact ⟨by simp only [PyData.canLay0]; exact h, by simp [PyData.depth]⟩
    | bool b => exact h.elim
    | dict k => exact h.elim
    | list ds => exact h.elim
    | tuple ds => exact h.elim
  | succ n ih =>
    intro d h
    cases d with
    | none => exact ⟨rfl, by simp [PyData.depth]⟩
    | int i => exact shp_int i
    | str x => exact ⟨by simp only [PyData.canLay0]; exact h, by simp [PyData.depth]⟩
    | bool b => exact h.elim
    | dict k => exact h.elim
    | list ds => exact shp_list fun e he => ih (h e he)
    | tuple ds => exact shp_tuple fun e he => ih (h e he)
theorem eqv_all {P : PyData → Prop} : ∀ {xs ys : List PyData}, (∀ x ∈ xs, ∀ y ∈ ys, (PyData.eqv x y = true ↔ x = y)) → (PyData.eqvAll xs ys = true ↔ xs = ys)
  | [], [], _ => by simp [PyData.eqvAll]
  | [], _ :: _, _ => by simp [PyData.eqvAll]
  | _ :: _, [], _ => by simp [PyData.eqvAll]
  | x :: xs, y :: ys, h => by
    have ih := eqv_all (P := P) (xs := xs) (ys := ys) fun a ha b hb => h a (List.mem_cons_of_mem x ha) b (List.mem_cons_of_mem y hb)
    rw [PyData.eqvAll, Bool.and_eq_true, ih, h x List.mem_cons_self y List.mem_cons_self, List.cons.injEq]
theorem eqv_pn : ∀ {n : Nat} {d : PyData}, Pn n d → ∀ {m : Nat} {e : PyData}, Pn m e → (PyData.eqv d e = true ↔ d = e) := by
  intro n
  induction n with
  | zero =>
    intro d h m e g
    cases d <;> first | exact h.elim | skip
    all_goals cases e <;> cases m <;> first | exact g.elim | simp [PyData.eqv]
  | succ n ih =>
    intro d h m e g
    cases d with
    | bool b => exact h.elim
    | dict k => exact h.elim
    | none => cases e <;> cases m <;> first | exact g.elim | simp [PyData.eqv]
    | int i => cases e <;> cases m <;> first | exact g.elim | simp [PyData.eqv]
    | str x => cases e <;> cases m <;> first | exact g.elim | simp [PyData.eqv]
    | list ds =>
      cases e <;> cases m <;> first | exact g.elim | (simp [PyData.eqv]; done) | skip
      rename_i es m
      rw [PyData.eqv, eqv_all (P := fun _ => True) fun x hx y hy => ih (h x hx) (g y hy), PyData.list.injEq]
    | tuple ds =>
      cases e <;> cases m <;> first | exact g.elim | (simp [PyData.eqv]; done) | skip
      rename_i es m
      rw [PyData.eqv, eqv_all (P := fun _ => True) fun x hx y hy => ih (h x hx) (g y hy), PyData.tuple.injEq]
open Classical in
theorem eq_pn {n m : Nat} {d e : PyData} (h : Pn n d) (g : Pn m e) (hn : n ≤ 64) (hm : m ≤ 64) : gEqD d e = .ok (.bool (decide (d = e))) := by
  unfold gEqD
  rw [R.when_pos ⟨(pn_shp h).ok hn, (pn_shp g).ok hm⟩]
  congr 2
  by_cases c : d = e
  · rw [decide_eq_true c, (eqv_pn h g).mpr c]
  · rw [decide_eq_false c]
    cases q : PyData.eqv d e with
    | false => rfl
    | true => exact absurd ((eqv_pn h g).mp q) c
theorem pn_str {n : Nat} {x : Str} (h : PyData.strOk x = true) : Pn n (.str x) := by cases n <;> exact h
end Bo

namespace Bo
open PySem L2
local macro_rules | `(tactic| walk_at "wv1") => `(tactic| (first
  | ((with_reducible refine w_var (d := ?wd) ?wh ?wq); (case wh => exact rfl))
  | with_reducible refine w_cons ?_
  | with_reducible refine w_nil ?_
  | with_reducible refine w_op ?_
  | with_reducible refine w_c ?_
  | with_reducible refine w_aName ?_
  | with_reducible refine w_seq ?_
  | with_reducible refine w_asg ?_
  | with_reducible refine w_toB ?_
  | with_reducible refine w_callP ?_
  | with_reducible refine w_tst ?_
  | with_reducible refine w_then ?_
  | with_reducible refine w_gIxT ?_
  | with_reducible refine w_call ?_
  | with_reducible refine w_ret ?_
  | with_reducible refine w_ifS ?_
  | with_reducible refine w_next ?_
  | ((with_reducible refine w_own (ds := ?wd) ?wh ?wq); (case wh => exact rfl))
  | with_reducible refine w_for ?_
  | with_reducible refine w_fr ?_
  | with_reducible refine w_lc ?_
  | with_reducible refine w_tup ?_
  | with_reducible refine w_iter ?_
  | with_reducible refine w_itFT ?_
  | with_reducible refine w_aCons ?_
  | with_reducible refine w_gIxL ?_
  | with_reducible refine w_tnot ?_
  | with_reducible refine w_pre ?_
  | ((with_reducible refine w_dic (kvs := ?wd) ?wh ?wq); (case wh => exact rfl))
  | with_reducible refine w_tor ?_
  | with_reducible refine w_range1 ?_
  | with_reducible refine w_yes ?_
  | with_reducible refine w_itTT ?_
  | with_reducible refine w_iterT ?_
  | with_reducible refine w_lst ?_
  | with_reducible refine w_toI ?_
  | with_reducible refine w_ownS ?_
  | with_reducible refine w_aTup rfl ?_
  | with_reducible refine w_aNil ?_
  | ((with_reducible refine w_frz (ds := ?wd) ?wh ?wq); (case wh => exact rfl))
  | with_reducible refine w_itT ?_
  | with_reducible refine w_callD ?_
  | with_reducible refine w_tand ?_
  | with_reducible refine w_gEqI ?_
  | with_reducible refine w_gNeI ?_
  | with_reducible refine w_gLenT ?_
  | with_reducible refine w_lstF ?_
  | with_reducible refine w_callB ?_
  | with_reducible refine w_app ?_
  | with_reducible refine w_setI ?_
  | with_reducible refine w_drop ?_
  | with_reducible refine w_gIB ?_
  | with_reducible refine w_gBools ?_
  | with_reducible refine w_and ?_
  | with_reducible refine w_isN ?_
  | with_reducible refine w_or ?_
  | with_reducible refine w_ixO ?_
  | with_reducible refine w_gI ?_
  | with_reducible refine w_gLenL ?_
  | with_reducible refine w_gTuple ?_
  | with_reducible refine w_gInts ?_
  | ((with_reducible refine w_newS (ns := ?wd) ?wh ?wq); (case wh => exact rfl))
  | with_reducible refine w_un ?_
  | with_reducible refine w_if ?_
  | with_reducible refine w_chain ?_
  | ((with_reducible refine w_callS (ns := ?wd) ?wh ?wq); (case wh => exact rfl))
  | with_reducible refine w_sl ?_
  | with_reducible refine w_noPart ?_
  | with_reducible refine w_part ?_
  | with_reducible refine w_listRg ?_
  | with_reducible refine w_enumK ?_
  | with_reducible refine w_repF ?_
  | with_reducible refine w_gIC ?_
  | with_reducible refine w_gCat ?_
  | with_reducible refine w_gCatT ?_
  | with_reducible refine w_notN ?_
  | with_reducible refine w_listF ?_
  | with_reducible refine w_neg ?_
  | with_reducible refine w_gIsB ?_
  | with_reducible refine w_not ?_
  | with_reducible refine w_tru ?_
  | with_reducible refine w_callL ?_
  | with_reducible refine w_consO ?_
  | with_reducible refine w_lenO ?_
  | with_reducible refine w_tupleO ?_
  | with_reducible refine w_listO ?_
  | with_reducible refine w_inO ?_
  | with_reducible refine w_truO ?_
  | with_reducible refine w_zipK ?_
  | with_reducible refine w_retN ?_
  | ((with_reducible refine w_aug (a := ?wd) ?wh ?wq); (case wh => exact rfl))
  | with_reducible refine w_gInL ?_
  | with_reducible refine w_gIntI ?_
  | with_reducible refine w_gRevL ?_
  | with_reducible refine w_gSlL ?_
  | with_reducible refine w_gSlT ?_
  | with_reducible refine w_itF ?_
  | with_reducible refine w_gList ?_
  | with_reducible refine w_gSortI ?_
  | with_reducible refine w_range2 ?_
  | ((with_reducible refine w_lcO (ds := ?wd) ?wh ?wq ?wr); (case wh => exact rfl); (case wq => exact rfl))
  | with_reducible refine w_aUnl rfl ?_
  | with_reducible refine w_brk ?_
  | with_reducible refine w_cnt ?_
  | with_reducible refine w_gIntB ?_
  | with_reducible refine w_getD ?_
  | with_reducible refine w_keyS ?_
  | with_reducible refine w_keyI ?_
  | with_reducible refine w_putD ?_
  | with_reducible refine w_ownCallD ?_
  | with_reducible refine w_callDF ?_
  | with_reducible refine w_gIxQL ?_
  | with_reducible refine w_gIxQT ?_
  | ((with_reducible refine w_revO (ds := ?wd) ?wh ?wq); (case wh => exact rfl))
  | ((with_reducible refine w_isNOd (d := ?wd) ?wh ?wq); (case wh => exact rfl))
  | ((with_reducible refine w_isNOo (ds := ?wd) ?wh ?wq); (case wh => exact rfl))
  | simp only [wipeS, backS, List.set_cons_zero, List.set_cons_succ, List.getElem?_cons_zero, List.getElem?_cons_succ, Option.join_some, Option.join_none, Bool.not_true, Bool.not_false]))
local macro_rules | `(tactic| walk_at "wv") => `(tactic| ((repeat (walk_at "wv1"; try dsimp only)); try simp only [List.set_cons_zero, List.set_cons_succ]))
local macro_rules | `(tactic| walk_at "st") => `(tactic| simp only [startS, List.map_cons, List.map_nil, List.length_cons, List.length_nil, Nat.reduceAdd, Nat.reduceSub, List.replicate_succ, List.replicate_zero, List.cons_append, List.nil_append])

section
/-! ### systems, sets and means of the laws that draw out of boxes -/
open PySem L2
theorem snoc_get {α : Type} {l : List α} {x e : α} (h : e ∈ l ++ [x]) : e ∈ l ∨ e = x := by
  rcases List.mem_append.mp h with q | q
  · exact .inl q
  · exact .inr (List.mem_singleton.mp q)
/-- ends that are drawn: m at most -/
def EndB (n : Nat) (es : List (Int × Int)) : Prop := ∀ e ∈ es, (0 ≤ e.1 ∧ e.1 < (n : Int)) ∧ 1 ≤ e.2 ∧ e.2 ≤ 3
theorem b_ends_ok {m : Int} {n : Nat} {N : Int} {kvs : List (Key × PyData)} {k : PyData × List (Key × PyData) → Prop} (b : BoxK N kvs) (hn : 1 ≤ n ∧ n ≤ 20) (hm : 1 ≤ m ∧ m ≤ 20)
    (h : ∀ es kvs', es ≠ [] → (es.length : Int) ≤ m → EndB n es → (es.Pairwise fun x y => x.1 < y.1) → BoxK (N + 100) kvs' → k (.tuple (es.map prD), kvs')) : (den_b_endsN m kvs [.int (n : Nat)]).okTo k := by
  unfold den_b_endsN body_b_endsN
  refine w_denD ?_
  walk_at "st"
  walk_at "wv"
  refine ⟨by simp, ?_⟩
  walk_at "wv"
  refine ⟨_, rfl, ⟨by omega, by omega⟩, ?_⟩
  rw [Int.toNat_natCast]
  refine loop_ok (fun i S => ∃ kvs es, S = [some (.dic kvs), some (.dat (.int (n : Nat))), some (.own (es.map prD)), none] ∧ BoxK (N + 2 * i) kvs ∧ (es.length : Int) ≤ m ∧ EndB n es ∧ (∀ e ∈ es, e.1 < (i : Int)) ∧ es.Pairwise fun x y => x.1 < y.1) ?_ ?_ ⟨kvs, [], rfl, by simpa using b, by simp; omega, (fun _ h => nomatch h), (fun _ h => nomatch h), .nil⟩
  · rintro i d S hi ⟨kvs, es, rfl, b, lm, eb, lt, pw⟩
    obtain ⟨hin, rfl⟩ := rangeD_get hi
    rw [Int.zero_add]
    walk_at "wv"
    have up : (N + 2 * (i : Int)) + 2 = N + 2 * ((i + 1 : Nat) : Int) := by omega
    by_cases c : (es.length : Int) < m
    · rw [if_pos (by simpa using c)]
      walk_at "wv"
      refine ⟨rfl, b_next_ok b (by decide) fun r kvs1 _ _ b1 => ?_⟩
      walk_at "wv"
      by_cases q : r = 0
      · rw [if_pos (decide_eq_true q)]
        walk_at "wv"
        refine ⟨rfl, b_next_ok b1 (by decide) fun r2 kvs2 g0 g1 b2 => ?_⟩
        walk_at "wv"
        refine ⟨by simp, ?_⟩
        walk_at "wv"
        refine ⟨by rw [List.length_map]; omega, ?_⟩
        refine ⟨kvs2, es ++ [((i : Int), 1 + r2)], by rw [List.map_append]; rfl, by rw [← up]; exact b2.up (by omega), by rw [List.length_append, List.length_singleton]; omega, fun e he => ?_, fun e he => ?_, rise_app pw lt⟩
        · rcases snoc_get he with z | rfl
          · exact eb e z
          · exact ⟨⟨by omega, by show (i : Int) < n; omega⟩, by show 1 ≤ 1 + r2; omega, by show 1 + r2 ≤ 3; omega⟩
        · rcases snoc_get he with z | rfl
          · have := lt e z
            omega
          · show (i : Int) < _
            omega
      · rw [if_neg (by simpa using q)]
        walk_at "wv"
        exact ⟨kvs1, es, rfl, by rw [← up]; exact b1.up (by omega), lm, eb, fun e he => by have := lt e he; omega, pw⟩
    · rw [if_neg (by simpa using c)]
      walk_at "wv"
      exact ⟨kvs, es, rfl, by rw [← up]; exact b.up (by omega), lm, eb, fun e he => by have := lt e he; omega, pw⟩
  · rintro S ⟨kvs, es, rfl, b, lm, eb, lt, pw⟩
    rw [rangeD_len] at b
    walk_at "wv"
    rw [List.length_map]
    by_cases c : (es.length : Int) = 0
    · rw [if_pos (decide_eq_true c)]
      walk_at "wv"
      refine ⟨rfl, b_next_ok b (by omega) fun r kvs1 g0 g1 b1 => ?_⟩
      walk_at "wv"
      refine ⟨by simp, ?_⟩
      walk_at "wv"
      refine ⟨by simp, ?_⟩
      walk_at "wv"
      exact h [(r, 1)] kvs1 (by simp) (by simp; omega) (fun e he => by
        rw [List.mem_singleton.mp he]
        exact ⟨⟨g0, g1⟩, by show (1 : Int) ≤ 1; decide, by show (1 : Int) ≤ 3; decide⟩) (by simp) (b1.up (by omega))
    · rw [if_neg (by simpa using c)]
      walk_at "wv"
      exact h es kvs (fun z => c (by rw [z]; rfl)) lm eb pw (b.up (by omega))
/-- systems that are drawn -/
structure SysB (q m dear : Int) (y : List (List Cho)) : Prop where
  ne : 1 ≤ y.length
  len : y.length ≤ 20
  st : ∀ s ∈ y, 1 ≤ s.length ∧ (s.length : Int) ≤ q
  cho : ∀ s ∈ y, ∀ c ∈ s, (0 ≤ c.1 ∧ c.1 < dear) ∧ c.2 ≠ [] ∧ (c.2.length : Int) ≤ m ∧ EndB y.length c.2 ∧ c.2.Pairwise fun x y => x.1 < y.1
theorem b_system_ok {m q dear : Int} {n : Nat} {N : Int} {kvs : List (Key × PyData)} {k : PyData × List (Key × PyData) → Prop} (b : BoxK N kvs) (hn : 1 ≤ n ∧ n ≤ 20) (hm : 1 ≤ m ∧ m ≤ 20) (hq : 1 ≤ q ∧ q ≤ 6) (hd : 1 ≤ dear)
    (h : ∀ y kvs', SysB q m dear y → y.length = n → BoxK (N + 100000) kvs' → k (dY y, kvs')) : (den_b_systemN m kvs [.int (n : Nat), .int q, .int dear]).okTo k := by
  unfold den_b_systemN body_b_systemN
  refine w_denD ?_
  walk_at "st"
  walk_at "wv"
  refine ⟨by simp, ?_⟩
  walk_at "wv"
  refine ⟨_, rfl, ⟨by omega, by omega⟩, ?_⟩
  rw [Int.toNat_natCast]
  let Ch : Cho → Prop := fun c => (0 ≤ c.1 ∧ c.1 < dear) ∧ c.2 ≠ [] ∧ (c.2.length : Int) ≤ m ∧ EndB n c.2 ∧ c.2.Pairwise fun x y => x.1 < y.1
  refine loop_ok (fun i S => ∃ (kvs : List (Key × PyData)) (y : List (List Cho)), S = [some (.dic kvs), some (.dat (.int (n : Nat))), some (.dat (.int q)), some (.dat (.int dear)), some (.own (y.map dS)), none, none, none] ∧ BoxK (N + 1000 * i) kvs ∧ y.length = i ∧ ∀ s ∈ y, (1 ≤ s.length ∧ (s.length : Int) ≤ q) ∧ ∀ c ∈ s, Ch c) ?_ ?_ ⟨kvs, [], rfl, by simpa using b, rfl, (fun _ h => nomatch h)⟩
  · rintro i d S hi ⟨kvs, y, rfl, b, yl, hy⟩
    obtain ⟨hin, rfl⟩ := rangeD_get hi
    rw [Int.zero_add]
    walk_at "wv"
    refine ⟨by simp, ?_⟩
    walk_at "wv"
    refine ⟨rfl, b_next_ok b (by omega) fun r kvs1 g0 g1 b1 => ?_⟩
    walk_at "wv"
    refine ⟨_, rfl, ⟨by omega, by omega⟩, ?_⟩
    refine loop_ok (fun j S => ∃ (kvs : List (Key × PyData)) (s : List Cho), S = [some (.dic kvs), some (.dat (.int (n : Nat))), some (.dat (.int q)), some (.dat (.int dear)), some (.own (y.map dS)), none, some (.own (s.map dC)), none] ∧ BoxK (N + 1000 * i + 1 + 101 * j) kvs ∧ s.length = j ∧ ∀ c ∈ s, Ch c) ?_ ?_ ⟨kvs1, [], rfl, by simpa using b1, rfl, (fun _ h => nomatch h)⟩
    · rintro j d S hj ⟨kvs, s, rfl, b, sl, hs⟩
      obtain ⟨hjn, rfl⟩ := rangeD_get hj
      walk_at "wv"
      refine ⟨rfl, b_next_ok b (by omega) fun c0 kvs2 c1 c2 b2 => ?_⟩
      walk_at "wv"
      refine ⟨rfl, b_ends_ok b2 hn hm fun es kvs3 ne lm eb pw b3 => ?_⟩
      walk_at "wv"
      refine ⟨by simp, ?_⟩
      walk_at "wv"
      refine ⟨by rw [List.length_map]; omega, ?_⟩
      refine ⟨kvs3, s ++ [(c0, es)], by rw [List.map_append]; rfl, b3.up (by omega), by rw [List.length_append, List.length_singleton, sl], fun c hc => ?_⟩
      rcases snoc_get hc with z | rfl
      · exact hs c z
      · exact ⟨⟨c1, c2⟩, ne, lm, eb, pw⟩
    · rintro S ⟨kvs, s, rfl, b, sl, hs⟩
      rw [rangeD_len] at sl b
      walk_at "wv"
      refine ⟨by rw [List.length_map]; omega, ?_⟩
      refine ⟨kvs, y ++ [s], by rw [List.map_append]; rfl, b.up (by omega), by rw [List.length_append, List.length_singleton, yl], fun s' hs' => ?_⟩
      rcases snoc_get hs' with z | rfl
      · exact hy s' z
      · exact ⟨⟨by omega, by omega⟩, hs⟩
  · rintro S ⟨kvs, y, rfl, b, yl, hy⟩
    rw [rangeD_len] at b yl
    walk_at "wv"
    refine h y kvs ⟨by omega, by omega, fun s hs => (hy s hs).1, fun s hs c hc => ?_⟩ yl (b.up (by omega))
    rw [yl]
    exact (hy s hs).2 c hc
theorem SysB.ok {q m dear : Int} {y : List (List Cho)} (h : SysB q m dear y) (hq : q ≤ 6) (hm : m ≤ 4) (hd : dear ≤ 5) : SysOk 6 4 y where
  ne := h.ne
  len := h.len
  st := fun s hs => ⟨(h.st s hs).1, by have := (h.st s hs).2; omega⟩
  cho := fun s hs c hc => by
    obtain ⟨a, b, c', d, e⟩ := h.cho s hs c hc
    exact ⟨⟨a.1, by omega⟩, b, by omega, fun x hx => by
      obtain ⟨⟨p1, p2⟩, p3, p4⟩ := d x hx
      exact ⟨p1, p2, p3, by omega⟩, e⟩

end
end Bo
namespace Bo
open PySem L2
noncomputable section
end
end Bo

namespace Bo
open PySem L2
noncomputable section
def body_is_fraction : VS :=
    (vSeq (vAsg (vVar 0) (aTup 2 (aCons (aName 1) (aCons (aName 2) aNil))))
    (vRet (vAnd (vOp (gIB fun i j => decide (j ≤ i)) (vVar 2) (vC (.int 1))) (vOp gEq (vCall gGcd (vCons (vVar 1) (vCons (vVar 2) vNil))) (vC (.int 1))))))
def den_is_fraction := denP 3 body_is_fraction
end
end Bo

namespace Bo
open PySem L2
noncomputable section
end
end Bo

namespace Bo
open PySem L2
local macro_rules | `(tactic| walk_at "wv1") => `(tactic| (first
  | ((with_reducible refine w_var (d := ?wd) ?wh ?wq); (case wh => exact rfl))
  | with_reducible refine w_cons ?_
  | with_reducible refine w_nil ?_
  | with_reducible refine w_op ?_
  | with_reducible refine w_c ?_
  | with_reducible refine w_aName ?_
  | with_reducible refine w_seq ?_
  | with_reducible refine w_asg ?_
  | with_reducible refine w_toB ?_
  | with_reducible refine w_callP ?_
  | with_reducible refine w_tst ?_
  | with_reducible refine w_then ?_
  | with_reducible refine w_gIxT ?_
  | with_reducible refine w_call ?_
  | with_reducible refine w_ret ?_
  | with_reducible refine w_ifS ?_
  | with_reducible refine w_next ?_
  | ((with_reducible refine w_own (ds := ?wd) ?wh ?wq); (case wh => exact rfl))
  | with_reducible refine w_for ?_
  | with_reducible refine w_fr ?_
  | with_reducible refine w_lc ?_
  | with_reducible refine w_tup ?_
  | with_reducible refine w_iter ?_
  | with_reducible refine w_itFT ?_
  | with_reducible refine w_aCons ?_
  | with_reducible refine w_gIxL ?_
  | with_reducible refine w_tnot ?_
  | with_reducible refine w_pre ?_
  | ((with_reducible refine w_dic (kvs := ?wd) ?wh ?wq); (case wh => exact rfl))
  | with_reducible refine w_tor ?_
  | with_reducible refine w_range1 ?_
  | with_reducible refine w_yes ?_
  | with_reducible refine w_itTT ?_
  | with_reducible refine w_iterT ?_
  | with_reducible refine w_lst ?_
  | with_reducible refine w_toI ?_
  | with_reducible refine w_ownS ?_
  | with_reducible refine w_aTup rfl ?_
  | with_reducible refine w_aNil ?_
  | ((with_reducible refine w_frz (ds := ?wd) ?wh ?wq); (case wh => exact rfl))
  | with_reducible refine w_itT ?_
  | with_reducible refine w_callD ?_
  | with_reducible refine w_tand ?_
  | with_reducible refine w_gEqI ?_
  | with_reducible refine w_gNeI ?_
  | with_reducible refine w_gLenT ?_
  | with_reducible refine w_lstF ?_
  | with_reducible refine w_callB ?_
  | with_reducible refine w_app ?_
  | with_reducible refine w_setI ?_
  | with_reducible refine w_drop ?_
  | with_reducible refine w_gIB ?_
  | with_reducible refine w_gBools ?_
  | with_reducible refine w_and ?_
  | with_reducible refine w_isN ?_
  | with_reducible refine w_or ?_
  | with_reducible refine w_ixO ?_
  | with_reducible refine w_gI ?_
  | with_reducible refine w_gLenL ?_
  | with_reducible refine w_gTuple ?_
  | with_reducible refine w_gInts ?_
  | ((with_reducible refine w_newS (ns := ?wd) ?wh ?wq); (case wh => exact rfl))
  | with_reducible refine w_un ?_
  | with_reducible refine w_if ?_
  | with_reducible refine w_chain ?_
  | ((with_reducible refine w_callS (ns := ?wd) ?wh ?wq); (case wh => exact rfl))
  | with_reducible refine w_sl ?_
  | with_reducible refine w_noPart ?_
  | with_reducible refine w_part ?_
  | with_reducible refine w_listRg ?_
  | with_reducible refine w_enumK ?_
  | with_reducible refine w_repF ?_
  | with_reducible refine w_gIC ?_
  | with_reducible refine w_gCat ?_
  | with_reducible refine w_gCatT ?_
  | with_reducible refine w_notN ?_
  | with_reducible refine w_listF ?_
  | with_reducible refine w_neg ?_
  | with_reducible refine w_gIsB ?_
  | with_reducible refine w_not ?_
  | with_reducible refine w_tru ?_
  | with_reducible refine w_callL ?_
  | with_reducible refine w_consO ?_
  | with_reducible refine w_lenO ?_
  | with_reducible refine w_tupleO ?_
  | with_reducible refine w_listO ?_
  | with_reducible refine w_inO ?_
  | with_reducible refine w_truO ?_
  | with_reducible refine w_zipK ?_
  | with_reducible refine w_retN ?_
  | ((with_reducible refine w_aug (a := ?wd) ?wh ?wq); (case wh => exact rfl))
  | with_reducible refine w_gInL ?_
  | with_reducible refine w_gIntI ?_
  | with_reducible refine w_gRevL ?_
  | with_reducible refine w_gSlL ?_
  | with_reducible refine w_gSlT ?_
  | with_reducible refine w_itF ?_
  | with_reducible refine w_gList ?_
  | with_reducible refine w_gSortI ?_
  | with_reducible refine w_range2 ?_
  | ((with_reducible refine w_lcO (ds := ?wd) ?wh ?wq ?wr); (case wh => exact rfl); (case wq => exact rfl))
  | with_reducible refine w_aUnl rfl ?_
  | with_reducible refine w_brk ?_
  | with_reducible refine w_cnt ?_
  | with_reducible refine w_gIntB ?_
  | with_reducible refine w_getD ?_
  | with_reducible refine w_keyS ?_
  | with_reducible refine w_keyI ?_
  | with_reducible refine w_putD ?_
  | with_reducible refine w_ownCallD ?_
  | with_reducible refine w_callDF ?_
  | with_reducible refine w_gIxQL ?_
  | with_reducible refine w_gIxQT ?_
  | ((with_reducible refine w_revO (ds := ?wd) ?wh ?wq); (case wh => exact rfl))
  | ((with_reducible refine w_isNOd (d := ?wd) ?wh ?wq); (case wh => exact rfl))
  | ((with_reducible refine w_isNOo (ds := ?wd) ?wh ?wq); (case wh => exact rfl))
  | simp only [wipeS, backS, List.set_cons_zero, List.set_cons_succ, List.getElem?_cons_zero, List.getElem?_cons_succ, Option.join_some, Option.join_none, Bool.not_true, Bool.not_false]))
local macro_rules | `(tactic| walk_at "wv") => `(tactic| ((repeat (walk_at "wv1"; try dsimp only)); try simp only [List.set_cons_zero, List.set_cons_succ]))
local macro_rules | `(tactic| walk_at "st") => `(tactic| simp only [startS, List.map_cons, List.map_nil, List.length_cons, List.length_nil, Nat.reduceAdd, Nat.reduceSub, List.replicate_succ, List.replicate_zero, List.cons_append, List.nil_append])

section
/-! ### means of the laws that draw out of boxes -/
open PySem L2
/-- numbers over one denominator that is not great -/
structure NumS (D : List Rat) (s u : Nat) : Prop where
  s0 : s ≠ 0
  s1 : s < 2 ^ 180
  u0 : u < 2 ^ 1000
  pd : ∀ i, Pd s u (D.getD i 0)
theorem NumS.u1 {D : List Rat} {s u : Nat} (h : NumS D s u) : u < 2 ^ 1900 := Nat.lt_trans h.u0 (Nat.pow_lt_pow_right (by decide) (by decide))

end
section
/-! ### a better policy, as the program looks for it -/
open PySem L2
def chm (y : List (List Cho)) (D : List Rat) (i k : Nat) : Rat := meanQ D (cAt y i k).2
/-- numbers that can be looked at -/
structure Look (y : List (List Cho)) (U : List (List Nat)) (D : List Rat) : Prop where
  len : D.length = y.length
  ex : ∃ s u, (∀ i k, Us U i k → MeanOk s u D (cAt y i k).2) ∧ ∀ i, i < y.length → Bq5 (D.getD i 0)
  sm : ∀ i k, Us U i k → Bq5 (chm y D i k)

end
section
/-! ### where the search begins, and the ranks -/
open PySem L2

end
section
/-! ### the search for the best chances comes to an end, with a certificate -/
open PySem L2
/-! all policies -/
/-! what is looked at stays small -/
/-! what an improvement is -/
section
variable {y : List (List Cho)} {al tg : List Int} {q c : Nat} {most : Bool} {pol : List Int} {D : List Rat}
end
/-! the measure -/

end
section
/-! ### the best chances -/
open PySem L2
section
variable {y : List (List Cho)} {al tg : List Int} {q c : Nat} {most : Bool} {pol : List Int} {D W : List Rat}
end

end
section
/-! ### what a judge accepts, and the law's judge -/
open PySem L2
abbrev dTQ (l : List Rat) : PyData := .tuple (l.map dQ)
/-- what the judges look at: numbers of the means over a system's choices -/
structure LookJ (y : List (List Cho)) (D : List Rat) : Prop where
  yl : y.length ≤ 20
  st : ∀ s ∈ y, s.length ≤ 1000
  es : ∀ s ∈ y, ∀ c ∈ s, EsOk y.length c.2
  len : D.length = y.length
  ex : ∃ s u, NumS D s u
  b5 : ∀ i, Bq5 (D.getD i 0)
  m5 : ∀ i k, i < y.length → k < (y.getD i []).length → Bq5 (chm y D i k)
theorem LookJ.at_ {y : List (List Cho)} {D : List Rat} (J : LookJ y D) {i k : Nat} (hi : i < y.length) (hk : k < (y.getD i []).length) : y[i]? = some (y.getD i []) ∧ (y.getD i [])[k]? = some (cAt y i k) ∧ EsOk y.length (cAt y i k).2 := by
  have e1 := get_getD [] hi
  have e2 := cAt_get e1 hk
  exact ⟨e1, e2, J.es _ (List.mem_of_getElem? e1) _ (List.mem_of_getElem? e2)⟩

end
section
/-! ### the law's judge, whole; what a certificate's conditions say of it -/
open PySem L2
/-! a certificate's conditions -/
section
variable {y : List (List Cho)} {al tg : List Int} {q c : Nat} {most : Bool} {P R : List Int} {D : List Rat}
end
open PySem L2

end
section
/-! ### the program's judge of chances -/
open PySem L2
/-- bools over a row -/
theorem lc_bools {fg : PyData → SS → R SS} {fe : VE} {vs : List Nat} {ds : List PyData} {k : List PyData × SS → Prop} {S : SS} (Pr : Nat → Prop)
    (step : ∀ i d (kE : PyData × SS → Prop), ds[i]? = some d → (∀ b S', (b = true ↔ Pr i) → wipeS S' vs = S → kE (.bool b, S')) → (fg d S).okTo fun S1 => (fe S1).okTo kE)
    (done : ∀ bs : List Bool, bs.length = ds.length → (∀ i b, bs[i]? = some b → (b = true ↔ Pr i)) → k (bs.map .bool, S)) : (lcF fg vYes fe vs ds S).okTo k := by
  refine lc_ok (fun i acc Z => ∃ bs : List Bool, acc = bs.map .bool ∧ bs.length = i ∧ Z = S ∧ ∀ j b, bs[j]? = some b → (b = true ↔ Pr j)) ?_ ?_ ⟨[], rfl, rfl, rfl, (fun j b h => nomatch h)⟩
  · rintro i d acc Z hd ⟨bs, rfl, bl, rfl, q⟩
    refine (step i d (fun q => ∃ bs' : List Bool, (bs.map .bool ++ [q.1]) = bs'.map .bool ∧ bs'.length = i + 1 ∧ wipeS q.2 vs = Z ∧ ∀ j b, bs'[j]? = some b → (b = true ↔ Pr j)) hd fun b S' hb e => ⟨bs ++ [b], by rw [List.map_append]; rfl, by rw [List.length_append, bl]; rfl, e, fun j b' h => ?_⟩).mono fun S1 h => ?_
    · by_cases c : j < bs.length
      · rw [List.getElem?_append_left c] at h
        exact q j b' h
      · rw [List.getElem?_append_right (by omega), List.getElem?_singleton] at h
        by_cases g : j - bs.length = 0
        · rw [if_pos g] at h
          cases h
          rw [show j = i by omega]
          exact hb
        · rw [if_neg g] at h
          cases h
    · exact w_yes (by rw [if_pos rfl]; exact h)
  · rintro acc Z ⟨bs, rfl, bl, rfl, q⟩
    exact done bs bl q
theorem all_iff {bs : List Bool} {n : Nat} {Pr : Nat → Prop} (bl : bs.length = n) (q : ∀ i b, bs[i]? = some b → (b = true ↔ Pr i)) : bs.all id = true ↔ ∀ i, i < n → Pr i := by
  rw [List.all_eq_true]
  constructor
  · intro h i hi
    have hi' : i < bs.length := by omega
    exact (q i _ (List.getElem?_eq_getElem hi')).mp (h _ (List.getElem_mem hi'))
  · intro h b hb
    obtain ⟨i, hi, rfl⟩ := List.getElem_of_mem hb
    exact (q i _ (List.getElem?_eq_getElem hi)).mpr (h i (by omega))
theorem LookJ.mean {y : List (List Cho)} {D : List Rat} {s k : Nat} {kE : PyData → Prop} (J : LookJ y D) (hs : s < y.length) (hk : k < (y.getD s []).length) (h : kE (dQ (chm y D s k))) : (den_mean [dY y, .int (s : Nat), .int (k : Nat), dTQ D]).okTo kE := by
  obtain ⟨a1, a2, a3⟩ := J.at_ hs hk
  obtain ⟨sD, uD, hD⟩ := J.ex
  exact mean_ok (.inr rfl) a1 a2 ⟨a3.ne, Nat.le_trans a3.len (by decide), fun e he => by rw [J.len]; exact a3.ends e he, fun e he => hD.pd _, hD.s0, Nat.lt_trans hD.s1 (Nat.pow_lt_pow_right (by decide) (by decide)), hD.u0⟩ h

end
end Bo
namespace Bo
open PySem L2
noncomputable section
def body_b_ends : VS :=
    (vSeq (vOwn 2 (vLstF vNil))
    (vSeq (vThen [3] (vFor (vRange1 (vCons (vVar 1) vNil)) (aName 3) (vThen [3] (vIfS (tAndF (vTst (vOp (gIB fun i j => decide (i < j)) (vLenO 2) (vC (.int 3)))) (vTst (vOp gEq (vCallD 1 den_b_next 0 (vCons (vC (.int 2)) vNil)) (vC (.int 0))))) (vDrop (vApp 2 (vTup (vCons (vVar 3) (vCons (vOp (gI fun i j => i + j) (vC (.int 1)) (vCallD 1 den_b_next 0 (vCons (vC (.int 3)) vNil))) vNil))))) vNext))))
    (vSeq (vIfS (vTst (vOp gEq (vLenO 2) (vC (.int 0)))) (vOwn 2 (vLstF (vCons (vTup (vCons (vCallD 1 den_b_next 0 (vCons (vVar 1) vNil)) (vCons (vC (.int 1)) vNil))) vNil))) vNext)
    (vRet (vTupleO 2)))))
def den_b_ends := denD 4 body_b_ends
def body_b_system : VS :=
    (vSeq (vOwn 4 (vLstF vNil))
    (vSeq (vThen [5, 6, 7] (vFor (vRange1 (vCons (vVar 1) vNil)) (aName 5) (vThen [5, 6] (vSeq (vOwn 6 (vLstF vNil))
    (vSeq (vPre [5, 7] (vThen [7] (vFor (vRange1 (vCons (vOp (gI fun i j => i + j) (vC (.int 1)) (vCallD 1 den_b_next 0 (vCons (vVar 2) vNil))) vNil)) (aName 7) (vThen [7] (vDrop (vApp 6 (vTup (vCons (vCallD 1 den_b_next 0 (vCons (vVar 3) vNil)) (vCons (vCallD 1 den_b_ends 0 (vCons (vVar 1) vNil)) vNil)))))))))
    (vDrop (vApp 4 (vTupleO 6))))))))
    (vRet (vTupleO 4))))
def den_b_system := denD 8 body_b_system
def body_b_chance : VS :=
    (vRet (vOp gIxL (vLst (vCons (vTup (vCons (vC (.int 0)) (vCons (vC (.int 1)) vNil))) (vCons (vTup (vCons (vC (.int 1)) (vCons (vC (.int 1)) vNil))) (vCons (vTup (vCons (vC (.int 1)) (vCons (vC (.int 2)) vNil))) (vCons (vTup (vCons (vC (.int 1)) (vCons (vC (.int 3)) vNil))) (vCons (vTup (vCons (vC (.int 2)) (vCons (vC (.int 3)) vNil))) (vCons (vTup (vCons (vC (.int 1)) (vCons (vC (.int 4)) vNil))) (vCons (vTup (vCons (vC (.int 3)) (vCons (vC (.int 4)) vNil))) vNil)))))))) (vCallD 1 den_b_next 0 (vCons (vC (.int 7)) vNil))))
def den_b_chance := denD 1 body_b_chance
def body_b_line : VS :=
    (vSeq (vAsg (vCallD 1 den_b_next 0 (vCons (vC (.int 6)) vNil)) (aName 3))
    (vSeq (vIfS (tOrF (vTst (vOp gEq (vVar 2) (vC (.int 0)))) (vTst (vOp gEq (vVar 3) (vC (.int 0))))) (vRet (vTup (vCons (vC (.str "in")) (vCons (vCall gTuple (vCons (vFr (vLc [7] (vRange1 (vCons (vVar 1) vNil)) (aName 7) (vTst (vOp gEq (vCallD 1 den_b_next 0 (vCons (vC (.int 2)) vNil)) (vC (.int 0)))) (vVar 7))) vNil)) vNil)))) vNext)
    (vSeq (vAsg (vCallD 1 den_b_next 0 (vCons (vVar 2) vNil)) (aName 4))
    (vSeq (vAsg (vCallD 1 den_b_next 0 (vCons (vVar 2) vNil)) (aName 5))
    (vSeq (vIfS (vTst (vOp gEq (vVar 3) (vC (.int 1)))) (vRet (vTup (vCons (vC (.str "not")) (vCons (vVar 4) vNil)))) vNext)
    (vSeq (vIfS (vTst (vOp gEq (vVar 3) (vC (.int 2)))) (vRet (vTup (vCons (vC (.str "and")) (vCons (vVar 4) (vCons (vVar 5) vNil))))) vNext)
    (vSeq (vAsg (vTup (vCons (vOp gEq (vCallD 1 den_b_next 0 (vCons (vC (.int 2)) vNil)) (vC (.int 0))) (vCons (vOp gEq (vCallD 1 den_b_next 0 (vCons (vC (.int 2)) vNil)) (vC (.int 0))) (vCons (vCallD 0 den_b_chance 0 vNil) vNil)))) (aName 6))
    (vSeq (vIfS (vTst (vOp gEq (vVar 3) (vC (.int 3)))) (vRet (vOp gCatT (vOp gCatT (vTup (vCons (vC (.str "next")) vNil)) (vVar 6)) (vTup (vCons (vVar 4) vNil)))) vNext)
    (vSeq (vIfS (vTst (vOp gEq (vVar 3) (vC (.int 4)))) (vRet (vOp gCatT (vOp gCatT (vTup (vCons (vC (.str "until")) vNil)) (vVar 6)) (vTup (vCons (vVar 4) (vCons (vVar 5) vNil))))) vNext)
    (vRet (vOp gCatT (vOp gCatT (vTup (vCons (vC (.str "within")) vNil)) (vVar 6)) (vTup (vCons (vVar 4) (vCons (vVar 5) (vCons (vOp gIxL (vLst (vCons (vC (.int 0)) (vCons (vC (.int 1)) (vCons (vC (.int 4)) (vCons (vC (.int 29)) (vCons (vC (.int 30)) vNil)))))) (vCallD 1 den_b_next 0 (vCons (vC (.int 5)) vNil))) vNil)))))))))))))))
def den_b_line := denD 8 body_b_line
def body_b_sentence : VS :=
    (vSeq (vOwn 3 (vLstF vNil))
    (vSeq (vThen [4] (vFor (vRange1 (vCons (vOp (gI fun i j => i + j) (vC (.int 1)) (vCallD 1 den_b_next 0 (vCons (vVar 2) vNil))) vNil)) (aName 4) (vThen [4] (vDrop (vApp 3 (vCallD 2 den_b_line 0 (vCons (vVar 1) (vCons (vVar 4) vNil))))))))
    (vRet (vTupleO 3))))
def den_b_sentence := denD 5 body_b_sentence
def body_are_earlier : VS :=
    (vRet (vCall (gBools fun bs => .bool (bs.all id)) (vCons (vFr (vLc [2] (vIter (vVar 1)) (aName 2) vYes (vChain (gIB fun i j => decide (i ≤ j)) (gIB fun i j => decide (i < j)) (vC (.int 0)) (vVar 2) (vVar 0)))) vNil)))
def den_are_earlier := denP 3 body_are_earlier
def body_is_set : VS :=
    (vSeq (vAsg (vUn gNeg (vC (.int 1))) (aName 2))
    (vSeq (vThen [2, 3] (vFor (vIterT (vVar 1)) (aName 3) (vThen [3] (vSeq (vIfS (tNotF (vTst (vChain (gIB fun i j => decide (i < j)) (gIB fun i j => decide (i < j)) (vVar 2) (vVar 3) (vVar 0)))) (vRet (vC (.bool false))) vNext)
    (vAsg (vVar 3) (aName 2))))))
    (vRet (vC (.bool true)))))
def den_is_set := denP 4 body_is_set
def body_is_line : VS :=
    (vSeq (vStarT [3] 5 (vVar 2))
    (vSeq (vIfS (vTst (vOp gNe (vKGet (kgF ([("in", 2), ("not", 2), ("and", 3), ("next", 5), ("until", 6), ("within", 7)] : List (Str × Int))) (vVar 3)) (vCall gLen (vCons (vVar 2) vNil)))) (vRet (vC (.bool false))) vNext)
    (vSeq (vIfS (vTst (vOp gEqD (vVar 3) (vC (.str "in")))) (vRet (vCallP 2 den_is_set (vCons (vVar 0) (vCons (vOp gIxL (vVar 5) (vC (.int 0))) vNil)))) vNext)
    (vSeq (vIfS (vTst (vOp (gIn false) (vVar 3) (vTup (vCons (vC (.str "not")) (vCons (vC (.str "and")) vNil))))) (vRet (vCallP 2 den_are_earlier (vCons (vVar 1) (vCons (vVar 5) vNil)))) vNext)
    (vSeq (vHdTl 4 6 (vSl gSlL (vVar 5) (vPart (vC (.int 2))) vNoPart))
    (vSeq (vIfS (tNotF (tAndF (vTst (vCallP 1 den_is_fraction (vCons (vVar 4) vNil))) (vTst (vChain (gIB fun i j => decide (i ≤ j)) (gIB fun i j => decide (i ≤ j)) (vC (.int 0)) (vOp gIxT (vVar 4) (vC (.int 0))) (vOp gIxT (vVar 4) (vC (.int 1))))))) (vRet (vC (.bool false))) vNext)
    (vSeq (vIfS (vTst (vOp gEqD (vVar 3) (vC (.str "within")))) (vRet (vAnd (vCallP 2 den_are_earlier (vCons (vVar 1) (vCons (vSl gSlL (vVar 6) vNoPart (vPart (vC (.int 2)))) vNil))) (vChain (gIB fun i j => decide (i ≤ j)) (gIB fun i j => decide (i ≤ j)) (vC (.int 0)) (vOp gIxL (vVar 6) (vC (.int 2))) (vC (.int 30))))) vNext)
    (vRet (vCallP 2 den_are_earlier (vCons (vVar 1) (vCons (vVar 6) vNil)))))))))))
def den_is_line := denP 7 body_is_line
def body_is_valid : VS :=
    (vSeq (vIfS (tNotF (vTst (vChain (gIB fun i j => decide (i ≤ j)) (gIB fun i j => decide (i ≤ j)) (vC (.int 1)) (vCall gLen (vCons (vVar 1) vNil)) (vC (.int 40))))) (vRet (vC (.bool false))) vNext)
    (vRet (vCall (gBools fun bs => .bool (bs.all id)) (vCons (vFr (vLc [2, 3] (vEnumK .T (vCons (vVar 1) vNil)) (aTup 2 (aCons (aName 2) (aCons (aName 3) aNil))) vYes (vCallP 3 den_is_line (vCons (vCall gLen (vCons (vVar 0) vNil)) (vCons (vVar 2) (vCons (vVar 3) vNil)))))) vNil))))
def den_is_valid := denP 4 body_is_valid
def body_law : VS :=
    (vSeq (vNewS 1 0 den_b_box)
    (vSeq (vAsg (vOp (gI fun i j => i + j) (vC (.int 1)) (vCallD 1 den_b_next 1 (vCons (vC (.int 5)) vNil))) (aName 2))
    (vSeq (vAsg (vCallD 3 den_b_system 1 (vCons (vVar 2) (vCons (vC (.int 2)) (vCons (vC (.int 2)) vNil)))) (aName 3))
    (vSeq (vAsg (vCallD 2 den_b_sentence 1 (vCons (vVar 2) (vCons (vC (.int 8)) vNil))) (aName 4))
    (vSeq (vIfS (tOrF (vTst (vOp (gIsB true) (vCallP 2 den_is_valid (vCons (vVar 3) (vCons (vVar 4) vNil))) (vC (.bool true)))) (vTst (vOp (gIsB true) (vCallP 2 den_is_valid (vCons (vVar 3) (vCons (vTup vNil) vNil))) (vC (.bool false))))) (vRet (vC (.bool false))) vNext)
    (vSeq (vAsg (vCall gLen (vCons (vVar 4) vNil)) (aName 5))
    (vSeq (vAsg (vTup (vCons (vC (.int 1)) (vCons (vC (.int 2)) vNil))) (aName 6))
    (vSeq (vAsg (vLst (vCons (vTup (vCons (vC (.str "in")) (vCons (vTup (vCons (vVar 2) vNil)) vNil))) (vCons (vTup (vCons (vC (.str "in")) (vCons (vTup (vCons (vOp (gI fun i j => i - j) (vC (.int 0)) (vC (.int 1))) vNil)) vNil))) (vCons (vTup (vCons (vC (.str "in")) (vCons (vTup (vCons (vC (.int 0)) (vCons (vC (.int 0)) vNil))) vNil))) (vCons (vTup (vCons (vC (.str "in")) vNil)) (vCons (vTup (vCons (vC (.str "in")) (vCons (vTup (vCons (vC (.int 0)) vNil)) (vCons (vC (.int 0)) vNil)))) (vCons (vTup (vCons (vC (.str "not")) (vCons (vVar 5) vNil))) (vCons (vTup (vCons (vC (.str "not")) (vCons (vOp (gI fun i j => i - j) (vC (.int 0)) (vC (.int 1))) vNil))) vNil)))))))) (aName 7))
    (vSeq (vAsg (vOp gCat (vVar 7) (vLst (vCons (vTup (vCons (vC (.str "and")) (vCons (vC (.int 0)) (vCons (vVar 5) vNil)))) (vCons (vTup (vCons (vC (.str "and")) (vCons (vC (.int 0)) vNil))) (vCons (vTup (vCons (vC (.str "not")) vNil)) (vCons (vTup (vCons (vC (.str "or")) (vCons (vC (.int 0)) (vCons (vC (.int 0)) vNil)))) (vCons (vTup (vCons (vC (.str "next")) (vCons (vC (.bool true)) (vCons (vC (.bool true)) (vCons (vVar 6) (vCons (vVar 5) vNil)))))) (vCons (vTup (vCons (vC (.str "until")) (vCons (vC (.bool true)) vNil))) vNil)))))))) (aName 7))
    (vSeq (vAsg (vOp gCat (vVar 7) (vLst (vCons (vTup (vCons (vC (.str "next")) (vCons (vC (.bool true)) (vCons (vC (.bool true)) (vCons (vTup (vCons (vC (.int 3)) (vCons (vC (.int 2)) vNil))) (vCons (vC (.int 0)) vNil)))))) (vCons (vTup (vCons (vC (.str "next")) (vCons (vC (.bool true)) (vCons (vC (.bool false)) (vCons (vTup (vCons (vOp (gI fun i j => i - j) (vC (.int 0)) (vC (.int 1))) (vCons (vC (.int 2)) vNil))) (vCons (vC (.int 0)) vNil)))))) (vCons (vTup (vCons (vC (.str "next")) (vCons (vC (.bool true)) (vCons (vC (.bool true)) (vCons (vTup (vCons (vC (.int 2)) (vCons (vC (.int 4)) vNil))) (vCons (vC (.int 0)) vNil)))))) vNil))))) (aName 7))
    (vSeq (vAsg (vOp gCat (vVar 7) (vLst (vCons (vTup (vCons (vC (.str "next")) (vCons (vC (.bool true)) (vCons (vC (.bool true)) (vCons (vVar 6) (vCons (vC (.int 0)) (vCons (vC (.int 0)) vNil))))))) (vCons (vTup (vCons (vC (.str "until")) (vCons (vC (.bool true)) (vCons (vC (.bool true)) (vCons (vVar 6) (vCons (vC (.int 0)) vNil)))))) (vCons (vTup (vCons (vC (.str "until")) (vCons (vC (.bool true)) (vCons (vC (.bool true)) (vCons (vVar 6) (vCons (vVar 5) (vCons (vC (.int 0)) vNil))))))) vNil))))) (aName 7))
    (vSeq (vAsg (vOp gCat (vVar 7) (vLst (vCons (vTup (vCons (vC (.str "until")) (vCons (vC (.bool false)) (vCons (vC (.bool true)) (vCons (vTup (vCons (vC (.int 1)) (vCons (vC (.int 0)) vNil))) (vCons (vC (.int 0)) (vCons (vC (.int 0)) vNil))))))) (vCons (vTup (vCons (vC (.str "within")) (vCons (vC (.bool true)) (vCons (vC (.bool true)) (vCons (vVar 6) (vCons (vC (.int 0)) (vCons (vC (.int 0)) (vCons (vC (.int 31)) vNil)))))))) (vCons (vTup (vCons (vC (.str "")) (vCons (vC (.int 0)) vNil))) (vCons (vTup (vCons (vC (.str "chance")) (vCons (vVar 6) vNil))) vNil)))))) (aName 7))
    (vSeq (vAsg (vOp gCat (vVar 7) (vLst (vCons (vTup (vCons (vC (.str "within")) (vCons (vC (.bool true)) (vCons (vC (.bool true)) (vCons (vVar 6) (vCons (vC (.int 0)) (vCons (vC (.int 0)) (vCons (vOp (gI fun i j => i - j) (vC (.int 0)) (vC (.int 1))) vNil)))))))) (vCons (vTup (vCons (vC (.str "within")) (vCons (vC (.bool true)) (vCons (vC (.bool true)) (vCons (vVar 6) (vCons (vC (.int 0)) (vCons (vC (.int 0)) vNil))))))) (vCons (vTup (vCons (vC (.str "until")) (vCons (vC (.bool true)) (vCons (vC (.bool true)) (vCons (vTup (vCons (vC (.int 4)) (vCons (vC (.int 3)) vNil))) (vCons (vC (.int 0)) (vCons (vC (.int 0)) vNil))))))) vNil))))) (aName 7))
    (vSeq (vAsg (vOp gCat (vVar 7) (vLst (vCons (vTup (vCons (vC (.str "within")) (vCons (vC (.bool true)) (vCons (vC (.bool true)) (vCons (vVar 6) (vCons (vC (.int 0)) (vCons (vVar 5) (vCons (vC (.int 3)) vNil)))))))) (vCons (vTup (vCons (vC (.str "within")) (vCons (vC (.bool true)) (vCons (vC (.bool true)) (vCons (vTup (vCons (vC (.int 0)) (vCons (vC (.int 2)) vNil))) (vCons (vC (.int 0)) (vCons (vC (.int 0)) (vCons (vC (.int 3)) vNil)))))))) (vCons (vTup (vCons (vC (.str "within")) (vCons (vC (.bool true)) (vCons (vC (.bool true)) (vCons (vTup (vCons (vC (.int 2)) (vCons (vC (.int 1)) vNil))) (vCons (vC (.int 0)) (vCons (vC (.int 0)) (vCons (vC (.int 3)) vNil)))))))) vNil))))) (aName 7))
    (vSeq (vAsg (vOp (gI fun i j => i - j) (vC (.int 0)) (vC (.int 1))) (aName 8))
    (vSeq (vAsg (vOp gCat (vVar 7) (vLst (vCons (vTup (vCons (vC (.str "and")) (vCons (vVar 5) (vCons (vC (.int 0)) vNil)))) (vCons (vTup (vCons (vC (.str "and")) (vCons (vVar 8) (vCons (vC (.int 0)) vNil)))) (vCons (vTup (vCons (vC (.str "and")) (vCons (vC (.int 0)) (vCons (vVar 8) vNil)))) (vCons (vTup (vCons (vC (.str "until")) (vCons (vC (.bool true)) (vCons (vC (.bool true)) (vCons (vVar 6) (vCons (vC (.int 0)) (vCons (vVar 5) vNil))))))) vNil)))))) (aName 7))
    (vSeq (vAsg (vOp gCat (vVar 7) (vLst (vCons (vTup (vCons (vC (.str "until")) (vCons (vC (.bool true)) (vCons (vC (.bool true)) (vCons (vVar 6) (vCons (vVar 8) (vCons (vC (.int 0)) vNil))))))) (vCons (vTup (vCons (vC (.str "until")) (vCons (vC (.bool true)) (vCons (vC (.bool true)) (vCons (vVar 6) (vCons (vC (.int 0)) (vCons (vVar 8) vNil))))))) (vCons (vTup (vCons (vC (.str "next")) (vCons (vC (.bool true)) (vCons (vC (.bool true)) (vCons (vVar 6) (vCons (vVar 8) vNil)))))) vNil))))) (aName 7))
    (vSeq (vAsg (vOp gCat (vVar 7) (vLst (vCons (vTup (vCons (vC (.str "within")) (vCons (vC (.bool true)) (vCons (vC (.bool true)) (vCons (vVar 6) (vCons (vVar 5) (vCons (vC (.int 0)) (vCons (vC (.int 3)) vNil)))))))) (vCons (vTup (vCons (vC (.str "within")) (vCons (vC (.bool true)) (vCons (vC (.bool true)) (vCons (vVar 6) (vCons (vC (.int 0)) (vCons (vVar 8) (vCons (vC (.int 3)) vNil)))))))) (vCons (vTup (vCons (vC (.str "in")) (vCons (vTup (vCons (vC (.int 0)) (vCons (vVar 2) vNil))) vNil))) vNil))))) (aName 7))
    (vSeq (vIfS (vTst (vOp (gIB fun i j => decide (j < i)) (vVar 2) (vC (.int 1)))) (vAsg (vOp gCat (vVar 7) (vLst (vCons (vTup (vCons (vC (.str "in")) (vCons (vTup (vCons (vC (.int 1)) (vCons (vC (.int 0)) vNil))) vNil))) (vCons (vTup (vCons (vC (.str "in")) (vCons (vTup (vCons (vOp (gI fun i j => i - j) (vVar 2) (vC (.int 1))) (vCons (vC (.int 0)) vNil))) vNil))) (vCons (vTup (vCons (vC (.str "in")) (vCons (vTup (vCons (vC (.int 0)) (vCons (vC (.int 1)) (vCons (vC (.int 1)) vNil)))) vNil))) vNil))))) (aName 7)) vNext)
    (vSeq (vAsg (vOp gIxL (vVar 7) (vCallD 1 den_b_next 1 (vCons (vCall gLen (vCons (vVar 7) vNil)) vNil))) (aName 9))
    (vSeq (vIfS (tOrF (vTst (vOp (gIsB true) (vCallP 2 den_is_valid (vCons (vVar 3) (vCons (vOp gCatT (vVar 4) (vTup (vCons (vVar 9) vNil))) vNil))) (vC (.bool false)))) (vTst (vOp (gIsB true) (vCallP 2 den_is_valid (vCons (vVar 3) (vCons (vOp gCatT (vVar 4) (vTup (vCons (vVar 9) (vCons (vTup (vCons (vC (.str "in")) (vCons (vTup vNil) vNil))) vNil)))) vNil))) (vC (.bool false))))) (vRet (vC (.bool false))) vNext)
    (vSeq (vAsg (vOp (gI fun i j => i + j) (vC (.int 39)) (vCallD 1 den_b_next 1 (vCons (vC (.int 3)) vNil))) (aName 10))
    (vRet (vOp gEq (vCallP 2 den_is_valid (vCons (vVar 3) (vCons (vOp gRepT (vTup (vCons (vTup (vCons (vC (.str "in")) (vCons (vTup (vCons (vC (.int 0)) vNil)) vNil))) vNil)) (vVar 10)) vNil))) (vOp (gIB fun i j => decide (i ≤ j)) (vVar 10) (vC (.int 40)))))))))))))))))))))))))))
def den_law := denS 11 body_law
end
end Bo

namespace Bo
open PySem L2
local macro_rules | `(tactic| walk_at "wv1") => `(tactic| (first
  | ((with_reducible refine w_var (d := ?wd) ?wh ?wq); (case wh => exact rfl))
  | with_reducible refine w_cons ?_
  | with_reducible refine w_nil ?_
  | with_reducible refine w_op ?_
  | with_reducible refine w_c ?_
  | with_reducible refine w_aName ?_
  | with_reducible refine w_seq ?_
  | with_reducible refine w_asg ?_
  | with_reducible refine w_toB ?_
  | with_reducible refine w_callP ?_
  | with_reducible refine w_tst ?_
  | with_reducible refine w_then ?_
  | with_reducible refine w_gIxT ?_
  | with_reducible refine w_call ?_
  | with_reducible refine w_ret ?_
  | with_reducible refine w_ifS ?_
  | with_reducible refine w_next ?_
  | ((with_reducible refine w_own (ds := ?wd) ?wh ?wq); (case wh => exact rfl))
  | with_reducible refine w_for ?_
  | with_reducible refine w_fr ?_
  | with_reducible refine w_lc ?_
  | with_reducible refine w_tup ?_
  | with_reducible refine w_iter ?_
  | with_reducible refine w_itFT ?_
  | with_reducible refine w_aCons ?_
  | with_reducible refine w_gIxL ?_
  | with_reducible refine w_tnot ?_
  | with_reducible refine w_pre ?_
  | ((with_reducible refine w_dic (kvs := ?wd) ?wh ?wq); (case wh => exact rfl))
  | with_reducible refine w_tor ?_
  | with_reducible refine w_range1 ?_
  | with_reducible refine w_yes ?_
  | with_reducible refine w_itTT ?_
  | with_reducible refine w_iterT ?_
  | with_reducible refine w_lst ?_
  | with_reducible refine w_toI ?_
  | with_reducible refine w_ownS ?_
  | with_reducible refine w_aTup rfl ?_
  | with_reducible refine w_aNil ?_
  | ((with_reducible refine w_frz (ds := ?wd) ?wh ?wq); (case wh => exact rfl))
  | with_reducible refine w_itT ?_
  | with_reducible refine w_callD ?_
  | with_reducible refine w_tand ?_
  | with_reducible refine w_gEqI ?_
  | with_reducible refine w_gNeI ?_
  | with_reducible refine w_gLenT ?_
  | with_reducible refine w_lstF ?_
  | with_reducible refine w_callB ?_
  | with_reducible refine w_app ?_
  | with_reducible refine w_setI ?_
  | with_reducible refine w_drop ?_
  | with_reducible refine w_gIB ?_
  | with_reducible refine w_gBools ?_
  | with_reducible refine w_and ?_
  | with_reducible refine w_isN ?_
  | with_reducible refine w_or ?_
  | with_reducible refine w_ixO ?_
  | with_reducible refine w_gI ?_
  | with_reducible refine w_gLenL ?_
  | with_reducible refine w_gTuple ?_
  | with_reducible refine w_gInts ?_
  | ((with_reducible refine w_newS (ns := ?wd) ?wh ?wq); (case wh => exact rfl))
  | with_reducible refine w_un ?_
  | with_reducible refine w_if ?_
  | with_reducible refine w_chain ?_
  | ((with_reducible refine w_callS (ns := ?wd) ?wh ?wq); (case wh => exact rfl))
  | with_reducible refine w_sl ?_
  | with_reducible refine w_noPart ?_
  | with_reducible refine w_part ?_
  | with_reducible refine w_listRg ?_
  | with_reducible refine w_enumK ?_
  | with_reducible refine w_repF ?_
  | with_reducible refine w_gIC ?_
  | with_reducible refine w_gCat ?_
  | with_reducible refine w_gCatT ?_
  | with_reducible refine w_notN ?_
  | with_reducible refine w_listF ?_
  | with_reducible refine w_neg ?_
  | with_reducible refine w_gIsB ?_
  | with_reducible refine w_not ?_
  | with_reducible refine w_tru ?_
  | with_reducible refine w_callL ?_
  | with_reducible refine w_consO ?_
  | with_reducible refine w_lenO ?_
  | with_reducible refine w_tupleO ?_
  | with_reducible refine w_listO ?_
  | with_reducible refine w_inO ?_
  | with_reducible refine w_truO ?_
  | with_reducible refine w_zipK ?_
  | with_reducible refine w_retN ?_
  | ((with_reducible refine w_aug (a := ?wd) ?wh ?wq); (case wh => exact rfl))
  | with_reducible refine w_gInL ?_
  | with_reducible refine w_gIntI ?_
  | with_reducible refine w_gRevL ?_
  | with_reducible refine w_gSlL ?_
  | with_reducible refine w_gSlT ?_
  | with_reducible refine w_itF ?_
  | with_reducible refine w_gList ?_
  | with_reducible refine w_gSortI ?_
  | with_reducible refine w_range2 ?_
  | ((with_reducible refine w_lcO (ds := ?wd) ?wh ?wq ?wr); (case wh => exact rfl); (case wq => exact rfl))
  | with_reducible refine w_aUnl rfl ?_
  | with_reducible refine w_brk ?_
  | with_reducible refine w_cnt ?_
  | with_reducible refine w_gIntB ?_
  | with_reducible refine w_getD ?_
  | with_reducible refine w_keyS ?_
  | with_reducible refine w_keyI ?_
  | with_reducible refine w_putD ?_
  | with_reducible refine w_ownCallD ?_
  | with_reducible refine w_callDF ?_
  | with_reducible refine w_gIxQL ?_
  | with_reducible refine w_gIxQT ?_
  | ((with_reducible refine w_revO (ds := ?wd) ?wh ?wq); (case wh => exact rfl))
  | ((with_reducible refine w_isNOd (d := ?wd) ?wh ?wq); (case wh => exact rfl))
  | ((with_reducible refine w_isNOo (ds := ?wd) ?wh ?wq); (case wh => exact rfl))
  | simp only [wipeS, backS, List.set_cons_zero, List.set_cons_succ, List.getElem?_cons_zero, List.getElem?_cons_succ, Option.join_some, Option.join_none, Bool.not_true, Bool.not_false]))
local macro_rules | `(tactic| walk_at "wv") => `(tactic| ((repeat (walk_at "wv1"; try dsimp only)); try simp only [List.set_cons_zero, List.set_cons_succ]))
local macro_rules | `(tactic| walk_at "st") => `(tactic| simp only [startS, List.map_cons, List.map_nil, List.length_cons, List.length_nil, Nat.reduceAdd, Nat.reduceSub, List.replicate_succ, List.replicate_zero, List.cons_append, List.nil_append])

section
/-! ### k34: lines and sentences -/
open PySem L2
theorem w_hdTlB {i j : Nat} {f : VE} {S : SS} {kS : FL → Prop} (h : (f S).okTo fun p => ∃ d ds, p.1 = .list (d :: ds) ∧ kS (.nx ((p.2.set i (some (.dat d))).set j (some (.dat (.list ds)))))) : (vHdTl i j f S).okTo kS := by
  unfold vHdTl
  refine okTo_bind.mpr (h.mono fun p hp => ?_)
  obtain ⟨a, S1⟩ := p
  obtain ⟨d, ds, rfl, q⟩ := hp
  exact okTo_ok.mpr q
abbrev strD (x : Str) : PyData := .str x
/-- a line, well made or not -/
inductive Ln
  | bad (x : Str) (ms : List PyData) (h : kgF [("in", 2), ("not", 2), ("and", 3), ("next", 5), ("until", 6), ("within", 7)] x ≠ some ((ms.length : Nat) + 1))
  | set (ss : List Int)
  | nt (i : Int)
  | an (i j : Int)
  | nx (a b : Bool) (n d i : Int)
  | un (a b : Bool) (n d i j : Int)
  | wi (a b : Bool) (n d i j s : Int)
def frD (n d : Int) : PyData := .tuple [.int n, .int d]
def Ln.d : Ln → PyData
  | .bad x ms _ => .tuple (.str x :: ms)
  | .set ss => .tuple [strD "in", .tuple (ss.map .int)]
  | .nt i => .tuple [strD "not", .int i]
  | .an i j => .tuple [strD "and", .int i, .int j]
  | .nx a b n d i => .tuple [strD "next", .bool a, .bool b, frD n d, .int i]
  | .un a b n d i j => .tuple [strD "until", .bool a, .bool b, frD n d, .int i, .int j]
  | .wi a b n d i j s => .tuple [strD "within", .bool a, .bool b, frD n d, .int i, .int j, .int s]
def ascB (many : Int) : Int → List Int → Bool
  | _, [] => true
  | b, s :: ss => decide (b < s) && decide (s < many) && ascB many s ss
theorem asc_cons {many b s : Int} {ss : List Int} : ascB many b (s :: ss) = (decide (b < s) && decide (s < many) && ascB many s ss) := rfl
def earB (at_ i : Int) : Bool := decide (0 ≤ i) && decide (i < at_)
def frB (n d : Int) : Bool := decide (1 ≤ d) && decide (Int.gcd n d = 1) && (decide (0 ≤ n) && decide (n ≤ d))
def Ln.ok (many at_ : Int) : Ln → Bool
  | .bad _ _ _ => false
  | .set ss => ascB many (-1) ss
  | .nt i => earB at_ i
  | .an i j => earB at_ i && earB at_ j
  | .nx _ _ n d i => frB n d && earB at_ i
  | .un _ _ n d i j => frB n d && (earB at_ i && earB at_ j)
  | .wi _ _ n d i j s => frB n d && ((earB at_ i && earB at_ j) && (decide (0 ≤ s) && decide (s ≤ 30)))
theorem bools_all {bs : List Bool} {f : Int → Bool} {is : List Int} (bl : bs.length = is.length) (q : ∀ (i : Nat) (b : Bool), bs[i]? = some b → (b = true ↔ ∀ x, is[i]? = some x → f x = true)) : bs.all id = is.all f := by
  rw [Bool.eq_iff_iff, List.all_eq_true, List.all_eq_true]
  constructor
  · intro h x hx
    obtain ⟨i, hi, rfl⟩ := List.getElem_of_mem hx
    have hb : i < bs.length := by omega
    exact (q i _ (List.getElem?_eq_getElem hb)).mp (h _ (List.getElem_mem hb)) _ (List.getElem?_eq_getElem hi)
  · intro h b hb
    obtain ⟨i, hi, rfl⟩ := List.getElem_of_mem hb
    exact (q i _ (List.getElem?_eq_getElem hi)).mpr fun x hx => h x (List.mem_of_getElem? hx)
theorem are_earlier_ok {at_ : Int} {is : List Int} {k : PyData → Prop} (hl : is.length ≤ 100) (h : k (.bool (is.all (earB at_)))) : (den_are_earlier [.int at_, .list (is.map .int)]).okTo k := by
  unfold den_are_earlier body_are_earlier
  refine w_denP ?_
  walk_at "st"
  walk_at "wv"
  refine ⟨_, rfl, ⟨rfl, by rw [List.length_map]; omega⟩, ?_⟩
  refine lc_bools (fun i => ∀ x, is[i]? = some x → earB at_ x = true) (fun i d kE hd q => ?_) fun bs bl q => ?_
  · obtain ⟨x, hx, rfl⟩ := map_get hd
    have only : (∀ y, is[i]? = some y → earB at_ y = true) ↔ earB at_ x = true := ⟨fun z => z x hx, fun z y hy => by rw [hx] at hy; cases hy; exact z⟩
    rw [only] at q
    walk_at "wv"
    by_cases c : 0 ≤ x
    · rw [if_pos (decide_eq_true c)]
      walk_at "wv"
      exact q _ _ (by unfold earB; rw [decide_eq_true c, Bool.true_and]) rfl
    · rw [if_neg (by simpa using c)]
      exact q _ _ (by unfold earB; rw [decide_eq_false c, Bool.false_and]) rfl
  · walk_at "wv"
    rw [bools_all (by rw [bl, List.length_map]) q]
    exact h
theorem is_set_ok {many : Int} {ss : List Int} {k : PyData → Prop} (h : k (.bool (ascB many (-1) ss))) : (den_is_set [.int many, .tuple (ss.map .int)]).okTo k := by
  unfold den_is_set body_is_set
  refine w_denP ?_
  walk_at "st"
  walk_at "wv"
  refine ⟨_, rfl, ?_⟩
  refine loop_ok (fun i S => ∃ b : Int, S = [some (.dat (.int many)), some (.dat (.tuple (ss.map .int))), some (.dat (.int b)), none] ∧ ascB many (-1) ss = ascB many b (ss.drop i)) ?_ ?_ ⟨-1, rfl, rfl⟩
  · rintro i d S hd ⟨b, rfl, e⟩
    obtain ⟨x, hx, rfl⟩ := map_get hd
    have dr : ss.drop i = x :: ss.drop (i + 1) := by
      obtain ⟨h1, h2⟩ := List.getElem?_eq_some_iff.mp hx
      rw [List.drop_eq_getElem_cons h1, h2]
    rw [dr, asc_cons] at e
    walk_at "wv"
    by_cases c1 : b < x
    rotate_left
    · rw [if_neg (by simpa using c1)]
      rw [decide_eq_false c1, Bool.false_and, Bool.false_and] at e
      try rw [if_pos rfl]
      walk_at "wv"
      try rw [if_pos (by decide)]
      walk_at "wv"
      rw [e] at h
      exact h
    rw [if_pos (decide_eq_true c1)]
    rw [decide_eq_true c1, Bool.true_and] at e
    walk_at "wv"
    by_cases c2 : x < many
    rotate_left
    · rw [decide_eq_false c2, Bool.false_and] at e
      rw [if_pos (by rw [decide_eq_false c2]; rfl)]
      walk_at "wv"
      rw [e] at h
      exact h
    rw [decide_eq_true c2, Bool.true_and] at e
    rw [if_neg (by rw [decide_eq_true c2]; decide)]
    walk_at "wv"
    exact ⟨x, rfl, e⟩
  · rintro S ⟨b, rfl, e⟩
    rw [List.length_map, List.drop_length] at e
    walk_at "wv"
    rw [e] at h
    exact h
theorem is_fraction_okI {n d : Int} {k : PyData → Prop} (h : k (.bool (decide (1 ≤ d) && decide (Int.gcd n d = 1)))) : (den_is_fraction [frD n d]).okTo k := by
  unfold den_is_fraction body_is_fraction frD
  refine w_denP ?_
  walk_at "st"
  walk_at "wv"
  by_cases c : 1 ≤ d
  rotate_left
  · rw [if_neg (by simpa using c)]
    rw [decide_eq_false c, Bool.false_and] at h
    exact h
  rw [if_pos (decide_eq_true c)]
  rw [decide_eq_true c, Bool.true_and] at h
  walk_at "wv"
  refine okTo_eq (a := .int ((Nat.gcd n.natAbs d.natAbs : Nat) : Int)) rfl ?_
  walk_at "wv"
  have : decide (((Nat.gcd n.natAbs d.natAbs : Nat) : Int) = 1) = decide (Int.gcd n d = 1) := decide_eq_decide.mpr ⟨fun z => by show Nat.gcd n.natAbs d.natAbs = 1; omega, fun z => by have z : Nat.gcd n.natAbs d.natAbs = 1 := z; omega⟩
  rw [this]
  exact h
theorem kg_in : kgF [("in", 2), ("not", 2), ("and", 3), ("next", 5), ("until", 6), ("within", 7)] "in" = some 2 := by decide +kernel
theorem kg_not : kgF [("in", 2), ("not", 2), ("and", 3), ("next", 5), ("until", 6), ("within", 7)] "not" = some 2 := by decide +kernel
theorem kg_and : kgF [("in", 2), ("not", 2), ("and", 3), ("next", 5), ("until", 6), ("within", 7)] "and" = some 3 := by decide +kernel
theorem kg_next : kgF [("in", 2), ("not", 2), ("and", 3), ("next", 5), ("until", 6), ("within", 7)] "next" = some 5 := by decide +kernel
theorem kg_until : kgF [("in", 2), ("not", 2), ("and", 3), ("next", 5), ("until", 6), ("within", 7)] "until" = some 6 := by decide +kernel
theorem kg_within : kgF [("in", 2), ("not", 2), ("and", 3), ("next", 5), ("until", 6), ("within", 7)] "within" = some 7 := by decide +kernel
theorem eqS {x y : Str} (hx : PyData.strOk x = true) (hy : PyData.strOk y = true) : gEqD (.str x) (.str y) = .ok (.bool (decide (x = y))) := by
  rw [eq_pn (pn_str (n := 0) hx) (pn_str (n := 0) hy) (by decide) (by decide)]
  congr 2
  exact decide_eq_decide.mpr ⟨fun z => by injection z, fun z => by rw [z]⟩
theorem eq_in_in : gEqD (strD "in") (strD "in") = .ok (.bool true) := (eqS (by decide +kernel) (by decide +kernel)).trans (by rw [decide_eq_true rfl])
theorem eq_ne {x y : Str} (h : decide (x = y) = false) (hx : PyData.strOk x = true) (hy : PyData.strOk y = true) : gEqD (.str x) (.str y) = .ok (.bool false) := (eqS hx hy).trans (by rw [h])
theorem eq_not_in : gEqD (strD "not") (strD "in") = .ok (.bool false) := eq_ne (by decide +kernel) (by decide +kernel) (by decide +kernel)
theorem eq_and_in : gEqD (strD "and") (strD "in") = .ok (.bool false) := eq_ne (by decide +kernel) (by decide +kernel) (by decide +kernel)
theorem eq_next_in : gEqD (strD "next") (strD "in") = .ok (.bool false) := eq_ne (by decide +kernel) (by decide +kernel) (by decide +kernel)
theorem eq_until_in : gEqD (strD "until") (strD "in") = .ok (.bool false) := eq_ne (by decide +kernel) (by decide +kernel) (by decide +kernel)
theorem eq_within_in : gEqD (strD "within") (strD "in") = .ok (.bool false) := eq_ne (by decide +kernel) (by decide +kernel) (by decide +kernel)
theorem eq_next_within : gEqD (strD "next") (strD "within") = .ok (.bool false) := eq_ne (by decide +kernel) (by decide +kernel) (by decide +kernel)
theorem eq_until_within : gEqD (strD "until") (strD "within") = .ok (.bool false) := eq_ne (by decide +kernel) (by decide +kernel) (by decide +kernel)
theorem eq_within_within : gEqD (strD "within") (strD "within") = .ok (.bool true) := (eqS (by decide +kernel) (by decide +kernel)).trans (by rw [decide_eq_true rfl])
theorem in2 {x : Str} {b : Bool} (h : (decide (("not" : Str) = x) || decide (("and" : Str) = x)) = b) : gIn false (.str x) (.tuple [strD "not", strD "and"]) = .ok (.bool b) := by
  rw [← h]
  show R.when _ (R.ok (PyData.bool (eqP (strD "not") (.str x) || (eqP (strD "and") (.str x) || false)))) = _
  rw [R.when_pos ⟨rfl, rfl⟩, Bool.or_false]
  rfl
theorem gNe_kg {o : Option Int} {m : Int} : gNe (kgD o) (.int m) = .ok (.bool (!decide (o = some m))) := by
  cases o with
  | none => rfl
  | some i =>
    show R.ok (PyData.bool (!decide (i = m))) = _
    congr 3
    exact decide_eq_decide.mpr ⟨fun z => by rw [z], fun z => Option.some.inj z⟩
theorem fr_test {n d : Int} {s0 s1 s2 s3 s5 s6 : Option SV} {kT : Bool × SS → Prop} (h : kT (!frB n d, [s0, s1, s2, s3, some (.dat (frD n d)), s5, s6])) : (tNotF (tAndF (vTst (vCallP 1 den_is_fraction (vCons (vVar 4) vNil))) (vTst (vChain (gIB fun i j => decide (i ≤ j)) (gIB fun i j => decide (i ≤ j)) (vC (.int 0)) (vOp gIxT (vVar 4) (vC (.int 0))) (vOp gIxT (vVar 4) (vC (.int 1)))))) [s0, s1, s2, s3, some (.dat (frD n d)), s5, s6]).okTo kT := by
  walk_at "wv"
  refine ⟨rfl, is_fraction_okI ?_⟩
  unfold frB at h
  generalize hf : (decide (1 ≤ d) && decide (Int.gcd n d = 1)) = f at h ⊢
  walk_at "wv"
  cases f with
  | false =>
    rw [Bool.false_and] at h
    try rw [if_neg Bool.false_ne_true]
    exact h
  | true =>
    rw [Bool.true_and] at h
    try rw [if_pos rfl]
    walk_at "wv"
    refine okTo_eq (a := .int n) rfl ?_
    walk_at "wv"
    by_cases c : 0 ≤ n
    rotate_left
    · rw [if_neg (by simpa using c)]
      rw [decide_eq_false c, Bool.false_and] at h
      walk_at "wv"
      exact h
    rw [if_pos (decide_eq_true c)]
    rw [decide_eq_true c, Bool.true_and] at h
    walk_at "wv"
    refine okTo_eq (a := .int d) rfl ?_
    walk_at "wv"
    exact h
theorem is_line_ok {many at_ : Int} {l : Ln} {k : PyData → Prop} (h : k (.bool (l.ok many at_))) : (den_is_line [.int many, .int at_, l.d]).okTo k := by
  unfold den_is_line body_is_line
  refine w_denP ?_
  walk_at "st"
  cases l with
  | bad x ms hb =>
    unfold Ln.d
    refine w_seq (w_starT (w_var rfl ⟨_, rfl, by simp, ?_⟩))
    simp only [setD, List.length_cons, List.length_nil, Nat.reduceAdd, List.take_succ_cons, List.take_zero, List.drop_succ_cons, List.drop_zero, List.set_cons_succ, List.set_cons_zero]
    refine w_seq (w_ifS (w_tst (w_op (w_kget (w_var rfl ⟨_, rfl, ?_⟩)))))
    walk_at "wv"
    refine okTo_eq gNe_kg ?_
    walk_at "wv"
    rw [if_pos (by
      rw [decide_eq_false (fun e => hb (by rw [e, List.length_cons]; rfl))]
      rfl)]
    walk_at "wv"
    exact h
  | set ss =>
    unfold Ln.d
    refine w_seq (w_starT (w_var rfl ⟨_, rfl, by simp, ?_⟩))
    simp only [setD, List.length_cons, List.length_nil, Nat.reduceAdd, List.take_succ_cons, List.take_zero, List.drop_succ_cons, List.drop_zero, List.set_cons_succ, List.set_cons_zero]
    refine w_seq (w_ifS (w_tst (w_op (w_kget (w_var rfl ⟨_, rfl, ?_⟩)))))
    rw [kg_in]
    walk_at "wv"
    refine okTo_eq (a := .bool false) rfl ?_
    walk_at "wv"
    refine okTo_eq eq_in_in ?_
    walk_at "wv"
    refine okTo_eq (a := .tuple (ss.map .int)) rfl ?_
    walk_at "wv"
    exact ⟨rfl, is_set_ok h⟩
  | nt i =>
    unfold Ln.d
    refine w_seq (w_starT (w_var rfl ⟨_, rfl, by simp, ?_⟩))
    simp only [setD, List.length_cons, List.length_nil, Nat.reduceAdd, List.take_succ_cons, List.take_zero, List.drop_succ_cons, List.drop_zero, List.set_cons_succ, List.set_cons_zero]
    refine w_seq (w_ifS (w_tst (w_op (w_kget (w_var rfl ⟨_, rfl, ?_⟩)))))
    rw [kg_not]
    walk_at "wv"
    refine okTo_eq (a := .bool false) rfl ?_
    walk_at "wv"
    refine okTo_eq eq_not_in ?_
    walk_at "wv"
    refine ⟨by simp, ?_⟩
    refine okTo_eq (in2 (b := true) (by decide +kernel)) ?_
    walk_at "wv"
    refine ⟨rfl, are_earlier_ok (is := [i]) (by simp) ?_⟩
    rw [show [i].all (earB at_) = (Ln.nt i).ok many at_ by simp [Ln.ok]]
    exact h
  | an i j =>
    unfold Ln.d
    refine w_seq (w_starT (w_var rfl ⟨_, rfl, by simp, ?_⟩))
    simp only [setD, List.length_cons, List.length_nil, Nat.reduceAdd, List.take_succ_cons, List.take_zero, List.drop_succ_cons, List.drop_zero, List.set_cons_succ, List.set_cons_zero]
    refine w_seq (w_ifS (w_tst (w_op (w_kget (w_var rfl ⟨_, rfl, ?_⟩)))))
    rw [kg_and]
    walk_at "wv"
    refine okTo_eq (a := .bool false) rfl ?_
    walk_at "wv"
    refine okTo_eq eq_and_in ?_
    walk_at "wv"
    refine ⟨by simp, ?_⟩
    refine okTo_eq (in2 (b := true) (by decide +kernel)) ?_
    walk_at "wv"
    refine ⟨rfl, are_earlier_ok (is := [i, j]) (by simp) ?_⟩
    rw [show [i, j].all (earB at_) = (Ln.an i j).ok many at_ by simp [Ln.ok]]
    exact h
  | nx a b n d i =>
    unfold Ln.d
    refine w_seq (w_starT (w_var rfl ⟨_, rfl, by simp, ?_⟩))
    simp only [setD, List.length_cons, List.length_nil, Nat.reduceAdd, List.take_succ_cons, List.take_zero, List.drop_succ_cons, List.drop_zero, List.set_cons_succ, List.set_cons_zero]
    refine w_seq (w_ifS (w_tst (w_op (w_kget (w_var rfl ⟨_, rfl, ?_⟩)))))
    rw [kg_next]
    walk_at "wv"
    refine okTo_eq (a := .bool false) rfl ?_
    walk_at "wv"
    refine okTo_eq eq_next_in ?_
    walk_at "wv"
    refine ⟨by simp, ?_⟩
    refine okTo_eq (in2 (b := false) (by decide +kernel)) ?_
    walk_at "wv"
    refine w_hdTlB ?_
    walk_at "wv"
    refine ⟨frD n d, [.int i], rfl, ?_⟩
    refine w_seq (w_ifS (fr_test ?_))
    by_cases f : frB n d = true
    rotate_left
    · rw [Bool.not_eq_true] at f
      rw [if_pos (by rw [f]; rfl)]
      walk_at "wv"
      simp only [Ln.ok, f, Bool.false_and] at h
      exact h
    rw [if_neg (by simp [f])]
    simp only [Ln.ok, f, Bool.true_and] at h
    walk_at "wv"
    refine okTo_eq eq_next_within ?_
    walk_at "wv"
    refine ⟨rfl, are_earlier_ok (is := [i]) (by simp) ?_⟩
    rw [show [i].all (earB at_) = earB at_ i by simp]
    exact h
  | un a b n d i j =>
    unfold Ln.d
    refine w_seq (w_starT (w_var rfl ⟨_, rfl, by simp, ?_⟩))
    simp only [setD, List.length_cons, List.length_nil, Nat.reduceAdd, List.take_succ_cons, List.take_zero, List.drop_succ_cons, List.drop_zero, List.set_cons_succ, List.set_cons_zero]
    refine w_seq (w_ifS (w_tst (w_op (w_kget (w_var rfl ⟨_, rfl, ?_⟩)))))
    rw [kg_until]
    walk_at "wv"
    refine okTo_eq (a := .bool false) rfl ?_
    walk_at "wv"
    refine okTo_eq eq_until_in ?_
    walk_at "wv"
    refine ⟨by simp, ?_⟩
    refine okTo_eq (in2 (b := false) (by decide +kernel)) ?_
    walk_at "wv"
    refine w_hdTlB ?_
    walk_at "wv"
    refine ⟨frD n d, [.int i, .int j], rfl, ?_⟩
    refine w_seq (w_ifS (fr_test ?_))
    by_cases f : frB n d = true
    rotate_left
    · rw [Bool.not_eq_true] at f
      rw [if_pos (by rw [f]; rfl)]
      walk_at "wv"
      simp only [Ln.ok, f, Bool.false_and] at h
      exact h
    rw [if_neg (by simp [f])]
    simp only [Ln.ok, f, Bool.true_and] at h
    walk_at "wv"
    refine okTo_eq eq_until_within ?_
    walk_at "wv"
    refine ⟨rfl, are_earlier_ok (is := [i, j]) (by simp) ?_⟩
    rw [show [i, j].all (earB at_) = (earB at_ i && earB at_ j) by simp]
    exact h
  | wi a b n d i j s =>
    unfold Ln.d
    refine w_seq (w_starT (w_var rfl ⟨_, rfl, by simp, ?_⟩))
    simp only [setD, List.length_cons, List.length_nil, Nat.reduceAdd, List.take_succ_cons, List.take_zero, List.drop_succ_cons, List.drop_zero, List.set_cons_succ, List.set_cons_zero]
    refine w_seq (w_ifS (w_tst (w_op (w_kget (w_var rfl ⟨_, rfl, ?_⟩)))))
    rw [kg_within]
    walk_at "wv"
    refine okTo_eq (a := .bool false) rfl ?_
    walk_at "wv"
    refine okTo_eq eq_within_in ?_
    walk_at "wv"
    refine ⟨by simp, ?_⟩
    refine okTo_eq (in2 (b := false) (by decide +kernel)) ?_
    walk_at "wv"
    refine w_hdTlB ?_
    walk_at "wv"
    refine ⟨frD n d, [.int i, .int j, .int s], rfl, ?_⟩
    refine w_seq (w_ifS (fr_test ?_))
    by_cases f : frB n d = true
    rotate_left
    · rw [Bool.not_eq_true] at f
      rw [if_pos (by rw [f]; rfl)]
      walk_at "wv"
      simp only [Ln.ok, f, Bool.false_and] at h
      exact h
    rw [if_neg (by simp [f])]
    simp only [Ln.ok, f, Bool.true_and] at h
    walk_at "wv"
    refine okTo_eq eq_within_within ?_
    walk_at "wv"
    refine ⟨rfl, are_earlier_ok (is := [i, j]) (by simp) ?_⟩
    rw [show [i, j].all (earB at_) = (earB at_ i && earB at_ j) by simp]
    generalize (earB at_ i && earB at_ j) = g at h ⊢
    walk_at "wv"
    cases g with
    | false =>
      rw [if_neg Bool.false_ne_true]
      rw [Bool.false_and] at h
      exact h
    | true =>
      rw [if_pos rfl]
      rw [Bool.true_and] at h
      walk_at "wv"
      refine okTo_eq (a := .int s) rfl ?_
      walk_at "wv"
      by_cases c : 0 ≤ s
      rotate_left
      · rw [if_neg (by simpa using c)]
        rw [decide_eq_false c, Bool.false_and] at h
        exact h
      rw [if_pos (decide_eq_true c)]
      rw [decide_eq_true c, Bool.true_and] at h
      walk_at "wv"
      exact h
/-- a sentence's lines, each at its place -/
def allOk (many : Int) (L : List Ln) : Prop := ∀ (i : Nat) (l : Ln), L[i]? = some l → l.ok many i = true
theorem is_valid_ok {y : List (List Cho)} {L : List Ln} {k : PyData → Prop} (hl : L.length ≤ 1000) (h : ∀ b : Bool, (b = true ↔ (1 ≤ L.length ∧ L.length ≤ 40) ∧ allOk (y.length : Nat) L) → k (.bool b)) : (den_is_valid [dY y, .tuple (L.map Ln.d)]).okTo k := by
  have no : ¬ ((1 ≤ L.length ∧ L.length ≤ 40) ∧ allOk (y.length : Nat) L) → k (.bool false) := fun n => h false ⟨(fun z => nomatch z), fun z => absurd z n⟩
  unfold den_is_valid body_is_valid
  refine w_denP ?_
  walk_at "st"
  walk_at "wv"
  rw [List.length_map]
  by_cases c1 : 1 ≤ L.length
  rotate_left
  · rw [if_neg (fun z => c1 (by have := of_decide_eq_true z; omega))]
    walk_at "wv"
    exact no fun z => c1 z.1.1
  rw [if_pos (by simpa using show (1 : Int) ≤ (L.length : Nat) by omega)]
  walk_at "wv"
  by_cases c2 : L.length ≤ 40
  rotate_left
  · rw [if_pos (by rw [decide_eq_false (show ¬ ((L.length : Nat) : Int) ≤ 40 by omega)]; rfl)]
    walk_at "wv"
    exact no fun z => c2 z.1.2
  rw [if_neg (by rw [decide_eq_true (show ((L.length : Nat) : Int) ≤ 40 by omega)]; decide)]
  walk_at "wv"
  refine ⟨_, _, rfl, rfl, ⟨rfl, by rw [enumD_len]; simp; omega⟩, ?_⟩
  refine lc_bools (fun i => ∀ l, L[i]? = some l → l.ok (y.length : Nat) i = true) (fun i d kE hd q => ?_) fun bs bl q => ?_
  · have il : i < L.length := by
      have := (List.getElem?_eq_some_iff.mp hd).1
      rw [enumD_len] at this
      simpa using this
    have hl := List.getElem?_eq_getElem il
    rw [enumD_get (d := (L[i]).d) (by rw [List.getElem?_map, hl]; rfl)] at hd
    cases hd
    have only : (∀ l, L[i]? = some l → l.ok (y.length : Nat) i = true) ↔ (L[i]).ok (y.length : Nat) i = true := ⟨fun z => z _ hl, fun z l e => by rw [hl] at e; cases e; exact z⟩
    rw [only] at q
    walk_at "wv"
    refine okTo_eq gLen_y ?_
    walk_at "wv"
    refine ⟨rfl, is_line_ok ?_⟩
    exact q _ _ Iff.rfl rfl
  · have ha := all_iff bl q
    rw [enumD_len, List.length_map] at ha
    walk_at "wv"
    refine h _ (ha.trans ⟨fun z => ⟨⟨c1, c2⟩, fun i l e => z i (List.getElem?_eq_some_iff.mp e).1 l e⟩, fun z i _ l e => z.2 i l e⟩)
theorem asc_of {n : Int} : ∀ {ss : List Int} {b : Int}, (∀ x ∈ ss, b < x ∧ x < n) → ss.Pairwise (· < ·) → ascB n b ss = true
  | [], _, _, _ => rfl
  | s :: ss, b, h, p => by
    obtain ⟨p1, p2⟩ := List.pairwise_cons.mp p
    rw [asc_cons, decide_eq_true (h s List.mem_cons_self).1, decide_eq_true (h s List.mem_cons_self).2, Bool.true_and, Bool.true_and]
    exact asc_of (fun x hx => ⟨p1 x hx, (h x (List.mem_cons_of_mem s hx)).2⟩) p2
theorem b_chance_ok {N : Int} {kvs : List (Key × PyData)} {k : PyData × List (Key × PyData) → Prop} (b : BoxK N kvs) (h : ∀ n d kvs', frB n d = true → BoxK (N + 1) kvs' → k (frD n d, kvs')) : (den_b_chance kvs []).okTo k := by
  unfold den_b_chance body_b_chance
  refine w_denD ?_
  walk_at "st"
  walk_at "wv"
  refine ⟨by simp, ?_⟩
  walk_at "wv"
  refine ⟨by simp, ?_⟩
  walk_at "wv"
  refine ⟨by simp, ?_⟩
  walk_at "wv"
  refine ⟨by simp, ?_⟩
  walk_at "wv"
  refine ⟨by simp, ?_⟩
  walk_at "wv"
  refine ⟨by simp, ?_⟩
  walk_at "wv"
  refine ⟨by simp, ?_⟩
  walk_at "wv"
  refine ⟨by simp, ?_⟩
  walk_at "wv"
  refine ⟨rfl, b_next_ok b (by decide) fun r kvs1 r0 r1 b1 => ?_⟩
  walk_at "wv"
  obtain ⟨n, d, e, f⟩ : ∃ n d : Int, ixD [PyData.tuple [.int 0, .int 1], .tuple [.int 1, .int 1], .tuple [.int 1, .int 2], .tuple [.int 1, .int 3], .tuple [.int 2, .int 3], .tuple [.int 1, .int 4], .tuple [.int 3, .int 4]] r = .ok (frD n d) ∧ frB n d = true := by
    rcases (show r = 0 ∨ r = 1 ∨ r = 2 ∨ r = 3 ∨ r = 4 ∨ r = 5 ∨ r = 6 by omega) with rfl | rfl | rfl | rfl | rfl | rfl | rfl
    · exact ⟨0, 1, rfl, by decide +kernel⟩
    · exact ⟨1, 1, rfl, by decide +kernel⟩
    · exact ⟨1, 2, rfl, by decide +kernel⟩
    · exact ⟨1, 3, rfl, by decide +kernel⟩
    · exact ⟨2, 3, rfl, by decide +kernel⟩
    · exact ⟨1, 4, rfl, by decide +kernel⟩
    · exact ⟨3, 4, rfl, by decide +kernel⟩
  refine okTo_eq e ?_
  walk_at "wv"
  exact h n d kvs1 f b1
theorem in_ret {N : Int} {kvs : List (Key × PyData)} {n : Nat} {s2 s3 : Option SV} {kS : FL → Prop} (b : BoxK N kvs) (hn : 1 ≤ n ∧ n ≤ 20) (h : ∀ ss kvs' S', ascB (n : Nat) (-1) ss = true → BoxK (N + 20) kvs' → S' = [some (.dic kvs'), some (.dat (.int (n : Nat))), s2, s3, none, none, none, none] → kS (.rt (Ln.set ss).d S')) :
    (vRet (vTup (vCons (vC (.str "in")) (vCons (vCall gTuple (vCons (vFr (vLc [7] (vRange1 (vCons (vVar 1) vNil)) (aName 7) (vTst (vOp gEq (vCallD 1 den_b_next 0 (vCons (vC (.int 2)) vNil)) (vC (.int 0)))) (vVar 7))) vNil)) vNil))) [some (.dic kvs), some (.dat (.int (n : Nat))), s2, s3, none, none, none, none]).okTo kS := by
  walk_at "wv"
  refine ⟨_, rfl, ⟨by omega, by omega⟩, ⟨by cases s2 <;> cases s3 <;> rfl, by rw [rangeD_len]; omega⟩, ?_⟩
  rw [Int.toNat_natCast]
  refine lc_ok (fun p acc Z => ∃ (kvs : List (Key × PyData)) (ss : List Int), acc = ss.map PyData.int ∧ Z = [some (.dic kvs), some (.dat (.int (n : Nat))), s2, s3, none, none, none, none] ∧ BoxK (N + p) kvs ∧ (∀ x ∈ ss, -1 < x ∧ x < (p : Int)) ∧ ss.Pairwise (· < ·)) ?_ ?_ ⟨kvs, [], rfl, rfl, b.up (by omega), (fun x hx => by cases hx), .nil⟩
  · rintro p dp acc Z hp ⟨kvs, ss, rfl, rfl, b, hs, pw⟩
    obtain ⟨hp1, rfl⟩ := rangeD_get hp
    rw [Int.zero_add]
    walk_at "wv"
    refine ⟨rfl, b_next_ok b (by decide) fun r kvs1 r0 r1 b1 => ?_⟩
    walk_at "wv"
    by_cases c : r = 0
    · rw [if_pos (decide_eq_true c)]
      walk_at "wv"
      refine ⟨kvs1, ss ++ [(p : Int)], by rw [List.map_append]; rfl, rfl, b1.up (by omega), fun x hx => ?_, ?_⟩
      · rcases List.mem_append.mp hx with hx | hx
        · have := hs x hx
          omega
        · rw [List.mem_singleton.mp hx]
          omega
      · rw [List.pairwise_append]
        exact ⟨pw, List.pairwise_singleton _ _, fun x hx z hz => by rw [List.mem_singleton.mp hz]; exact (hs x hx).2⟩
    · rw [if_neg (by simpa using c)]
      walk_at "wv"
      exact ⟨kvs1, ss, rfl, rfl, b1.up (by omega), fun x hx => by have := hs x hx; omega, pw⟩
  rintro acc Z ⟨kvs1, ss, rfl, rfl, b1, hs, pw⟩
  rw [rangeD_len] at b1 hs
  walk_at "wv"
  refine ⟨by simp, ?_⟩
  exact h ss kvs1 _ (asc_of hs pw) (b1.up (by omega)) rfl
theorem b_line_ok {N : Int} {kvs : List (Key × PyData)} {n m : Nat} {k : PyData × List (Key × PyData) → Prop} (b : BoxK N kvs) (hn : 1 ≤ n ∧ n ≤ 20) (h : ∀ l kvs', Ln.ok (n : Nat) (m : Nat) l = true → BoxK (N + 100) kvs' → k (l.d, kvs')) : (den_b_line kvs [.int (n : Nat), .int (m : Nat)]).okTo k := by
  unfold den_b_line body_b_line
  refine w_denD ?_
  walk_at "st"
  walk_at "wv"
  refine ⟨rfl, b_next_ok b (by decide) fun r kvs1 r0 r1 b1 => ?_⟩
  walk_at "wv"
  by_cases c0 : (m : Int) = 0
  · rw [if_pos (decide_eq_true c0)]
    rw [if_pos trivial]
    refine in_ret b1 hn fun ss kvs' S' a q e => ?_
    subst e
    walk_at "wv"
    exact h _ _ a (q.up (by omega))
  rw [if_neg (by simpa using c0)]
  walk_at "wv"
  by_cases c1 : r = 0
  · rw [if_pos (decide_eq_true c1)]
    refine in_ret b1 hn fun ss kvs' S' a q e => ?_
    subst e
    walk_at "wv"
    exact h _ _ a (q.up (by omega))
  rw [if_neg (by simpa using c1)]
  walk_at "wv"
  refine ⟨rfl, b_next_ok b1 (by omega) fun one kvs2 o0 o1 b2 => ?_⟩
  walk_at "wv"
  refine ⟨rfl, b_next_ok b2 (by omega) fun two kvs3 t0 t1 b3 => ?_⟩
  have e1 : earB (m : Nat) one = true := by unfold earB; rw [decide_eq_true o0, decide_eq_true o1]; rfl
  have e2 : earB (m : Nat) two = true := by unfold earB; rw [decide_eq_true t0, decide_eq_true t1]; rfl
  walk_at "wv"
  by_cases c2 : r = 1
  · rw [if_pos (decide_eq_true c2)]
    walk_at "wv"
    refine ⟨by simp, ?_⟩
    exact h (.nt one) _ e1 (b3.up (by omega))
  rw [if_neg (by simpa using c2)]
  walk_at "wv"
  by_cases c3 : r = 2
  · rw [if_pos (decide_eq_true c3)]
    walk_at "wv"
    refine ⟨by simp, ?_⟩
    exact h (.an one two) _ (by simp only [Ln.ok, e1, e2, Bool.and_self]) (b3.up (by omega))
  rw [if_neg (by simpa using c3)]
  walk_at "wv"
  refine ⟨rfl, b_next_ok b3 (by decide) fun r4 kvs4 _ _ b4 => ?_⟩
  walk_at "wv"
  refine ⟨rfl, b_next_ok b4 (by decide) fun r5 kvs5 _ _ b5 => ?_⟩
  walk_at "wv"
  refine ⟨rfl, b_chance_ok b5 fun fn fd kvs6 f b6 => ?_⟩
  generalize decide (r4 = 0) = x4
  generalize decide (r5 = 0) = x5
  walk_at "wv"
  refine ⟨by simp, ?_⟩
  walk_at "wv"
  by_cases c4 : r = 3
  · rw [if_pos (decide_eq_true c4)]
    walk_at "wv"
    refine ⟨by simp, ?_⟩
    walk_at "wv"
    refine ⟨by simp, ?_⟩
    walk_at "wv"
    refine ⟨by simp, ?_⟩
    walk_at "wv"
    refine ⟨by simp, ?_⟩
    walk_at "wv"
    exact h (.nx x4 x5 fn fd one) _ (by simp only [Ln.ok, e1, f, Bool.and_self]) (b6.up (by omega))
  rw [if_neg (by simpa using c4)]
  walk_at "wv"
  by_cases c5 : r = 4
  · rw [if_pos (decide_eq_true c5)]
    walk_at "wv"
    refine ⟨by simp, ?_⟩
    walk_at "wv"
    refine ⟨by simp, ?_⟩
    walk_at "wv"
    refine ⟨by simp, ?_⟩
    walk_at "wv"
    refine ⟨by simp, ?_⟩
    walk_at "wv"
    exact h (.un x4 x5 fn fd one two) _ (by simp only [Ln.ok, e1, e2, f, Bool.and_self]) (b6.up (by omega))
  rw [if_neg (by simpa using c5)]
  walk_at "wv"
  refine ⟨by simp, ?_⟩
  walk_at "wv"
  refine ⟨by simp, ?_⟩
  walk_at "wv"
  refine ⟨by simp, ?_⟩
  walk_at "wv"
  refine ⟨rfl, b_next_ok b6 (by decide) fun r7 kvs7 g0 g1 b7 => ?_⟩
  walk_at "wv"
  obtain ⟨st, e, s0, s1⟩ : ∃ st : Int, ixD [PyData.int 0, .int 1, .int 4, .int 29, .int 30] r7 = .ok (.int st) ∧ 0 ≤ st ∧ st ≤ 30 := by
    rcases (show r7 = 0 ∨ r7 = 1 ∨ r7 = 2 ∨ r7 = 3 ∨ r7 = 4 by omega) with rfl | rfl | rfl | rfl | rfl
    · exact ⟨0, rfl, by decide, by decide⟩
    · exact ⟨1, rfl, by decide, by decide⟩
    · exact ⟨4, rfl, by decide, by decide⟩
    · exact ⟨29, rfl, by decide, by decide⟩
    · exact ⟨30, rfl, by decide, by decide⟩
  refine okTo_eq e ?_
  walk_at "wv"
  refine ⟨by simp, ?_⟩
  walk_at "wv"
  refine ⟨by simp, ?_⟩
  walk_at "wv"
  exact h (.wi x4 x5 fn fd one two st) _ (by simp only [Ln.ok, e1, e2, f, decide_eq_true s0, decide_eq_true s1, Bool.and_self]) (b7.up (by omega))
theorem b_sentence_ok {N m : Int} {kvs : List (Key × PyData)} {n : Nat} {k : PyData × List (Key × PyData) → Prop} (b : BoxK N kvs) (hn : 1 ≤ n ∧ n ≤ 20) (hm : 1 ≤ m ∧ m ≤ 30) (h : ∀ L kvs', 1 ≤ L.length → L.length ≤ m.toNat → allOk (n : Nat) L → BoxK (N + 100000) kvs' → k (.tuple (L.map Ln.d), kvs')) : (den_b_sentence kvs [.int (n : Nat), .int m]).okTo k := by
  unfold den_b_sentence body_b_sentence
  refine w_denD ?_
  walk_at "st"
  walk_at "wv"
  refine ⟨by simp, ?_⟩
  walk_at "wv"
  refine ⟨rfl, b_next_ok b (by omega) fun r kvs1 r0 r1 b1 => ?_⟩
  walk_at "wv"
  generalize ht : 1 + r = t
  obtain ⟨t, rfl⟩ : ∃ u : Nat, t = (u : Int) := ⟨t.toNat, by omega⟩
  refine ⟨_, rfl, ⟨by omega, by omega⟩, ?_⟩
  rw [Int.toNat_natCast]
  refine loop_ok (fun i S => ∃ (kvs : List (Key × PyData)) (L : List Ln), S = [some (.dic kvs), some (.dat (.int (n : Nat))), some (.dat (.int m)), some (.own (L.map Ln.d)), none] ∧ BoxK (N + 1 + 100 * i) kvs ∧ L.length = i ∧ allOk (n : Nat) L) ?_ ?_ ⟨kvs1, [], rfl, b1.up (by omega), rfl, fun i l e => by cases e⟩
  · rintro i d S hd ⟨kvs, L, rfl, b, ll, al⟩
    obtain ⟨hi, rfl⟩ := rangeD_get hd
    rw [Int.zero_add]
    walk_at "wv"
    refine ⟨rfl, b_line_ok b hn fun l kvs2 lo b2 => ?_⟩
    walk_at "wv"
    refine ⟨by rw [List.length_map]; omega, kvs2, L ++ [l], by rw [List.map_append]; rfl, b2.up (by omega), by rw [List.length_append, ll]; rfl, fun j l' e => ?_⟩
    by_cases c : j < L.length
    · rw [List.getElem?_append_left c] at e
      exact al j l' e
    · rw [List.getElem?_append_right (by omega), List.getElem?_singleton] at e
      split at e
      · cases e
        rw [show j = i by omega]
        exact lo
      · cases e
  · rintro S ⟨kvs, L, rfl, b, ll, al⟩
    rw [rangeD_len] at ll b
    walk_at "wv"
    exact h L kvs (by omega) (by omega) al (b.up (by omega))

end
section
/-! ### k34: the law -/
open PySem L2
def bads1 (n m : Int) : List Ln :=
  [.set [n], .set [0 - 1], .set [0, 0], .bad "in" [] (by decide +kernel), .bad "in" [.tuple [.int 0], .int 0] (by decide +kernel), .nt m, .nt (0 - 1)] ++
  [.an 0 m, .bad "and" [.int 0] (by decide +kernel), .bad "not" [] (by decide +kernel), .bad "or" [.int 0, .int 0] (by decide +kernel), .nx true true 1 2 m, .bad "until" [.bool true] (by decide +kernel)] ++
  [.nx true true 3 2 0, .nx true false (0 - 1) 2 0, .nx true true 2 4 0] ++
  [.bad "next" [.bool true, .bool true, frD 1 2, .int 0, .int 0] (by decide +kernel), .bad "until" [.bool true, .bool true, frD 1 2, .int 0] (by decide +kernel), .un true true 1 2 m 0] ++
  [.un false true 1 0 0 0, .wi true true 1 2 0 0 31, .bad "" [.int 0] (by decide +kernel), .bad "chance" [frD 1 2] (by decide +kernel)] ++
  [.wi true true 1 2 0 0 (0 - 1), .bad "within" [.bool true, .bool true, frD 1 2, .int 0, .int 0] (by decide +kernel), .un true true 4 3 0 0] ++
  [.wi true true 1 2 0 m 3, .wi true true 0 2 0 0 3, .wi true true 2 1 0 0 3] ++
  [.an m 0, .an (0 - 1) 0, .an 0 (0 - 1), .un true true 1 2 0 m] ++
  [.un true true 1 2 (0 - 1) 0, .un true true 1 2 0 (0 - 1), .nx true true 1 2 (0 - 1)] ++
  [.wi true true 1 2 m 0 3, .wi true true 1 2 0 (0 - 1) 3, .set [0, n]]
def bads2 (n m : Int) : List Ln := bads1 n m ++ [.set [1, 0], .set [n - 1, 0], .set [0, 1, 1]]
theorem bad1_no {n m : Int} (hn : 1 ≤ n) (hm : 1 ≤ m) : ∀ l ∈ bads1 n m, l.ok n m = false := by
  intro l hl
  unfold bads1 at hl
  simp only [List.mem_append, List.mem_cons, List.not_mem_nil, or_false] at hl
  have e0 : earB m m = false := by unfold earB; simp
  have e1 : earB m (0 - 1) = false := by unfold earB; simp
  have e2 : earB m (-1) = false := by unfold earB; simp
  have f8 : frB (-1) 2 = false := by decide +kernel
  have n1 : ¬ n ≤ -1 := by omega
  have f1 : frB 3 2 = false := by decide +kernel
  have f2 : frB (0 - 1) 2 = false := by decide +kernel
  have f3 : frB 2 4 = false := by decide +kernel
  have f4 : frB 1 0 = false := by decide +kernel
  have f5 : frB 4 3 = false := by decide +kernel
  have f6 : frB 0 2 = false := by decide +kernel
  have f7 : frB 2 1 = false := by decide +kernel
  rcases hl with (((((((((h | h | h | h | h | h | h) | h | h | h | h | h | h) | h | h | h) | h | h | h) | h | h | h | h) | h | h | h) | h | h | h) | h | h | h | h) | h | h | h) | h | h | h <;> subst h <;> simp [Ln.ok, asc_cons, ascB, e0, e1, e2, f1, f2, f3, f4, f5, f6, f7, f8]
theorem bad2_no {n m : Int} (hn : 1 < n) (hm : 1 ≤ m) : ∀ l ∈ bads2 n m, l.ok n m = false := by
  intro l hl
  unfold bads2 at hl
  rcases List.mem_append.mp hl with hl | hl
  · exact bad1_no (by omega) hm l hl
  · simp only [List.mem_cons, List.not_mem_nil, or_false] at hl
    rcases hl with h | h | h <;> subst h <;> simp [Ln.ok, asc_cons, ascB] <;> omega
theorem law_worth {ns : List Int} (hl : ns.length ≤ 63) : (den_law ns).okTo fun z => z = .bool true := by
  unfold den_law body_law
  refine w_denS ?_
  simp only [Nat.reduceSub, List.replicate_succ, List.replicate_zero]
  walk_at "wv"
  refine b_box_ok hl fun kvs b => ?_
  walk_at "wv"
  refine ⟨rfl, b_next_ok b (by decide) fun r1 kvs1 r10 r11 b1 => ?_⟩
  walk_at "wv"
  generalize hn : 1 + r1 = n1
  obtain ⟨n, rfl, n5, n20⟩ : ∃ n : Nat, n1 = (n : Int) ∧ 1 ≤ n ∧ n ≤ 5 := ⟨n1.toNat, by omega, by omega, by omega⟩
  walk_at "wv"
  refine ⟨rfl, ?_⟩
  rw [show den_b_system = den_b_systemN 3 from rfl]
  refine b_system_ok b1 ⟨by omega, by omega⟩ (by decide) (by decide) (by decide) fun y kvs5 hy yn b5 => ?_
  walk_at "wv"
  refine ⟨rfl, b_sentence_ok b5 ⟨by omega, by omega⟩ (by decide) fun L kvs6 l1 l2 al b6 => ?_⟩
  have l2 : L.length ≤ 8 := l2
  walk_at "wv"
  rw [← yn] at al
  refine ⟨rfl, is_valid_ok (by omega) fun v1 h1 => ?_⟩
  rw [h1.mpr ⟨⟨l1, by omega⟩, al⟩]
  walk_at "wv"
  rw [if_neg (by simp)]
  walk_at "wv"
  refine ⟨by simp, ?_⟩
  walk_at "wv"
  rw [show PyData.tuple [] = .tuple (([] : List Ln).map Ln.d) from rfl]
  refine ⟨rfl, is_valid_ok (by simp) fun v2 h2 => ?_⟩
  have v2f : v2 = false := by
    cases v2 with
    | false => rfl
    | true => exact absurd (h2.mp rfl).1.1 (by simp)
  rw [v2f]
  walk_at "wv"
  rw [if_neg (by simp)]
  walk_at "wv"
  rw [List.length_map]
  generalize hm : L.length = m at *
  repeat (first | (refine ⟨by simp, ?_⟩; walk_at "wv"))
  refine ite_join (P := fun fl => ∃ B : List Ln, fl = .nx [some (.scr ns), some (.dic kvs6), some (.dat (.int (n : Nat))), some (.dat (dY y)), some (.dat (.tuple (L.map Ln.d))), some (.dat (.int (m : Nat))), some (.dat (.tuple [.int 1, .int 2])), some (.dat (.list (B.map Ln.d))), some (.dat (.int (0 - 1))), none, none] ∧ (∀ l ∈ B, l.ok (n : Nat) (m : Nat) = false) ∧ 1 ≤ B.length ∧ B.length ≤ 100) ?_ (fun c => ?_) (fun c => ?_)
  rotate_left
  · walk_at "wv"
    repeat (first | (refine ⟨by simp, ?_⟩; walk_at "wv"))
    exact ⟨bads2 (n : Nat) (m : Nat), rfl, bad2_no (by simpa using c) (by omega), by simp [bads2, bads1], by simp [bads2, bads1]⟩
  · walk_at "wv"
    exact ⟨bads1 (n : Nat) (m : Nat), rfl, bad1_no (by omega) (by omega), by simp [bads1], by simp [bads1]⟩
  rintro fl ⟨B, rfl, hB, B1, B2⟩
  walk_at "wv"
  rw [List.length_map]
  refine ⟨rfl, b_next_ok b6 (by omega) fun r7 kvs7 g0 g1 b7 => ?_⟩
  obtain ⟨j, rfl⟩ : ∃ j : Nat, r7 = (j : Int) := ⟨r7.toNat, by omega⟩
  have jl : j < B.length := by omega
  have lo := hB _ (List.getElem_mem jl)
  have lg := List.getElem?_eq_getElem jl
  generalize B[j] = l at lo lg
  walk_at "wv"
  refine okTo_eq (a := l.d) (ixD_nat (ds := B.map Ln.d) (by rw [List.getElem?_map, lg]; rfl)) ?_
  walk_at "wv"
  refine ⟨by simp, ?_⟩
  walk_at "wv"
  refine ⟨by rw [List.length_map]; simp; omega, ?_⟩
  walk_at "wv"
  have noV : ∀ (T : List Ln) (v : Bool), (v = true ↔ (1 ≤ (L ++ l :: T).length ∧ (L ++ l :: T).length ≤ 40) ∧ allOk (y.length : Nat) (L ++ l :: T)) → v = false := fun T v hv => by
    cases v with
    | false => rfl
    | true =>
      have := (hv.mp rfl).2 m l (by rw [← hm, List.getElem?_append_right (Nat.le_refl _), Nat.sub_self]; rfl)
      rw [yn, lo] at this
      cases this
  rw [show L.map Ln.d ++ [l.d] = (L ++ l :: []).map Ln.d by rw [List.map_append]; rfl]
  refine ⟨rfl, is_valid_ok (by rw [List.length_append, List.length_singleton]; omega) fun v3 h3 => ?_⟩
  rw [noV [] v3 h3]
  walk_at "wv"
  rw [if_neg (by simp)]
  walk_at "wv"
  refine ⟨by simp, ?_⟩
  walk_at "wv"
  refine ⟨by simp, ?_⟩
  walk_at "wv"
  refine ⟨by simp, ?_⟩
  walk_at "wv"
  refine ⟨by rw [List.length_map]; simp; omega, ?_⟩
  walk_at "wv"
  rw [show L.map Ln.d ++ [l.d, PyData.tuple [PyData.str (Str.ofString "in"), PyData.tuple []]] = (L ++ l :: [Ln.set []]).map Ln.d by rw [List.map_append]; rfl]
  refine ⟨rfl, is_valid_ok (by rw [List.length_append]; simp; omega) fun v4 h4 => ?_⟩
  rw [noV [Ln.set []] v4 h4]
  walk_at "wv"
  try rw [if_neg (by simp)]
  walk_at "wv"
  refine ⟨rfl, b_next_ok b7 (by decide) fun r8 kvs8 q0 q1 b8 => ?_⟩
  walk_at "wv"
  refine ⟨by simp, ?_⟩
  walk_at "wv"
  refine ⟨by simp, ?_⟩
  walk_at "wv"
  refine ⟨by simp, ?_⟩
  walk_at "wv"
  generalize ht : 39 + r8 = t8
  obtain ⟨t, rfl, t39, t41⟩ : ∃ t : Nat, t8 = (t : Int) ∧ 39 ≤ t ∧ t ≤ 41 := ⟨t8.toNat, by omega, by omega, by omega⟩
  refine okTo_eq (a := .tuple ((List.replicate t (Ln.set [0])).map Ln.d)) ?_ ?_
  · show R.when _ _ = _
    rw [R.when_pos ⟨by simp, by omega, by omega, by simp⟩, Int.toNat_natCast, rep_flat, List.map_replicate]
    rfl
  walk_at "wv"
  refine ⟨rfl, is_valid_ok (by rw [List.length_replicate]; omega) fun v5 h5 => ?_⟩
  rw [List.length_replicate] at h5
  have e5 : v5 = decide ((t : Int) ≤ 40) := by
    rw [Bool.eq_iff_iff, h5, decide_eq_true_iff]
    constructor
    · intro z
      have := z.1.2
      omega
    · intro z
      refine ⟨⟨by omega, by omega⟩, fun i l' e => ?_⟩
      have e := List.mem_of_getElem? e
      rw [(List.mem_replicate.mp e).2]
      show ascB _ (-1) [0] = true
      rw [asc_cons, decide_eq_true (by decide), decide_eq_true (show (0 : Int) < (y.length : Nat) by omega)]
      rfl
  walk_at "wv"
  rw [e5]
  refine okTo_eq (show gEq (.bool (decide ((t : Int) ≤ 40))) (.bool (decide ((t : Int) ≤ 40))) = .ok (.bool true) by
    show R.ok (PyData.bool (decide (decide ((t : Int) ≤ 40) = decide ((t : Int) ≤ 40)))) = _
    rw [decide_eq_true rfl]) ?_
  rfl

end
end Bo
namespace Bo
open PySem L2
def topS (i : Nat) : Stmt := PySem.Challenge.pw_bestodds_k34_valid_sentences.main.body.getD i (.Pass ⟨0, 0, 0, 0⟩)
abbrev s_b_draws : Stmt := topS 12
abbrev s_b_box : Stmt := topS 13
abbrev s_b_next : Stmt := topS 14
abbrev s_b_ends : Stmt := topS 22
abbrev s_b_system : Stmt := topS 23
abbrev s_b_chance : Stmt := topS 25
abbrev s_b_line : Stmt := topS 26
abbrev s_b_sentence : Stmt := topS 27
abbrev s_are_earlier : Stmt := topS 10
abbrev s_is_set : Stmt := topS 9
abbrev s_is_fraction : Stmt := topS 2
abbrev s_is_line : Stmt := topS 8
abbrev s_is_valid : Stmt := topS 7
abbrev s_law : Stmt := topS 28
structure Env (w : World) (K : PySem.W.Frag) (mg : Str → Option Value) where
  a_b_draws : Addr
  d_b_draws : FuncData
  F_b_draws : Fun K "_law_draws" "_law_draws" s_b_draws a_b_draws d_b_draws
  b_b_draws : Binds K d_b_draws ["cell", "modulus", "count"] []
  g_b_draws : mg "_law_draws" = some (.ref a_b_draws)
  a_b_box : Addr
  d_b_box : FuncData
  F_b_box : Fun K "_law_box" "_law_box" s_b_box a_b_box d_b_box
  b_b_box : Binds K d_b_box ["script"] []
  g_b_box : mg "_law_box" = some (.ref a_b_box)
  a_b_next : Addr
  d_b_next : FuncData
  F_b_next : Fun K "_law_next" "_law_next" s_b_next a_b_next d_b_next
  b_b_next : Binds K d_b_next ["box", "modulus"] []
  g_b_next : mg "_law_next" = some (.ref a_b_next)
  a_b_ends : Addr
  d_b_ends : FuncData
  F_b_ends : Fun K "_law_ends" "_law_ends" s_b_ends a_b_ends d_b_ends
  b_b_ends : Binds K d_b_ends ["box", "states"] []
  g_b_ends : mg "_law_ends" = some (.ref a_b_ends)
  a_b_system : Addr
  d_b_system : FuncData
  F_b_system : Fun K "_law_system" "_law_system" s_b_system a_b_system d_b_system
  b_b_system : Binds K d_b_system ["box", "states", "most", "dear"] []
  g_b_system : mg "_law_system" = some (.ref a_b_system)
  a_b_chance : Addr
  d_b_chance : FuncData
  F_b_chance : Fun K "_law_chance" "_law_chance" s_b_chance a_b_chance d_b_chance
  b_b_chance : Binds K d_b_chance ["box"] []
  g_b_chance : mg "_law_chance" = some (.ref a_b_chance)
  a_b_line : Addr
  d_b_line : FuncData
  F_b_line : Fun K "_law_line" "_law_line" s_b_line a_b_line d_b_line
  b_b_line : Binds K d_b_line ["box", "states", "number"] []
  g_b_line : mg "_law_line" = some (.ref a_b_line)
  a_b_sentence : Addr
  d_b_sentence : FuncData
  F_b_sentence : Fun K "_law_sentence" "_law_sentence" s_b_sentence a_b_sentence d_b_sentence
  b_b_sentence : Binds K d_b_sentence ["box", "states", "most"] []
  g_b_sentence : mg "_law_sentence" = some (.ref a_b_sentence)
  a_are_earlier : Addr
  d_are_earlier : FuncData
  F_are_earlier : Fun K "are_earlier" "are_earlier" s_are_earlier a_are_earlier d_are_earlier
  b_are_earlier : Binds K d_are_earlier ["at", "numbers"] []
  g_are_earlier : mg "are_earlier" = some (.ref a_are_earlier)
  a_is_set : Addr
  d_is_set : FuncData
  F_is_set : Fun K "is_set" "is_set" s_is_set a_is_set d_is_set
  b_is_set : Binds K d_is_set ["many", "states"] []
  g_is_set : mg "is_set" = some (.ref a_is_set)
  a_is_fraction : Addr
  d_is_fraction : FuncData
  F_is_fraction : Fun K "is_fraction" "is_fraction" s_is_fraction a_is_fraction d_is_fraction
  b_is_fraction : Binds K d_is_fraction ["pair"] []
  g_is_fraction : mg "is_fraction" = some (.ref a_is_fraction)
  a_is_line : Addr
  d_is_line : FuncData
  F_is_line : Fun K "is_line" "is_line" s_is_line a_is_line d_is_line
  b_is_line : Binds K d_is_line ["many", "at", "line"] []
  g_is_line : mg "is_line" = some (.ref a_is_line)
  a_is_valid : Addr
  d_is_valid : FuncData
  F_is_valid : Fun K "is_valid" "is_valid" s_is_valid a_is_valid d_is_valid
  b_is_valid : Binds K d_is_valid ["system", "sentence"] []
  g_is_valid : mg "is_valid" = some (.ref a_is_valid)
  a_law : Addr
  d_law : FuncData
  F_law : Fun K "law" "law" s_law a_law d_law
  b_law : Binds K d_law ["script"] []
  g_law : mg "law" = some (.ref a_law)
  z_all : mg "all" = none
  z_enumerate : mg "enumerate" = none
  z_int : mg "int" = none
  z_len : mg "len" = none
  z_range : mg "range" = none
  z_tuple : mg "tuple" = none
  z_gcd : mg "gcd" = some (.builtin "math.gcd")
  m_MEMBERS : Addr
  g_MEMBERS : mg "MEMBERS" = some (.ref m_MEMBERS)
  d_MEMBERS : He.dicW K m_MEMBERS = some (He.keysIn w.params (([("in", 2), ("not", 2), ("and", 3), ("next", 5), ("until", 6), ("within", 7)] : List (Str × Int)).map (·.1)))
  v_MEMBERS : ∀ e ∈ ([("in", 2), ("not", 2), ("and", 3), ("next", 5), ("until", 6), ("within", 7)] : List (Str × Int)), ∃ t, PySem.W.nsIn K m_MEMBERS e.1 = some (some (.int e.2 t))
  k_MOST_LINES : Tok
  c_MOST_LINES : mg "MOST_LINES" = some (.int 40 k_MOST_LINES)
  k_MOST_STEPS : Tok
  c_MOST_STEPS : mg "MOST_STEPS" = some (.int 30 k_MOST_STEPS)
theorem sc_b_draws : FnScope ["cell", "modulus", "count", "number", "row", "k", "mixed"] ["cell", "modulus", "count"] (defScope s_b_draws) := ⟨rfl, rfl, rfl, by decide +kernel, rfl, by decide +kernel, by decide +kernel⟩
theorem sc_b_box : FnScope ["script", "row", "cell"] ["script"] (defScope s_b_box) := ⟨rfl, rfl, rfl, by decide +kernel, rfl, by decide +kernel, by decide +kernel⟩
theorem sc_b_next : FnScope ["box", "modulus", "at", "number"] ["box", "modulus"] (defScope s_b_next) := ⟨rfl, rfl, rfl, by decide +kernel, rfl, by decide +kernel, by decide +kernel⟩
theorem sc_b_ends : FnScope ["box", "states", "row", "state"] ["box", "states"] (defScope s_b_ends) := ⟨rfl, rfl, rfl, by decide +kernel, rfl, by decide +kernel, by decide +kernel⟩
theorem sc_b_system : FnScope ["box", "states", "most", "dear", "system", "state", "choices", "k"] ["box", "states", "most", "dear"] (defScope s_b_system) := ⟨rfl, rfl, rfl, by decide +kernel, rfl, by decide +kernel, by decide +kernel⟩
theorem sc_b_chance : FnScope ["box"] ["box"] (defScope s_b_chance) := ⟨rfl, rfl, rfl, by decide +kernel, rfl, by decide +kernel, by decide +kernel⟩
theorem sc_b_line : FnScope ["box", "states", "number", "choice", "one", "two", "head", "state"] ["box", "states", "number"] (defScope s_b_line) := ⟨rfl, rfl, rfl, by decide +kernel, rfl, by decide +kernel, by decide +kernel⟩
theorem sc_b_sentence : FnScope ["box", "states", "most", "lines", "k"] ["box", "states", "most"] (defScope s_b_sentence) := ⟨rfl, rfl, rfl, by decide +kernel, rfl, by decide +kernel, by decide +kernel⟩
theorem sc_are_earlier : FnScope ["at", "numbers", "number"] ["at", "numbers"] (defScope s_are_earlier) := ⟨rfl, rfl, rfl, by decide +kernel, rfl, by decide +kernel, by decide +kernel⟩
theorem sc_is_set : FnScope ["many", "states", "before", "state"] ["many", "states"] (defScope s_is_set) := ⟨rfl, rfl, rfl, by decide +kernel, rfl, by decide +kernel, by decide +kernel⟩
theorem sc_is_fraction : FnScope ["pair", "n", "d"] ["pair"] (defScope s_is_fraction) := ⟨rfl, rfl, rfl, by decide +kernel, rfl, by decide +kernel, by decide +kernel⟩
theorem sc_is_line : FnScope ["many", "at", "line", "name", "x", "members", "rest"] ["many", "at", "line"] (defScope s_is_line) := ⟨rfl, rfl, rfl, by decide +kernel, rfl, by decide +kernel, by decide +kernel⟩
theorem sc_is_valid : FnScope ["system", "sentence", "at", "line"] ["system", "sentence"] (defScope s_is_valid) := ⟨rfl, rfl, rfl, by decide +kernel, rfl, by decide +kernel, by decide +kernel⟩
theorem sc_law : FnScope ["script", "box", "states", "system", "sentence", "size", "half", "bad", "low", "wrong", "many"] ["script"] (defScope s_law) := ⟨rfl, rfl, rfl, by decide +kernel, rfl, by decide +kernel, by decide +kernel⟩
theorem ok_b_draws {P : Program} {w : World} {K : PySem.W.Frag} {mg : Str → Option Value} {base : Heap} (T : Env w K mg) : FnOk P w K mg base CX0 1 T.a_b_draws T.d_b_draws ["cell", "modulus", "count"] (spP K 3 den_b_draws) := by
  refine T.F_b_draws.ok sc_b_draws (fun vs H Q E h => len_P h) (fun cdv A outer s H vs Q E hr h => ?_)
  refine ⟨_, (pss_cons (ps_set (i := 3) sc_b_draws.nd rfl (Or.inl rfl) (pv 0))
      (pss_cons (ps_if (pt_cmpR op_lt (pv 3) pe_int (nomark _)) (pss_one (ps_set (i := 3) sc_b_draws.nd rfl (Or.inl rfl) (pe_op op_sub pe_int (pv 3)))) pss_nil)
      (pss_cons (ps_set (i := 4) sc_b_draws.nd rfl (Or.inl rfl) (pe_lst pa_nil))
      (pss_cons (ps_if (pt_cmpR op_ge (pv 3) (pe_op op_pow pe_int pe_int) (nomark _)) (pss_cons (ps_for PassesOwn.never rfl (pi_range1 (by rfl) T.z_range (pa_cons (pv 2) pa_nil)) (pg_name (i := 5) sc_b_draws.nd rfl (Or.inl rfl)) (pss_cons (ps_expr (pe_bm PySem.F.plainAttrs_list PySem.F.slot_list_append PySem.F.type_list_append mt_append (pv 4) (pa_cons (pe_op op_modN (pe_callTy call_int1 (by rfl) T.z_int (by decide +kernel) (pa_cons (pv 3) pa_nil)) (pv 1)) pa_nil)))
      (pss_one (ps_set (i := 3) sc_b_draws.nd rfl (Or.inl rfl) (pe_op op_fdivX (pv 3) (pv 1))))))
      (pss_one (ps_ret (pv 4)))) pss_nil)
      (pss_cons (ps_for PassesOwn.never rfl (pi_range1 (by rfl) T.z_range (pa_cons (pv 2) pa_nil)) (pg_name (i := 5) sc_b_draws.nd rfl (Or.inl rfl)) (pss_cons (ps_set (i := 6) sc_b_draws.nd rfl (Or.inl rfl) (pe_op op_modN (pe_callTy call_int1 (by rfl) T.z_int (by decide +kernel) (pa_cons (pe_op op_mul (pe_op op_add (pe_op op_add (pv 3) (pe_op op_mul pe_int (pv 5))) pe_int) pe_int) pa_nil)) pe_int))
      (pss_cons (ps_set (i := 6) sc_b_draws.nd rfl (Or.inl rfl) (pe_op op_modN (pe_callTy call_int1 (by rfl) T.z_int (by decide +kernel) (pa_cons (pe_op op_add (pe_op op_mul (pv 6) pe_int) (pe_op op_mul pe_int (pv 5))) pa_nil)) pe_int))
      (pss_one (ps_expr (pe_bm PySem.F.plainAttrs_list PySem.F.slot_list_append PySem.F.type_list_append mt_append (pv 4) (pa_cons (pe_op op_modN (pe_callTy call_int1 (by rfl) T.z_int (by decide +kernel) (pa_cons (pe_op op_fdivX (pv 6) pe_int) pa_nil)) (pv 1)) pa_nil)))))))
      (pss_one (ps_ret (pv 4)))))))), ?_⟩
  exact run_P (N := ["cell", "modulus", "count", "number", "row", "k", "mixed"]) (f := body_b_draws) (fun _ => (st_seq (st_asg s_var (g_name (by decide)))
      (st_seq (st_if (s_tst (s_op o_ib s_var s_int)) (st_asg (s_op o_i0 s_int s_var) (g_name (by decide))) st_next)
      (st_seq (st_own (by decide) (f_lst s_nil))
      (st_seq (st_then (by decide) (st_if (s_tst (s_op o_ib s_var (s_op o_pow s_int s_int))) (st_seq (st_then (by decide) (st_for (i_range1 (s_cons s_var s_nil)) (g_name (by decide)) (st_then (by decide) (st_seq (st_drop (s_app (s_op o_mod (s_cb c_int (s_cons s_var s_nil)) s_var)))
      (st_asg (s_op o_fdiv s_var s_var) (g_name (by decide)))))))
      (st_frz (by decide) (st_ret s_var))) st_next))
      (st_seq (st_then (by decide) (st_for (i_range1 (s_cons s_var s_nil)) (g_name (by decide)) (st_then (by decide) (st_seq (st_asg (s_op o_mod (s_cb c_int (s_cons (s_op o_mulS (s_op o_i0 (s_op o_i0 s_var (s_op o_mulS s_int s_var)) s_int) s_int) s_nil)) s_int) (g_name (by decide)))
      (st_seq (st_asg (s_op o_mod (s_cb c_int (s_cons (s_op o_i0 (s_op o_mulS s_var s_int) (s_op o_mulS s_int s_var)) s_nil)) s_int) (g_name (by decide)))
      (st_drop (s_app (s_op o_mod (s_cb c_int (s_cons (s_op o_fdiv s_var s_int) s_nil)) s_var))))))))
      (st_frz (by decide) (st_ret s_var)))))))) h
theorem ok_b_box {P : Program} {w : World} {K : PySem.W.Frag} {mg : Str → Option Value} {base : Heap} (T : Env w K mg) : FnOk P w K mg base CX0 2 T.a_b_box T.d_b_box ["script"] (spSN K den_b_box) := by
  refine T.F_b_box.ok sc_b_box (fun vs H Q E h => len_SN h) (fun cdv A outer s H vs Q E hr h => ?_)
  have G_b_draws := ok_b_draws (P := P) (w := w) (base := base) T
  have hr_b_draws : Room 1 _ := hr.mono (by decide)
  refine ⟨_, (pss_cons (ps_set (i := 1) sc_b_box.nd rfl (Or.inl rfl) (pe_lst pa_nil))
      (pss_cons (ps_for PassesOwn.never rfl (k_iList K (by rfl) (pv 0)) (pg_name (i := 2) sc_b_box.nd rfl (Or.inl rfl)) (pss_one (ps_set (i := 1) sc_b_box.nd rfl (Or.inl rfl) (pe_op op_cat (pv 1) (pe_call G_b_draws hr_b_draws (by rfl) T.g_b_draws T.F_b_draws.kp T.b_b_draws .nil pass0 (pa_cons (pv 2) (pa_cons pe_int (pa_cons pe_int pa_nil))))))))
      (pss_cons (ps_if (pt_cmpR op_eq (pe_callB (k_len K) (by rfl) T.z_len (by decide +kernel) (pa_cons (pv 1) pa_nil)) pe_int (nomark _)) (pss_one (ps_set (i := 1) sc_b_box.nd rfl (Or.inl rfl) (pe_lst (pa_cons pe_int (pa_cons pe_int (pa_cons pe_int (pa_cons pe_int (pa_cons pe_int (pa_cons pe_int (pa_cons pe_int pa_nil)))))))))) pss_nil)
      (pss_one (ps_ret (pe_disp (pps_cons pe_str (pv 1) (pps_cons pe_str pe_int pps_nil)) rfl rfl (by simp) (by decide))))))), ?_⟩
  exact run_SN (N := ["row", "cell"]) (f := body_b_box) (fun _ => (rk_seq (st_asg (s_lst s_nil) (g_name (by decide)))
      (rk_seq (st_then (by decide) (st_for i_scr (g_name (by decide)) (st_then (by decide) (st_asg (s_op o_cat s_var (s_callP (s_cons s_var (s_cons s_int (s_cons s_int s_nil))))) (g_name (by decide))))))
      (rk_seq (st_if (s_tst (s_op o_eq (s_cb c_len (s_cons s_var s_nil)) s_int)) (st_asg (s_lst (s_cons s_int (s_cons s_int (s_cons s_int (s_cons s_int (s_cons s_int (s_cons s_int (s_cons s_int s_nil)))))))) (g_name (by decide))) st_next)
      (rk_ret (.cons pu_var (.cons pu_int Prs.nil)) (by decide)))))) h
theorem ok_b_next {P : Program} {w : World} {K : PySem.W.Frag} {mg : Str → Option Value} {base : Heap} (T : Env w K mg) : FnOk P w K mg base CX0 1 T.a_b_next T.d_b_next ["box", "modulus"] (spD K 1 den_b_next) := by
  refine T.F_b_next.ok sc_b_next (fun vs H Q E h => len_D h) (fun cdv A outer s H vs Q E hr h => ?_)
  refine ⟨_, (pss_cons (ps_set (i := 2) sc_b_next.nd rfl (Or.inl rfl) (pe_dget (hu_of hr) (pv 0) pe_str (fun _ _ => rfl)))
      (pss_cons (ps_dput (hu_of hr) (pv 0) pe_str (pe_op op_add (pv 2) pe_int) rfl)
      (pss_cons (ps_set (i := 3) sc_b_next.nd rfl (Or.inl rfl) (pe_ix (ixL K) (pe_dget (hu_of hr) (pv 0) pe_str (fun _ _ => rfl)) (pe_op op_modN (pv 2) (pe_callB (k_len K) (by rfl) T.z_len (by decide +kernel) (pa_cons (pe_dget (hu_of hr) (pv 0) pe_str (fun _ _ => rfl)) pa_nil))) (fun _ _ => rfl)))
      (pss_one (ps_ret (pe_op op_modN (pe_callTy call_int1 (by rfl) T.z_int (by decide +kernel) (pa_cons (pe_op op_add (pv 3) (pe_op op_mul pe_int (pe_op op_fdivX (pv 2) (pe_callB (k_len K) (by rfl) T.z_len (by decide +kernel) (pa_cons (pe_dget (hu_of hr) (pv 0) pe_str (fun _ _ => rfl)) pa_nil))))) pa_nil)) (pv 1))))))), ?_⟩
  exact run_D (N := ["modulus", "at", "number"]) (f := body_b_next) (fun _ => (st_seq (st_asg (s_getD s_str) (g_name (by decide)))
      (st_seq (st_putD s_str (s_op o_i0 s_var s_int))
      (st_seq (st_asg (s_op o_ixL (s_getD s_str) (s_op o_mod s_var (s_cb c_len (s_cons (s_getD s_str) s_nil)))) (g_name (by decide)))
      (st_ret (s_op o_mod (s_cb c_int (s_cons (s_op o_i0 s_var (s_op o_mulS s_int (s_op o_fdiv s_var (s_cb c_len (s_cons (s_getD s_str) s_nil))))) s_nil)) s_var)))))) h
theorem ok_b_ends {P : Program} {w : World} {K : PySem.W.Frag} {mg : Str → Option Value} {base : Heap} (T : Env w K mg) : FnOk P w K mg base CX0 2 T.a_b_ends T.d_b_ends ["box", "states"] (spD K 1 den_b_ends) := by
  refine T.F_b_ends.ok sc_b_ends (fun vs H Q E h => len_D h) (fun cdv A outer s H vs Q E hr h => ?_)
  have G_b_next := ok_b_next (P := P) (w := w) (base := base) T
  have hr_b_next : Room 1 _ := hr.mono (by decide)
  refine ⟨_, (pss_cons (ps_set (i := 2) sc_b_ends.nd rfl (Or.inl rfl) (pe_lst pa_nil))
      (pss_cons (ps_for PassesOwn.never rfl (pi_range1 (by rfl) T.z_range (pa_cons (pv 1) pa_nil)) (pg_name (i := 3) sc_b_ends.nd rfl (Or.inl rfl)) (pss_one (ps_if (PW.pt (pw_and (pt_cmpR op_lt (pe_callB (k_len K) (by rfl) T.z_len (by decide +kernel) (pa_cons (pv 2) pa_nil)) pe_int (nomark _)) (pw_and1 (pt_cmpR op_eq (pe_call G_b_next hr_b_next (by rfl) T.g_b_next T.F_b_next.kp T.b_b_next .nil pass0 (pa_cons (pv 0) (pa_cons pe_int pa_nil))) pe_int (nomark _))))) (pss_one (ps_expr (pe_bm PySem.F.plainAttrs_list PySem.F.slot_list_append PySem.F.type_list_append mt_append (pv 2) (pa_cons (pe_tup (pa_cons (pv 3) (pa_cons (pe_op op_add pe_int (pe_call G_b_next hr_b_next (by rfl) T.g_b_next T.F_b_next.kp T.b_b_next .nil pass0 (pa_cons (pv 0) (pa_cons pe_int pa_nil)))) pa_nil))) pa_nil)))) pss_nil)))
      (pss_cons (ps_if (pt_cmpR op_eq (pe_callB (k_len K) (by rfl) T.z_len (by decide +kernel) (pa_cons (pv 2) pa_nil)) pe_int (nomark _)) (pss_one (ps_set (i := 2) sc_b_ends.nd rfl (Or.inl rfl) (pe_lst (pa_cons (pe_tup (pa_cons (pe_call G_b_next hr_b_next (by rfl) T.g_b_next T.F_b_next.kp T.b_b_next .nil pass0 (pa_cons (pv 0) (pa_cons (pv 1) pa_nil))) (pa_cons pe_int pa_nil))) pa_nil)))) pss_nil)
      (pss_one (ps_ret (pe_callTy (k_tuple K) (by rfl) T.z_tuple (by decide +kernel) (pa_cons (pv 2) pa_nil))))))), ?_⟩
  exact run_D (N := ["states", "row", "state"]) (f := body_b_ends) (fun _ => (st_seq (st_own (by decide) (f_lst s_nil))
      (st_seq (st_then (by decide) (st_for (i_range1 (s_cons s_var s_nil)) (g_name (by decide)) (st_then (by decide) (st_if (s_and (s_tst (s_op o_ib s_lenO s_int)) (s_tst (s_op o_eq (s_callD (s_cons s_int s_nil)) s_int))) (st_drop (s_app (s_tup (s_cons s_var (s_cons (s_op o_i0 s_int (s_callD (s_cons s_int s_nil))) s_nil))))) st_next))))
      (st_seq (st_if (s_tst (s_op o_eq s_lenO s_int)) (st_own (by decide) (f_lst (s_cons (s_tup (s_cons (s_callD (s_cons s_var s_nil)) (s_cons s_int s_nil))) s_nil))) st_next)
      (st_ret s_tupleO))))) h
theorem ok_b_system {P : Program} {w : World} {K : PySem.W.Frag} {mg : Str → Option Value} {base : Heap} (T : Env w K mg) : FnOk P w K mg base CX0 3 T.a_b_system T.d_b_system ["box", "states", "most", "dear"] (spD K 3 den_b_system) := by
  refine T.F_b_system.ok sc_b_system (fun vs H Q E h => len_D h) (fun cdv A outer s H vs Q E hr h => ?_)
  have G_b_next := ok_b_next (P := P) (w := w) (base := base) T
  have hr_b_next : Room 1 _ := hr.mono (by decide)
  have G_b_ends := ok_b_ends (P := P) (w := w) (base := base) T
  have hr_b_ends : Room 2 _ := hr.mono (by decide)
  refine ⟨_, (pss_cons (ps_set (i := 4) sc_b_system.nd rfl (Or.inl rfl) (pe_lst pa_nil))
      (pss_cons (ps_for PassesOwn.never rfl (pi_range1 (by rfl) T.z_range (pa_cons (pv 1) pa_nil)) (pg_name (i := 5) sc_b_system.nd rfl (Or.inl rfl)) (pss_cons (ps_set (i := 6) sc_b_system.nd rfl (Or.inl rfl) (pe_lst pa_nil))
      (pss_cons (ps_for PassesOwn.never rfl (pi_range1 (by rfl) T.z_range (pa_cons (pe_op op_add pe_int (pe_call G_b_next hr_b_next (by rfl) T.g_b_next T.F_b_next.kp T.b_b_next .nil pass0 (pa_cons (pv 0) (pa_cons (pv 2) pa_nil)))) pa_nil)) (pg_name (i := 7) sc_b_system.nd rfl (Or.inl rfl)) (pss_one (ps_expr (pe_bm PySem.F.plainAttrs_list PySem.F.slot_list_append PySem.F.type_list_append mt_append (pv 6) (pa_cons (pe_tup (pa_cons (pe_call G_b_next hr_b_next (by rfl) T.g_b_next T.F_b_next.kp T.b_b_next .nil pass0 (pa_cons (pv 0) (pa_cons (pv 3) pa_nil))) (pa_cons (pe_call G_b_ends hr_b_ends (by rfl) T.g_b_ends T.F_b_ends.kp T.b_b_ends .nil pass0 (pa_cons (pv 0) (pa_cons (pv 1) pa_nil))) pa_nil))) pa_nil)))))
      (pss_one (ps_expr (pe_bm PySem.F.plainAttrs_list PySem.F.slot_list_append PySem.F.type_list_append mt_append (pv 4) (pa_cons (pe_callTy (k_tuple K) (by rfl) T.z_tuple (by decide +kernel) (pa_cons (pv 6) pa_nil)) pa_nil)))))))
      (pss_one (ps_ret (pe_callTy (k_tuple K) (by rfl) T.z_tuple (by decide +kernel) (pa_cons (pv 4) pa_nil)))))), ?_⟩
  exact run_D (N := ["states", "most", "dear", "system", "state", "choices", "k"]) (f := body_b_system) (fun _ => (st_seq (st_own (by decide) (f_lst s_nil))
      (st_seq (st_then (by decide) (st_for (i_range1 (s_cons s_var s_nil)) (g_name (by decide)) (st_then (by decide) (st_seq (st_own (by decide) (f_lst s_nil))
      (st_seq (st_pre (by decide) (st_then (by decide) (st_for (i_range1 (s_cons (s_op o_i0 s_int (s_callD (s_cons s_var s_nil))) s_nil)) (g_name (by decide)) (st_then (by decide) (st_drop (s_app (s_tup (s_cons (s_callD (s_cons s_var s_nil)) (s_cons (s_callD (s_cons s_var s_nil)) s_nil)))))))))
      (st_drop (s_app s_tupleO)))))))
      (st_ret s_tupleO)))) h
theorem ok_b_chance {P : Program} {w : World} {K : PySem.W.Frag} {mg : Str → Option Value} {base : Heap} (T : Env w K mg) : FnOk P w K mg base CX0 2 T.a_b_chance T.d_b_chance ["box"] (spD K 0 den_b_chance) := by
  refine T.F_b_chance.ok sc_b_chance (fun vs H Q E h => len_D h) (fun cdv A outer s H vs Q E hr h => ?_)
  have G_b_next := ok_b_next (P := P) (w := w) (base := base) T
  have hr_b_next : Room 1 _ := hr.mono (by decide)
  refine ⟨_, (pss_one (ps_ret (pe_ix (ixL K) (pe_lst (pa_cons (pe_tup (pa_cons pe_int (pa_cons pe_int pa_nil))) (pa_cons (pe_tup (pa_cons pe_int (pa_cons pe_int pa_nil))) (pa_cons (pe_tup (pa_cons pe_int (pa_cons pe_int pa_nil))) (pa_cons (pe_tup (pa_cons pe_int (pa_cons pe_int pa_nil))) (pa_cons (pe_tup (pa_cons pe_int (pa_cons pe_int pa_nil))) (pa_cons (pe_tup (pa_cons pe_int (pa_cons pe_int pa_nil))) (pa_cons (pe_tup (pa_cons pe_int (pa_cons pe_int pa_nil))) pa_nil)))))))) (pe_call G_b_next hr_b_next (by rfl) T.g_b_next T.F_b_next.kp T.b_b_next .nil pass0 (pa_cons (pv 0) (pa_cons pe_int pa_nil))) (fun _ _ => rfl)))), ?_⟩
  exact run_D (N := []) (f := body_b_chance) (fun _ => (st_ret (s_op o_ixL (s_lst (s_cons (s_tup (s_cons s_int (s_cons s_int s_nil))) (s_cons (s_tup (s_cons s_int (s_cons s_int s_nil))) (s_cons (s_tup (s_cons s_int (s_cons s_int s_nil))) (s_cons (s_tup (s_cons s_int (s_cons s_int s_nil))) (s_cons (s_tup (s_cons s_int (s_cons s_int s_nil))) (s_cons (s_tup (s_cons s_int (s_cons s_int s_nil))) (s_cons (s_tup (s_cons s_int (s_cons s_int s_nil))) s_nil)))))))) (s_callD (s_cons s_int s_nil))))) h
theorem ok_b_line {P : Program} {w : World} {K : PySem.W.Frag} {mg : Str → Option Value} {base : Heap} (T : Env w K mg) : FnOk P w K mg base CX0 3 T.a_b_line T.d_b_line ["box", "states", "number"] (spD K 2 den_b_line) := by
  refine T.F_b_line.ok sc_b_line (fun vs H Q E h => len_D h) (fun cdv A outer s H vs Q E hr h => ?_)
  have G_b_next := ok_b_next (P := P) (w := w) (base := base) T
  have hr_b_next : Room 1 _ := hr.mono (by decide)
  have G_b_chance := ok_b_chance (P := P) (w := w) (base := base) T
  have hr_b_chance : Room 2 _ := hr.mono (by decide)
  refine ⟨_, (pss_cons (ps_set (i := 3) sc_b_line.nd rfl (Or.inl rfl) (pe_call G_b_next hr_b_next (by rfl) T.g_b_next T.F_b_next.kp T.b_b_next .nil pass0 (pa_cons (pv 0) (pa_cons pe_int pa_nil))))
      (pss_cons (ps_if (PW.pt (pw_or (pt_cmpR op_eq (pv 2) pe_int (nomark _)) (pw_or1 (pt_cmpR op_eq (pv 3) pe_int (nomark _))))) (pss_one (ps_ret (pe_tup (pa_cons pe_str (pa_cons (pe_callTy (k_tuple K) (by rfl) T.z_tuple (by decide +kernel) (pa_cons (pe_lc (own := [("state", 7)]) (g := gName 7) (by rfl) sc_b_line.nd (pi_range1 (by rfl) T.z_range (pa_cons (pv 1) pa_nil)) (blkOk_by (own := [("state", 7)]) (N := ["box", "states", "number", "choice", "one", "two", "head", "state"]) (sc := defScope s_b_line) (by decide +kernel)) (fun _ _ _ _ _ => (pg_name (i := 7) sc_b_line.nd rfl (Or.inl rfl))) (fun _ _ _ _ _ => (pts_one (pt_cmpR op_eq (pe_call G_b_next hr_b_next (by rfl) T.g_b_next T.F_b_next.kp T.b_b_next .nil pass0 (pa_cons (pv 0) (pa_cons pe_int pa_nil))) pe_int (nomark _)))) (fun _ _ _ _ _ => (pv 7))) pa_nil)) pa_nil))))) pss_nil)
      (pss_cons (ps_set (i := 4) sc_b_line.nd rfl (Or.inl rfl) (pe_call G_b_next hr_b_next (by rfl) T.g_b_next T.F_b_next.kp T.b_b_next .nil pass0 (pa_cons (pv 0) (pa_cons (pv 2) pa_nil))))
      (pss_cons (ps_set (i := 5) sc_b_line.nd rfl (Or.inl rfl) (pe_call G_b_next hr_b_next (by rfl) T.g_b_next T.F_b_next.kp T.b_b_next .nil pass0 (pa_cons (pv 0) (pa_cons (pv 2) pa_nil))))
      (pss_cons (ps_if (pt_cmpR op_eq (pv 3) pe_int (nomark _)) (pss_one (ps_ret (pe_tup (pa_cons pe_str (pa_cons (pv 4) pa_nil))))) pss_nil)
      (pss_cons (ps_if (pt_cmpR op_eq (pv 3) pe_int (nomark _)) (pss_one (ps_ret (pe_tup (pa_cons pe_str (pa_cons (pv 4) (pa_cons (pv 5) pa_nil)))))) pss_nil)
      (pss_cons (ps_set (i := 6) sc_b_line.nd rfl (Or.inl rfl) (pe_tup (pa_cons (pe_cmpR op_eq (pe_call G_b_next hr_b_next (by rfl) T.g_b_next T.F_b_next.kp T.b_b_next .nil pass0 (pa_cons (pv 0) (pa_cons pe_int pa_nil))) pe_int (nomark _)) (pa_cons (pe_cmpR op_eq (pe_call G_b_next hr_b_next (by rfl) T.g_b_next T.F_b_next.kp T.b_b_next .nil pass0 (pa_cons (pv 0) (pa_cons pe_int pa_nil))) pe_int (nomark _)) (pa_cons (pe_call G_b_chance hr_b_chance (by rfl) T.g_b_chance T.F_b_chance.kp T.b_b_chance .nil pass0 (pa_cons (pv 0) pa_nil)) pa_nil)))))
      (pss_cons (ps_if (pt_cmpR op_eq (pv 3) pe_int (nomark _)) (pss_one (ps_ret (pe_op (k_catA K) (pe_op (k_catA K) (pe_tup (pa_cons pe_str pa_nil)) (pv 6)) (pe_tup (pa_cons (pv 4) pa_nil))))) pss_nil)
      (pss_cons (ps_if (pt_cmpR op_eq (pv 3) pe_int (nomark _)) (pss_one (ps_ret (pe_op (k_catA K) (pe_op (k_catA K) (pe_tup (pa_cons pe_str pa_nil)) (pv 6)) (pe_tup (pa_cons (pv 4) (pa_cons (pv 5) pa_nil)))))) pss_nil)
      (pss_one (ps_ret (pe_op (k_catA K) (pe_op (k_catA K) (pe_tup (pa_cons pe_str pa_nil)) (pv 6)) (pe_tup (pa_cons (pv 4) (pa_cons (pv 5) (pa_cons (pe_ix (ixL K) (pe_lst (pa_cons pe_int (pa_cons pe_int (pa_cons pe_int (pa_cons pe_int (pa_cons pe_int pa_nil)))))) (pe_call G_b_next hr_b_next (by rfl) T.g_b_next T.F_b_next.kp T.b_b_next .nil pass0 (pa_cons (pv 0) (pa_cons pe_int pa_nil))) (fun _ _ => rfl)) pa_nil)))))))))))))))), ?_⟩
  exact run_D (N := ["states", "number", "choice", "one", "two", "head", "state"]) (f := body_b_line) (fun _ => (st_seq (st_asg (s_callD (s_cons s_int s_nil)) (g_name (by decide)))
      (st_seq (st_if (s_or (s_tst (s_op o_eq s_var s_int)) (s_tst (s_op o_eq s_var s_int))) (st_ret (s_tup (s_cons s_str (s_cons (s_cb c_tuple (s_cons (s_fr (f_lc (by decide) (by decide) (i_range1 (s_cons s_var s_nil)) (fun _ => (g_name (by decide))) (fun _ => (s_tst (s_op o_eq (s_callD (s_cons s_int s_nil)) s_int))) (fun _ => s_var))) s_nil)) s_nil)))) st_next)
      (st_seq (st_asg (s_callD (s_cons s_var s_nil)) (g_name (by decide)))
      (st_seq (st_asg (s_callD (s_cons s_var s_nil)) (g_name (by decide)))
      (st_seq (st_if (s_tst (s_op o_eq s_var s_int)) (st_ret (s_tup (s_cons s_str (s_cons s_var s_nil)))) st_next)
      (st_seq (st_if (s_tst (s_op o_eq s_var s_int)) (st_ret (s_tup (s_cons s_str (s_cons s_var (s_cons s_var s_nil))))) st_next)
      (st_seq (st_asg (s_tup (s_cons (s_op o_eq (s_callD (s_cons s_int s_nil)) s_int) (s_cons (s_op o_eq (s_callD (s_cons s_int s_nil)) s_int) (s_cons (s_callD s_nil) s_nil)))) (g_name (by decide)))
      (st_seq (st_if (s_tst (s_op o_eq s_var s_int)) (st_ret (s_op o_catT (s_op o_catT (s_tup (s_cons s_str s_nil)) s_var) (s_tup (s_cons s_var s_nil)))) st_next)
      (st_seq (st_if (s_tst (s_op o_eq s_var s_int)) (st_ret (s_op o_catT (s_op o_catT (s_tup (s_cons s_str s_nil)) s_var) (s_tup (s_cons s_var (s_cons s_var s_nil))))) st_next)
      (st_ret (s_op o_catT (s_op o_catT (s_tup (s_cons s_str s_nil)) s_var) (s_tup (s_cons s_var (s_cons s_var (s_cons (s_op o_ixL (s_lst (s_cons s_int (s_cons s_int (s_cons s_int (s_cons s_int (s_cons s_int s_nil)))))) (s_callD (s_cons s_int s_nil))) s_nil)))))))))))))))) h
theorem ok_b_sentence {P : Program} {w : World} {K : PySem.W.Frag} {mg : Str → Option Value} {base : Heap} (T : Env w K mg) : FnOk P w K mg base CX0 4 T.a_b_sentence T.d_b_sentence ["box", "states", "most"] (spD K 2 den_b_sentence) := by
  refine T.F_b_sentence.ok sc_b_sentence (fun vs H Q E h => len_D h) (fun cdv A outer s H vs Q E hr h => ?_)
  have G_b_next := ok_b_next (P := P) (w := w) (base := base) T
  have hr_b_next : Room 1 _ := hr.mono (by decide)
  have G_b_line := ok_b_line (P := P) (w := w) (base := base) T
  have hr_b_line : Room 3 _ := hr.mono (by decide)
  refine ⟨_, (pss_cons (ps_set (i := 3) sc_b_sentence.nd rfl (Or.inl rfl) (pe_lst pa_nil))
      (pss_cons (ps_for PassesOwn.never rfl (pi_range1 (by rfl) T.z_range (pa_cons (pe_op op_add pe_int (pe_call G_b_next hr_b_next (by rfl) T.g_b_next T.F_b_next.kp T.b_b_next .nil pass0 (pa_cons (pv 0) (pa_cons (pv 2) pa_nil)))) pa_nil)) (pg_name (i := 4) sc_b_sentence.nd rfl (Or.inl rfl)) (pss_one (ps_expr (pe_bm PySem.F.plainAttrs_list PySem.F.slot_list_append PySem.F.type_list_append mt_append (pv 3) (pa_cons (pe_call G_b_line hr_b_line (by rfl) T.g_b_line T.F_b_line.kp T.b_b_line .nil pass0 (pa_cons (pv 0) (pa_cons (pv 1) (pa_cons (pv 4) pa_nil)))) pa_nil)))))
      (pss_one (ps_ret (pe_callTy (k_tuple K) (by rfl) T.z_tuple (by decide +kernel) (pa_cons (pv 3) pa_nil)))))), ?_⟩
  exact run_D (N := ["states", "most", "lines", "k"]) (f := body_b_sentence) (fun _ => (st_seq (st_own (by decide) (f_lst s_nil))
      (st_seq (st_then (by decide) (st_for (i_range1 (s_cons (s_op o_i0 s_int (s_callD (s_cons s_var s_nil))) s_nil)) (g_name (by decide)) (st_then (by decide) (st_drop (s_app (s_callD (s_cons s_var (s_cons s_var s_nil))))))))
      (st_ret s_tupleO)))) h
theorem ok_are_earlier {P : Program} {w : World} {K : PySem.W.Frag} {mg : Str → Option Value} {base : Heap} (T : Env w K mg) : FnOk P w K mg base CX0 1 T.a_are_earlier T.d_are_earlier ["at", "numbers"] (spP K 2 den_are_earlier) := by
  refine T.F_are_earlier.ok sc_are_earlier (fun vs H Q E h => len_P h) (fun cdv A outer s H vs Q E hr h => ?_)
  refine ⟨_, (pss_one (ps_ret (pe_callB (k_all K (by rfl) rfl) (by rfl) T.z_all (by decide +kernel) (pa_cons (pe_lc (own := [("number", 2)]) (g := gName 2) (by rfl) sc_are_earlier.nd (k_iList K (by rfl) (pv 1)) (blkOk_by (own := [("number", 2)]) (N := ["at", "numbers", "number"]) (sc := defScope s_are_earlier) (by decide +kernel)) (fun _ _ _ _ _ => (pg_name (i := 2) sc_are_earlier.nd rfl (Or.inl rfl))) (fun _ _ _ _ _ => pts_nil) (fun _ _ _ _ _ => (pe_chain op_le op_lt pe_int (pv 2) (pv 0)))) pa_nil)))), ?_⟩
  exact run_P (N := ["at", "numbers", "number"]) (f := body_are_earlier) (fun _ => (st_ret (s_cb c_all (s_cons (s_fr (f_lc (by decide) (by decide) (i_list s_var) (fun _ => (g_name (by decide))) (fun _ => s_yes) (fun _ => (s_chain o_ib o_ib s_int s_var s_var)))) s_nil)))) h
theorem ok_is_set {P : Program} {w : World} {K : PySem.W.Frag} {mg : Str → Option Value} {base : Heap} (T : Env w K mg) : FnOk P w K mg base CX0 1 T.a_is_set T.d_is_set ["many", "states"] (spP K 2 den_is_set) := by
  refine T.F_is_set.ok sc_is_set (fun vs H Q E h => len_P h) (fun cdv A outer s H vs Q E hr h => ?_)
  refine ⟨_, (pss_cons (ps_set (i := 2) sc_is_set.nd rfl (Or.inl rfl) (pe_un un_neg pe_int))
      (pss_cons (ps_for PassesOwn.never rfl (k_iTup K (by rfl) (pv 1)) (pg_name (i := 3) sc_is_set.nd rfl (Or.inl rfl)) (pss_cons (ps_if (pt_not (pt_chain op_lt op_lt (pv 2) (pv 3) (pv 0))) (pss_one (ps_ret pe_bl)) pss_nil)
      (pss_one (ps_set (i := 2) sc_is_set.nd rfl (Or.inl rfl) (pv 3)))))
      (pss_one (ps_ret pe_bl)))), ?_⟩
  exact run_P (N := ["many", "states", "before", "state"]) (f := body_is_set) (fun _ => (st_seq (st_asg (s_neg s_int) (g_name (by decide)))
      (st_seq (st_then (by decide) (st_for (i_tup s_var) (g_name (by decide)) (st_then (by decide) (st_seq (st_if (s_not (s_tst (s_chain o_ib o_ib s_var s_var s_var))) (st_ret s_bl) st_next)
      (st_asg s_var (g_name (by decide)))))))
      (st_ret s_bl)))) h
theorem ok_is_fraction {P : Program} {w : World} {K : PySem.W.Frag} {mg : Str → Option Value} {base : Heap} (T : Env w K mg) : FnOk P w K mg base CX0 1 T.a_is_fraction T.d_is_fraction ["pair"] (spP K 1 den_is_fraction) := by
  refine T.F_is_fraction.ok sc_is_fraction (fun vs H Q E h => len_P h) (fun cdv A outer s H vs Q E hr h => ?_)
  refine ⟨_, (pss_cons (ps_asg (pv 0) (k_gTup K (by rfl) (by rfl) (pgs_cons (pg_name (i := 1) sc_is_fraction.nd rfl (Or.inl rfl)) (pgs_cons (pg_name (i := 2) sc_is_fraction.nd rfl (Or.inl rfl)) pgs_nil))))
      (pss_one (ps_ret (pe_and (pe_cmpR op_ge (pv 2) pe_int (nomark _)) (pe_one (pe_cmpR op_eq (pe_callBfun cr_gcd (by rfl) T.z_gcd (pa_cons (pv 1) (pa_cons (pv 2) pa_nil))) pe_int (nomark _))))))), ?_⟩
  exact run_P (N := ["pair", "n", "d"]) (f := body_is_fraction) (fun _ => (st_seq (st_asg s_var (g_tup (g_cons (g_name (by decide)) (g_cons (g_name (by decide)) g_nil))))
      (st_ret (s_andV (s_op o_ib s_var s_int) (s_op o_eq (s_cb c_gcd (s_cons s_var (s_cons s_var s_nil))) s_int))))) h
theorem ok_is_line {P : Program} {w : World} {K : PySem.W.Frag} {mg : Str → Option Value} {base : Heap} (T : Env w K mg) : FnOk P w K mg base CX0 2 T.a_is_line T.d_is_line ["many", "at", "line"] (spP K 3 den_is_line) := by
  refine T.F_is_line.ok sc_is_line (fun vs H Q E h => len_P h) (fun cdv A outer s H vs Q E hr h => ?_)
  have G_are_earlier := ok_are_earlier (P := P) (w := w) (base := base) T
  have hr_are_earlier : Room 1 _ := hr.mono (by decide)
  have G_is_set := ok_is_set (P := P) (w := w) (base := base) T
  have hr_is_set : Room 1 _ := hr.mono (by decide)
  have G_is_fraction := ok_is_fraction (P := P) (w := w) (base := base) T
  have hr_is_fraction : Room 1 _ := hr.mono (by decide)
  refine ⟨_, (pss_cons (ps_asg (pv 2) (pg_starT K (by rfl) (by rfl) (.cons (pg_name (i := 3) sc_is_line.nd rfl (Or.inl rfl)) .nil) (pg_name (i := 5) sc_is_line.nd rfl (Or.inl rfl))))
      (pss_cons (ps_if (pt_cmpR op_ne (pe_kgetT T.d_MEMBERS T.v_MEMBERS (pe_glob (v := .ref T.m_MEMBERS) (by rfl) T.g_MEMBERS rfl) (pv 3) ⟨by rfl, by rfl, by rfl, by rfl⟩) (pe_callB (k_len K) (by rfl) T.z_len (by decide +kernel) (pa_cons (pv 2) pa_nil)) (nomark _)) (pss_one (ps_ret pe_bl)) pss_nil)
      (pss_cons (ps_if (pt_cmpR (k_eqD K (by rfl) hr.units) (pv 3) pe_str (nomark _)) (pss_one (ps_ret (pe_call G_is_set hr_is_set (by rfl) T.g_is_set T.F_is_set.kp T.b_is_set .nil pass0 (pa_cons (pv 0) (pa_cons (pe_ix (ixL K) (pv 5) pe_int (fun _ _ => rfl)) pa_nil))))) pss_nil)
      (pss_cons (ps_if (pt_cmpR (k_in K) (pv 3) (pe_tup (pa_cons pe_str (pa_cons pe_str pa_nil))) rfl) (pss_one (ps_ret (pe_call G_are_earlier hr_are_earlier (by rfl) T.g_are_earlier T.F_are_earlier.kp T.b_are_earlier .nil pass0 (pa_cons (pv 1) (pa_cons (pv 5) pa_nil))))) pss_nil)
      (pss_cons (ps_asg (pe_slice (k_slL K) (pv 5) (po_some pe_int) po_none) (pg_hdTl K (by rfl) (by rfl) (pg_name (i := 4) sc_is_line.nd rfl (Or.inl rfl)) (pg_name (i := 6) sc_is_line.nd rfl (Or.inl rfl))))
      (pss_cons (ps_if (pt_not (PW.pt (pw_and (pt_val (pe_call G_is_fraction hr_is_fraction (by rfl) T.g_is_fraction T.F_is_fraction.kp T.b_is_fraction .nil pass0 (pa_cons (pv 4) pa_nil))) (pw_and1 (pt_chain op_le op_le pe_int (pe_ix (ixT K) (pv 4) pe_int (fun _ _ => rfl)) (pe_ix (ixT K) (pv 4) pe_int (fun _ _ => rfl))))))) (pss_one (ps_ret pe_bl)) pss_nil)
      (pss_cons (ps_if (pt_cmpR (k_eqD K (by rfl) hr.units) (pv 3) pe_str (nomark _)) (pss_one (ps_ret (pe_and (pe_call G_are_earlier hr_are_earlier (by rfl) T.g_are_earlier T.F_are_earlier.kp T.b_are_earlier .nil pass0 (pa_cons (pv 1) (pa_cons (pe_slice (k_slL K) (pv 6) po_none (po_some pe_int)) pa_nil))) (pe_one (pe_chain op_le op_le pe_int (pe_ix (ixL K) (pv 6) pe_int (fun _ _ => rfl)) (pe_glob (v := .int 30) (by rfl) T.c_MOST_STEPS ⟨_, rfl⟩)))))) pss_nil)
      (pss_one (ps_ret (pe_call G_are_earlier hr_are_earlier (by rfl) T.g_are_earlier T.F_are_earlier.kp T.b_are_earlier .nil pass0 (pa_cons (pv 1) (pa_cons (pv 6) pa_nil)))))))))))), ?_⟩
  exact run_P (N := ["many", "at", "line", "name", "x", "members", "rest"]) (f := body_is_line) (fun _ => (st_seq (st_starT (by decide) (by decide) s_var)
      (st_seq (st_if (s_tst (s_op o_ne (s_kget s_var) (s_cb c_len (s_cons s_var s_nil)))) (st_ret s_bl) st_next)
      (st_seq (st_if (s_tst (s_op o_eqD s_var s_str)) (st_ret (s_callP (s_cons s_var (s_cons (s_op o_ixL s_var s_int) s_nil)))) st_next)
      (st_seq (st_if (s_tst (s_op o_in s_var (s_tup (s_cons s_str (s_cons s_str s_nil))))) (st_ret (s_callP (s_cons s_var (s_cons s_var s_nil)))) st_next)
      (st_seq (st_hdTl (by decide) (by decide) (s_sl l_slL s_var (s_part s_int) s_noPart))
      (st_seq (st_if (s_not (s_and (s_tB (s_callP (s_cons s_var s_nil))) (s_tst (s_chain o_ib o_ib s_int (s_op o_ixT s_var s_int) (s_op o_ixT s_var s_int))))) (st_ret s_bl) st_next)
      (st_seq (st_if (s_tst (s_op o_eqD s_var s_str)) (st_ret (s_andV (s_callP (s_cons s_var (s_cons (s_sl l_slL s_var s_noPart (s_part s_int)) s_nil))) (s_chain o_ib o_ib s_int (s_op o_ixL s_var s_int) s_int))) st_next)
      (st_ret (s_callP (s_cons s_var (s_cons s_var s_nil)))))))))))) h
theorem ok_is_valid {P : Program} {w : World} {K : PySem.W.Frag} {mg : Str → Option Value} {base : Heap} (T : Env w K mg) : FnOk P w K mg base CX0 3 T.a_is_valid T.d_is_valid ["system", "sentence"] (spP K 2 den_is_valid) := by
  refine T.F_is_valid.ok sc_is_valid (fun vs H Q E h => len_P h) (fun cdv A outer s H vs Q E hr h => ?_)
  have G_is_line := ok_is_line (P := P) (w := w) (base := base) T
  have hr_is_line : Room 2 _ := hr.mono (by decide)
  refine ⟨_, (pss_cons (ps_if (pt_not (pt_chain op_le op_le pe_int (pe_callB (k_len K) (by rfl) T.z_len (by decide +kernel) (pa_cons (pv 1) pa_nil)) (pe_glob (v := .int 40) (by rfl) T.c_MOST_LINES ⟨_, rfl⟩))) (pss_one (ps_ret pe_bl)) pss_nil)
      (pss_one (ps_ret (pe_callB (k_all K (by rfl) rfl) (by rfl) T.z_all (by decide +kernel) (pa_cons (pe_lc (own := [("at", 2), ("line", 3)]) (g := gTup K 2 (gCons (gName 2) (gCons (gName 3) gNil))) (by rfl) sc_is_valid.nd (pi_enumK .T (by rfl) T.z_enumerate (pa_cons (pv 1) pa_nil)) (blkOk_by (own := [("at", 2), ("line", 3)]) (N := ["system", "sentence", "at", "line"]) (sc := defScope s_is_valid) (by decide +kernel)) (fun _ _ _ _ _ => (k_gTup K (by rfl) (by rfl) (pgs_cons (pg_name (i := 2) sc_is_valid.nd rfl (Or.inl rfl)) (pgs_cons (pg_name (i := 3) sc_is_valid.nd rfl (Or.inl rfl)) pgs_nil)))) (fun _ _ _ _ _ => pts_nil) (fun _ _ _ _ _ => (pe_call G_is_line hr_is_line (by rfl) T.g_is_line T.F_is_line.kp T.b_is_line .nil pass0 (pa_cons (pe_callB (k_len K) (by rfl) T.z_len (by decide +kernel) (pa_cons (pv 0) pa_nil)) (pa_cons (pv 2) (pa_cons (pv 3) pa_nil)))))) pa_nil))))), ?_⟩
  exact run_P (N := ["system", "sentence", "at", "line"]) (f := body_is_valid) (fun _ => (st_seq (st_if (s_not (s_tst (s_chain o_ib o_ib s_int (s_cb c_len (s_cons s_var s_nil)) s_int))) (st_ret s_bl) st_next)
      (st_ret (s_cb c_all (s_cons (s_fr (f_lc (by decide) (by decide) (i_enumK (s_cons s_var s_nil)) (fun _ => (g_tup (g_cons (g_name (by decide)) (g_cons (g_name (by decide)) g_nil)))) (fun _ => s_yes) (fun _ => (s_callP (s_cons (s_cb c_len (s_cons s_var s_nil)) (s_cons s_var (s_cons s_var s_nil))))))) s_nil))))) h
theorem ok_law0 {P : Program} {w : World} {K : PySem.W.Frag} {mg : Str → Option Value} {base : Heap} (T : Env w K mg) : FnOk P w K mg base CX0 5 T.a_law T.d_law ["script"] (spS K den_law) := by
  refine T.F_law.ok sc_law (fun vs H Q E h => len_S h) (fun cdv A outer s H vs Q E hr h => ?_)
  have G_b_box := ok_b_box (P := P) (w := w) (base := base) T
  have hr_b_box : Room 2 _ := hr.mono (by decide)
  have G_b_system := ok_b_system (P := P) (w := w) (base := base) T
  have hr_b_system : Room 3 _ := hr.mono (by decide)
  have G_b_sentence := ok_b_sentence (P := P) (w := w) (base := base) T
  have hr_b_sentence : Room 4 _ := hr.mono (by decide)
  have G_b_next := ok_b_next (P := P) (w := w) (base := base) T
  have hr_b_next : Room 1 _ := hr.mono (by decide)
  have G_is_valid := ok_is_valid (P := P) (w := w) (base := base) T
  have hr_is_valid : Room 3 _ := hr.mono (by decide)
  refine ⟨_, (pss_cons (ps_set (i := 1) sc_law.nd rfl (Or.inl rfl) (pe_call G_b_box hr_b_box (by rfl) T.g_b_box T.F_b_box.kp T.b_b_box .nil pass0 (pa_cons (pv 0) pa_nil)))
      (pss_cons (ps_set (i := 2) sc_law.nd rfl (Or.inl rfl) (pe_op op_add pe_int (pe_call G_b_next hr_b_next (by rfl) T.g_b_next T.F_b_next.kp T.b_b_next .nil pass0 (pa_cons (pv 1) (pa_cons pe_int pa_nil)))))
      (pss_cons (ps_set (i := 3) sc_law.nd rfl (Or.inl rfl) (pe_call G_b_system hr_b_system (by rfl) T.g_b_system T.F_b_system.kp T.b_b_system .nil pass0 (pa_cons (pv 1) (pa_cons (pv 2) (pa_cons pe_int (pa_cons pe_int pa_nil))))))
      (pss_cons (ps_set (i := 4) sc_law.nd rfl (Or.inl rfl) (pe_call G_b_sentence hr_b_sentence (by rfl) T.g_b_sentence T.F_b_sentence.kp T.b_b_sentence .nil pass0 (pa_cons (pv 1) (pa_cons (pv 2) (pa_cons pe_int pa_nil)))))
      (pss_cons (ps_if (PW.pt (pw_or (pt_cmpR op_isnot_bl (pe_call G_is_valid hr_is_valid (by rfl) T.g_is_valid T.F_is_valid.kp T.b_is_valid .nil pass0 (pa_cons (pv 3) (pa_cons (pv 4) pa_nil))) pe_bl (nomark _)) (pw_or1 (pt_cmpR op_isnot_bl (pe_call G_is_valid hr_is_valid (by rfl) T.g_is_valid T.F_is_valid.kp T.b_is_valid .nil pass0 (pa_cons (pv 3) (pa_cons (pe_tup pa_nil) pa_nil))) pe_bl (nomark _))))) (pss_one (ps_ret pe_bl)) pss_nil)
      (pss_cons (ps_set (i := 5) sc_law.nd rfl (Or.inl rfl) (pe_callB (k_len K) (by rfl) T.z_len (by decide +kernel) (pa_cons (pv 4) pa_nil)))
      (pss_cons (ps_set (i := 6) sc_law.nd rfl (Or.inl rfl) (pe_tup (pa_cons pe_int (pa_cons pe_int pa_nil))))
      (pss_cons (ps_set (i := 7) sc_law.nd rfl (Or.inl rfl) (pe_lst (pa_cons (pe_tup (pa_cons pe_str (pa_cons (pe_tup (pa_cons (pv 2) pa_nil)) pa_nil))) (pa_cons (pe_tup (pa_cons pe_str (pa_cons (pe_tup (pa_cons (pe_op op_sub pe_int pe_int) pa_nil)) pa_nil))) (pa_cons (pe_tup (pa_cons pe_str (pa_cons (pe_tup (pa_cons pe_int (pa_cons pe_int pa_nil))) pa_nil))) (pa_cons (pe_tup (pa_cons pe_str pa_nil)) (pa_cons (pe_tup (pa_cons pe_str (pa_cons (pe_tup (pa_cons pe_int pa_nil)) (pa_cons pe_int pa_nil)))) (pa_cons (pe_tup (pa_cons pe_str (pa_cons (pv 5) pa_nil))) (pa_cons (pe_tup (pa_cons pe_str (pa_cons (pe_op op_sub pe_int pe_int) pa_nil))) pa_nil)))))))))
      (pss_cons (ps_set (i := 7) sc_law.nd rfl (Or.inl rfl) (pe_op op_cat (pv 7) (pe_lst (pa_cons (pe_tup (pa_cons pe_str (pa_cons pe_int (pa_cons (pv 5) pa_nil)))) (pa_cons (pe_tup (pa_cons pe_str (pa_cons pe_int pa_nil))) (pa_cons (pe_tup (pa_cons pe_str pa_nil)) (pa_cons (pe_tup (pa_cons pe_str (pa_cons pe_int (pa_cons pe_int pa_nil)))) (pa_cons (pe_tup (pa_cons pe_str (pa_cons pe_bl (pa_cons pe_bl (pa_cons (pv 6) (pa_cons (pv 5) pa_nil)))))) (pa_cons (pe_tup (pa_cons pe_str (pa_cons pe_bl pa_nil))) pa_nil)))))))))
      (pss_cons (ps_set (i := 7) sc_law.nd rfl (Or.inl rfl) (pe_op op_cat (pv 7) (pe_lst (pa_cons (pe_tup (pa_cons pe_str (pa_cons pe_bl (pa_cons pe_bl (pa_cons (pe_tup (pa_cons pe_int (pa_cons pe_int pa_nil))) (pa_cons pe_int pa_nil)))))) (pa_cons (pe_tup (pa_cons pe_str (pa_cons pe_bl (pa_cons pe_bl (pa_cons (pe_tup (pa_cons (pe_op op_sub pe_int pe_int) (pa_cons pe_int pa_nil))) (pa_cons pe_int pa_nil)))))) (pa_cons (pe_tup (pa_cons pe_str (pa_cons pe_bl (pa_cons pe_bl (pa_cons (pe_tup (pa_cons pe_int (pa_cons pe_int pa_nil))) (pa_cons pe_int pa_nil)))))) pa_nil))))))
      (pss_cons (ps_set (i := 7) sc_law.nd rfl (Or.inl rfl) (pe_op op_cat (pv 7) (pe_lst (pa_cons (pe_tup (pa_cons pe_str (pa_cons pe_bl (pa_cons pe_bl (pa_cons (pv 6) (pa_cons pe_int (pa_cons pe_int pa_nil))))))) (pa_cons (pe_tup (pa_cons pe_str (pa_cons pe_bl (pa_cons pe_bl (pa_cons (pv 6) (pa_cons pe_int pa_nil)))))) (pa_cons (pe_tup (pa_cons pe_str (pa_cons pe_bl (pa_cons pe_bl (pa_cons (pv 6) (pa_cons (pv 5) (pa_cons pe_int pa_nil))))))) pa_nil))))))
      (pss_cons (ps_set (i := 7) sc_law.nd rfl (Or.inl rfl) (pe_op op_cat (pv 7) (pe_lst (pa_cons (pe_tup (pa_cons pe_str (pa_cons pe_bl (pa_cons pe_bl (pa_cons (pe_tup (pa_cons pe_int (pa_cons pe_int pa_nil))) (pa_cons pe_int (pa_cons pe_int pa_nil))))))) (pa_cons (pe_tup (pa_cons pe_str (pa_cons pe_bl (pa_cons pe_bl (pa_cons (pv 6) (pa_cons pe_int (pa_cons pe_int (pa_cons pe_int pa_nil)))))))) (pa_cons (pe_tup (pa_cons pe_str (pa_cons pe_int pa_nil))) (pa_cons (pe_tup (pa_cons pe_str (pa_cons (pv 6) pa_nil))) pa_nil)))))))
      (pss_cons (ps_set (i := 7) sc_law.nd rfl (Or.inl rfl) (pe_op op_cat (pv 7) (pe_lst (pa_cons (pe_tup (pa_cons pe_str (pa_cons pe_bl (pa_cons pe_bl (pa_cons (pv 6) (pa_cons pe_int (pa_cons pe_int (pa_cons (pe_op op_sub pe_int pe_int) pa_nil)))))))) (pa_cons (pe_tup (pa_cons pe_str (pa_cons pe_bl (pa_cons pe_bl (pa_cons (pv 6) (pa_cons pe_int (pa_cons pe_int pa_nil))))))) (pa_cons (pe_tup (pa_cons pe_str (pa_cons pe_bl (pa_cons pe_bl (pa_cons (pe_tup (pa_cons pe_int (pa_cons pe_int pa_nil))) (pa_cons pe_int (pa_cons pe_int pa_nil))))))) pa_nil))))))
      (pss_cons (ps_set (i := 7) sc_law.nd rfl (Or.inl rfl) (pe_op op_cat (pv 7) (pe_lst (pa_cons (pe_tup (pa_cons pe_str (pa_cons pe_bl (pa_cons pe_bl (pa_cons (pv 6) (pa_cons pe_int (pa_cons (pv 5) (pa_cons pe_int pa_nil)))))))) (pa_cons (pe_tup (pa_cons pe_str (pa_cons pe_bl (pa_cons pe_bl (pa_cons (pe_tup (pa_cons pe_int (pa_cons pe_int pa_nil))) (pa_cons pe_int (pa_cons pe_int (pa_cons pe_int pa_nil)))))))) (pa_cons (pe_tup (pa_cons pe_str (pa_cons pe_bl (pa_cons pe_bl (pa_cons (pe_tup (pa_cons pe_int (pa_cons pe_int pa_nil))) (pa_cons pe_int (pa_cons pe_int (pa_cons pe_int pa_nil)))))))) pa_nil))))))
      (pss_cons (ps_set (i := 8) sc_law.nd rfl (Or.inl rfl) (pe_op op_sub pe_int pe_int))
      (pss_cons (ps_set (i := 7) sc_law.nd rfl (Or.inl rfl) (pe_op op_cat (pv 7) (pe_lst (pa_cons (pe_tup (pa_cons pe_str (pa_cons (pv 5) (pa_cons pe_int pa_nil)))) (pa_cons (pe_tup (pa_cons pe_str (pa_cons (pv 8) (pa_cons pe_int pa_nil)))) (pa_cons (pe_tup (pa_cons pe_str (pa_cons pe_int (pa_cons (pv 8) pa_nil)))) (pa_cons (pe_tup (pa_cons pe_str (pa_cons pe_bl (pa_cons pe_bl (pa_cons (pv 6) (pa_cons pe_int (pa_cons (pv 5) pa_nil))))))) pa_nil)))))))
      (pss_cons (ps_set (i := 7) sc_law.nd rfl (Or.inl rfl) (pe_op op_cat (pv 7) (pe_lst (pa_cons (pe_tup (pa_cons pe_str (pa_cons pe_bl (pa_cons pe_bl (pa_cons (pv 6) (pa_cons (pv 8) (pa_cons pe_int pa_nil))))))) (pa_cons (pe_tup (pa_cons pe_str (pa_cons pe_bl (pa_cons pe_bl (pa_cons (pv 6) (pa_cons pe_int (pa_cons (pv 8) pa_nil))))))) (pa_cons (pe_tup (pa_cons pe_str (pa_cons pe_bl (pa_cons pe_bl (pa_cons (pv 6) (pa_cons (pv 8) pa_nil)))))) pa_nil))))))
      (pss_cons (ps_set (i := 7) sc_law.nd rfl (Or.inl rfl) (pe_op op_cat (pv 7) (pe_lst (pa_cons (pe_tup (pa_cons pe_str (pa_cons pe_bl (pa_cons pe_bl (pa_cons (pv 6) (pa_cons (pv 5) (pa_cons pe_int (pa_cons pe_int pa_nil)))))))) (pa_cons (pe_tup (pa_cons pe_str (pa_cons pe_bl (pa_cons pe_bl (pa_cons (pv 6) (pa_cons pe_int (pa_cons (pv 8) (pa_cons pe_int pa_nil)))))))) (pa_cons (pe_tup (pa_cons pe_str (pa_cons (pe_tup (pa_cons pe_int (pa_cons (pv 2) pa_nil))) pa_nil))) pa_nil))))))
      (pss_cons (ps_if (pt_cmpR op_gt (pv 2) pe_int (nomark _)) (pss_one (ps_set (i := 7) sc_law.nd rfl (Or.inl rfl) (pe_op op_cat (pv 7) (pe_lst (pa_cons (pe_tup (pa_cons pe_str (pa_cons (pe_tup (pa_cons pe_int (pa_cons pe_int pa_nil))) pa_nil))) (pa_cons (pe_tup (pa_cons pe_str (pa_cons (pe_tup (pa_cons (pe_op op_sub (pv 2) pe_int) (pa_cons pe_int pa_nil))) pa_nil))) (pa_cons (pe_tup (pa_cons pe_str (pa_cons (pe_tup (pa_cons pe_int (pa_cons pe_int (pa_cons pe_int pa_nil)))) pa_nil))) pa_nil))))))) pss_nil)
      (pss_cons (ps_set (i := 9) sc_law.nd rfl (Or.inl rfl) (pe_ix (ixL K) (pv 7) (pe_call G_b_next hr_b_next (by rfl) T.g_b_next T.F_b_next.kp T.b_b_next .nil pass0 (pa_cons (pv 1) (pa_cons (pe_callB (k_len K) (by rfl) T.z_len (by decide +kernel) (pa_cons (pv 7) pa_nil)) pa_nil))) (fun _ _ => rfl)))
      (pss_cons (ps_if (PW.pt (pw_or (pt_cmpR op_isnot_bl (pe_call G_is_valid hr_is_valid (by rfl) T.g_is_valid T.F_is_valid.kp T.b_is_valid .nil pass0 (pa_cons (pv 3) (pa_cons (pe_op (k_catA K) (pv 4) (pe_tup (pa_cons (pv 9) pa_nil))) pa_nil))) pe_bl (nomark _)) (pw_or1 (pt_cmpR op_isnot_bl (pe_call G_is_valid hr_is_valid (by rfl) T.g_is_valid T.F_is_valid.kp T.b_is_valid .nil pass0 (pa_cons (pv 3) (pa_cons (pe_op (k_catA K) (pv 4) (pe_tup (pa_cons (pv 9) (pa_cons (pe_tup (pa_cons pe_str (pa_cons (pe_tup pa_nil) pa_nil))) pa_nil)))) pa_nil))) pe_bl (nomark _))))) (pss_one (ps_ret pe_bl)) pss_nil)
      (pss_cons (ps_set (i := 10) sc_law.nd rfl (Or.inl rfl) (pe_op op_add pe_int (pe_call G_b_next hr_b_next (by rfl) T.g_b_next T.F_b_next.kp T.b_b_next .nil pass0 (pa_cons (pv 1) (pa_cons pe_int pa_nil)))))
      (pss_one (ps_ret (pe_cmpR op_eq (pe_call G_is_valid hr_is_valid (by rfl) T.g_is_valid T.F_is_valid.kp T.b_is_valid .nil pass0 (pa_cons (pv 3) (pa_cons (pe_op op_repT (pe_tup (pa_cons (pe_tup (pa_cons pe_str (pa_cons (pe_tup (pa_cons pe_int pa_nil)) pa_nil))) pa_nil)) (pv 10)) pa_nil))) (pe_cmpR op_le (pv 10) pe_int (nomark _)) (nomark _)))))))))))))))))))))))))), ?_⟩
  exact run_S (N := ["box", "states", "system", "sentence", "size", "half", "bad", "low", "wrong", "many"]) (f := body_law) (fun _ => (st_seq (st_newS (by decide))
      (st_seq (st_asg (s_op o_i0 s_int (s_callD (s_cons s_int s_nil))) (g_name (by decide)))
      (st_seq (st_asg (s_callD (s_cons s_var (s_cons s_int (s_cons s_int s_nil)))) (g_name (by decide)))
      (st_seq (st_asg (s_callD (s_cons s_var (s_cons s_int s_nil))) (g_name (by decide)))
      (st_seq (st_if (s_or (s_tst (s_op o_notB (s_callP (s_cons s_var (s_cons s_var s_nil))) s_bl)) (s_tst (s_op o_notB (s_callP (s_cons s_var (s_cons (s_tup s_nil) s_nil))) s_bl))) (st_ret s_bl) st_next)
      (st_seq (st_asg (s_cb c_len (s_cons s_var s_nil)) (g_name (by decide)))
      (st_seq (st_asg (s_tup (s_cons s_int (s_cons s_int s_nil))) (g_name (by decide)))
      (st_seq (st_asg (s_lst (s_cons (s_tup (s_cons s_str (s_cons (s_tup (s_cons s_var s_nil)) s_nil))) (s_cons (s_tup (s_cons s_str (s_cons (s_tup (s_cons (s_op o_i0 s_int s_int) s_nil)) s_nil))) (s_cons (s_tup (s_cons s_str (s_cons (s_tup (s_cons s_int (s_cons s_int s_nil))) s_nil))) (s_cons (s_tup (s_cons s_str s_nil)) (s_cons (s_tup (s_cons s_str (s_cons (s_tup (s_cons s_int s_nil)) (s_cons s_int s_nil)))) (s_cons (s_tup (s_cons s_str (s_cons s_var s_nil))) (s_cons (s_tup (s_cons s_str (s_cons (s_op o_i0 s_int s_int) s_nil))) s_nil)))))))) (g_name (by decide)))
      (st_seq (st_asg (s_op o_cat s_var (s_lst (s_cons (s_tup (s_cons s_str (s_cons s_int (s_cons s_var s_nil)))) (s_cons (s_tup (s_cons s_str (s_cons s_int s_nil))) (s_cons (s_tup (s_cons s_str s_nil)) (s_cons (s_tup (s_cons s_str (s_cons s_int (s_cons s_int s_nil)))) (s_cons (s_tup (s_cons s_str (s_cons s_bl (s_cons s_bl (s_cons s_var (s_cons s_var s_nil)))))) (s_cons (s_tup (s_cons s_str (s_cons s_bl s_nil))) s_nil)))))))) (g_name (by decide)))
      (st_seq (st_asg (s_op o_cat s_var (s_lst (s_cons (s_tup (s_cons s_str (s_cons s_bl (s_cons s_bl (s_cons (s_tup (s_cons s_int (s_cons s_int s_nil))) (s_cons s_int s_nil)))))) (s_cons (s_tup (s_cons s_str (s_cons s_bl (s_cons s_bl (s_cons (s_tup (s_cons (s_op o_i0 s_int s_int) (s_cons s_int s_nil))) (s_cons s_int s_nil)))))) (s_cons (s_tup (s_cons s_str (s_cons s_bl (s_cons s_bl (s_cons (s_tup (s_cons s_int (s_cons s_int s_nil))) (s_cons s_int s_nil)))))) s_nil))))) (g_name (by decide)))
      (st_seq (st_asg (s_op o_cat s_var (s_lst (s_cons (s_tup (s_cons s_str (s_cons s_bl (s_cons s_bl (s_cons s_var (s_cons s_int (s_cons s_int s_nil))))))) (s_cons (s_tup (s_cons s_str (s_cons s_bl (s_cons s_bl (s_cons s_var (s_cons s_int s_nil)))))) (s_cons (s_tup (s_cons s_str (s_cons s_bl (s_cons s_bl (s_cons s_var (s_cons s_var (s_cons s_int s_nil))))))) s_nil))))) (g_name (by decide)))
      (st_seq (st_asg (s_op o_cat s_var (s_lst (s_cons (s_tup (s_cons s_str (s_cons s_bl (s_cons s_bl (s_cons (s_tup (s_cons s_int (s_cons s_int s_nil))) (s_cons s_int (s_cons s_int s_nil))))))) (s_cons (s_tup (s_cons s_str (s_cons s_bl (s_cons s_bl (s_cons s_var (s_cons s_int (s_cons s_int (s_cons s_int s_nil)))))))) (s_cons (s_tup (s_cons s_str (s_cons s_int s_nil))) (s_cons (s_tup (s_cons s_str (s_cons s_var s_nil))) s_nil)))))) (g_name (by decide)))
      (st_seq (st_asg (s_op o_cat s_var (s_lst (s_cons (s_tup (s_cons s_str (s_cons s_bl (s_cons s_bl (s_cons s_var (s_cons s_int (s_cons s_int (s_cons (s_op o_i0 s_int s_int) s_nil)))))))) (s_cons (s_tup (s_cons s_str (s_cons s_bl (s_cons s_bl (s_cons s_var (s_cons s_int (s_cons s_int s_nil))))))) (s_cons (s_tup (s_cons s_str (s_cons s_bl (s_cons s_bl (s_cons (s_tup (s_cons s_int (s_cons s_int s_nil))) (s_cons s_int (s_cons s_int s_nil))))))) s_nil))))) (g_name (by decide)))
      (st_seq (st_asg (s_op o_cat s_var (s_lst (s_cons (s_tup (s_cons s_str (s_cons s_bl (s_cons s_bl (s_cons s_var (s_cons s_int (s_cons s_var (s_cons s_int s_nil)))))))) (s_cons (s_tup (s_cons s_str (s_cons s_bl (s_cons s_bl (s_cons (s_tup (s_cons s_int (s_cons s_int s_nil))) (s_cons s_int (s_cons s_int (s_cons s_int s_nil)))))))) (s_cons (s_tup (s_cons s_str (s_cons s_bl (s_cons s_bl (s_cons (s_tup (s_cons s_int (s_cons s_int s_nil))) (s_cons s_int (s_cons s_int (s_cons s_int s_nil)))))))) s_nil))))) (g_name (by decide)))
      (st_seq (st_asg (s_op o_i0 s_int s_int) (g_name (by decide)))
      (st_seq (st_asg (s_op o_cat s_var (s_lst (s_cons (s_tup (s_cons s_str (s_cons s_var (s_cons s_int s_nil)))) (s_cons (s_tup (s_cons s_str (s_cons s_var (s_cons s_int s_nil)))) (s_cons (s_tup (s_cons s_str (s_cons s_int (s_cons s_var s_nil)))) (s_cons (s_tup (s_cons s_str (s_cons s_bl (s_cons s_bl (s_cons s_var (s_cons s_int (s_cons s_var s_nil))))))) s_nil)))))) (g_name (by decide)))
      (st_seq (st_asg (s_op o_cat s_var (s_lst (s_cons (s_tup (s_cons s_str (s_cons s_bl (s_cons s_bl (s_cons s_var (s_cons s_var (s_cons s_int s_nil))))))) (s_cons (s_tup (s_cons s_str (s_cons s_bl (s_cons s_bl (s_cons s_var (s_cons s_int (s_cons s_var s_nil))))))) (s_cons (s_tup (s_cons s_str (s_cons s_bl (s_cons s_bl (s_cons s_var (s_cons s_var s_nil)))))) s_nil))))) (g_name (by decide)))
      (st_seq (st_asg (s_op o_cat s_var (s_lst (s_cons (s_tup (s_cons s_str (s_cons s_bl (s_cons s_bl (s_cons s_var (s_cons s_var (s_cons s_int (s_cons s_int s_nil)))))))) (s_cons (s_tup (s_cons s_str (s_cons s_bl (s_cons s_bl (s_cons s_var (s_cons s_int (s_cons s_var (s_cons s_int s_nil)))))))) (s_cons (s_tup (s_cons s_str (s_cons (s_tup (s_cons s_int (s_cons s_var s_nil))) s_nil))) s_nil))))) (g_name (by decide)))
      (st_seq (st_if (s_tst (s_op o_ib s_var s_int)) (st_asg (s_op o_cat s_var (s_lst (s_cons (s_tup (s_cons s_str (s_cons (s_tup (s_cons s_int (s_cons s_int s_nil))) s_nil))) (s_cons (s_tup (s_cons s_str (s_cons (s_tup (s_cons (s_op o_i0 s_var s_int) (s_cons s_int s_nil))) s_nil))) (s_cons (s_tup (s_cons s_str (s_cons (s_tup (s_cons s_int (s_cons s_int (s_cons s_int s_nil)))) s_nil))) s_nil))))) (g_name (by decide))) st_next)
      (st_seq (st_asg (s_op o_ixL s_var (s_callD (s_cons (s_cb c_len (s_cons s_var s_nil)) s_nil))) (g_name (by decide)))
      (st_seq (st_if (s_or (s_tst (s_op o_notB (s_callP (s_cons s_var (s_cons (s_op o_catT s_var (s_tup (s_cons s_var s_nil))) s_nil))) s_bl)) (s_tst (s_op o_notB (s_callP (s_cons s_var (s_cons (s_op o_catT s_var (s_tup (s_cons s_var (s_cons (s_tup (s_cons s_str (s_cons (s_tup s_nil) s_nil))) s_nil)))) s_nil))) s_bl))) (st_ret s_bl) st_next)
      (st_seq (st_asg (s_op o_i0 s_int (s_callD (s_cons s_int s_nil))) (g_name (by decide)))
      (st_ret (s_op o_eq (s_callP (s_cons s_var (s_cons (s_op o_repT (s_tup (s_cons (s_tup (s_cons s_str (s_cons (s_tup (s_cons s_int s_nil)) s_nil))) s_nil)) s_var) s_nil))) (s_op o_ib s_var s_int)))))))))))))))))))))))))) h
def sp_law (K : PySem.W.Frag) : Sp := fun vs H Q _ => ∃ (a : Addr) (ns : List Int), vs = [.ref a] ∧ SqL K H a (ns.map V.int) ∧ ns.length ≤ 63 ∧ ∀ H', Q (.bl true) H'
theorem ok_law {P : Program} {w : World} {K : PySem.W.Frag} {mg : Str → Option Value} {base : Heap} (T : Env w K mg) : FnOk P w K mg base CX0 5 T.a_law T.d_law ["script"] (sp_law K) :=
  (ok_law0 T).imp fun vs H Q E ⟨a, ns, e, s, hl, q⟩ => ⟨a, ns, H, e, s, Same.refl _, (law_worth hl).mono fun z hz v H' B' _ _ _ _ dv => by
    subst hz
    cases dv
    exact q H'⟩
theorem all_mk {l : PySem.W.OpenLaw} {w : World} {K : PySem.W.Frag} {h : Heap} {mg : Str → Option Value} {fa f0 f1 f2 f3 f4 f5 f6 f7 f8 f9 f10 f11 f12 f13 : Addr} (X : K.In h) (G : h.Ns mainGlobals mg) (hfa : mg "law" = some (.ref fa))
    {od0 an0 : Option Addr} {sl0 : Array (Option Value)} {oc0 kV0 dc0 pm0 cd0 ct0 : Value}
    {od1 an1 : Option Addr} {sl1 : Array (Option Value)} {oc1 kV1 dc1 pm1 cd1 ct1 : Value}
    {od2 an2 : Option Addr} {sl2 : Array (Option Value)} {oc2 kV2 dc2 pm2 cd2 ct2 : Value}
    {od3 an3 : Option Addr} {sl3 : Array (Option Value)} {oc3 kV3 dc3 pm3 cd3 ct3 : Value}
    {od4 an4 : Option Addr} {sl4 : Array (Option Value)} {oc4 kV4 dc4 pm4 cd4 ct4 : Value}
    {od5 an5 : Option Addr} {sl5 : Array (Option Value)} {oc5 kV5 dc5 pm5 cd5 ct5 : Value}
    {od6 an6 : Option Addr} {sl6 : Array (Option Value)} {oc6 kV6 dc6 pm6 cd6 ct6 : Value}
    {od7 an7 : Option Addr} {sl7 : Array (Option Value)} {oc7 kV7 dc7 pm7 cd7 ct7 : Value}
    {od8 an8 : Option Addr} {sl8 : Array (Option Value)} {oc8 kV8 dc8 pm8 cd8 ct8 : Value}
    {od9 an9 : Option Addr} {sl9 : Array (Option Value)} {oc9 kV9 dc9 pm9 cd9 ct9 : Value}
    {od10 an10 : Option Addr} {sl10 : Array (Option Value)} {oc10 kV10 dc10 pm10 cd10 ct10 : Value}
    {od11 an11 : Option Addr} {sl11 : Array (Option Value)} {oc11 kV11 dc11 pm11 cd11 ct11 : Value}
    {od12 an12 : Option Addr} {sl12 : Array (Option Value)} {oc12 kV12 dc12 pm12 cd12 ct12 : Value}
    {od13 an13 : Option Addr} {sl13 : Array (Option Value)} {oc13 kV13 dc13 pm13 cd13 ct13 : Value}
    (a0 : PySem.W.nsIn K mainGlobals "_law_draws" = some (some (.ref f0))) (l0 : K.lookup f0 = some ⟨oc0, od0, .func (PySem.W.fnOf "_law_draws" "_law_draws" (defArgs s_b_draws) (defBody s_b_draws) (defScope s_b_draws) .none kV0 dc0 pm0 an0 cd0 ct0), sl0⟩) (c0 : PySem.W.codeIn K cd0 "_law_draws" = true) (k0 : PySem.W.keepIn K (.ref f0) = true)
    (a1 : PySem.W.nsIn K mainGlobals "_law_box" = some (some (.ref f1))) (l1 : K.lookup f1 = some ⟨oc1, od1, .func (PySem.W.fnOf "_law_box" "_law_box" (defArgs s_b_box) (defBody s_b_box) (defScope s_b_box) .none kV1 dc1 pm1 an1 cd1 ct1), sl1⟩) (c1 : PySem.W.codeIn K cd1 "_law_box" = true) (k1 : PySem.W.keepIn K (.ref f1) = true)
    (a2 : PySem.W.nsIn K mainGlobals "_law_next" = some (some (.ref f2))) (l2 : K.lookup f2 = some ⟨oc2, od2, .func (PySem.W.fnOf "_law_next" "_law_next" (defArgs s_b_next) (defBody s_b_next) (defScope s_b_next) .none kV2 dc2 pm2 an2 cd2 ct2), sl2⟩) (c2 : PySem.W.codeIn K cd2 "_law_next" = true) (k2 : PySem.W.keepIn K (.ref f2) = true)
    (a3 : PySem.W.nsIn K mainGlobals "_law_ends" = some (some (.ref f3))) (l3 : K.lookup f3 = some ⟨oc3, od3, .func (PySem.W.fnOf "_law_ends" "_law_ends" (defArgs s_b_ends) (defBody s_b_ends) (defScope s_b_ends) .none kV3 dc3 pm3 an3 cd3 ct3), sl3⟩) (c3 : PySem.W.codeIn K cd3 "_law_ends" = true) (k3 : PySem.W.keepIn K (.ref f3) = true)
    (a4 : PySem.W.nsIn K mainGlobals "_law_system" = some (some (.ref f4))) (l4 : K.lookup f4 = some ⟨oc4, od4, .func (PySem.W.fnOf "_law_system" "_law_system" (defArgs s_b_system) (defBody s_b_system) (defScope s_b_system) .none kV4 dc4 pm4 an4 cd4 ct4), sl4⟩) (c4 : PySem.W.codeIn K cd4 "_law_system" = true) (k4 : PySem.W.keepIn K (.ref f4) = true)
    (a5 : PySem.W.nsIn K mainGlobals "_law_chance" = some (some (.ref f5))) (l5 : K.lookup f5 = some ⟨oc5, od5, .func (PySem.W.fnOf "_law_chance" "_law_chance" (defArgs s_b_chance) (defBody s_b_chance) (defScope s_b_chance) .none kV5 dc5 pm5 an5 cd5 ct5), sl5⟩) (c5 : PySem.W.codeIn K cd5 "_law_chance" = true) (k5 : PySem.W.keepIn K (.ref f5) = true)
    (a6 : PySem.W.nsIn K mainGlobals "_law_line" = some (some (.ref f6))) (l6 : K.lookup f6 = some ⟨oc6, od6, .func (PySem.W.fnOf "_law_line" "_law_line" (defArgs s_b_line) (defBody s_b_line) (defScope s_b_line) .none kV6 dc6 pm6 an6 cd6 ct6), sl6⟩) (c6 : PySem.W.codeIn K cd6 "_law_line" = true) (k6 : PySem.W.keepIn K (.ref f6) = true)
    (a7 : PySem.W.nsIn K mainGlobals "_law_sentence" = some (some (.ref f7))) (l7 : K.lookup f7 = some ⟨oc7, od7, .func (PySem.W.fnOf "_law_sentence" "_law_sentence" (defArgs s_b_sentence) (defBody s_b_sentence) (defScope s_b_sentence) .none kV7 dc7 pm7 an7 cd7 ct7), sl7⟩) (c7 : PySem.W.codeIn K cd7 "_law_sentence" = true) (k7 : PySem.W.keepIn K (.ref f7) = true)
    (a8 : PySem.W.nsIn K mainGlobals "are_earlier" = some (some (.ref f8))) (l8 : K.lookup f8 = some ⟨oc8, od8, .func (PySem.W.fnOf "are_earlier" "are_earlier" (defArgs s_are_earlier) (defBody s_are_earlier) (defScope s_are_earlier) .none kV8 dc8 pm8 an8 cd8 ct8), sl8⟩) (c8 : PySem.W.codeIn K cd8 "are_earlier" = true) (k8 : PySem.W.keepIn K (.ref f8) = true)
    (a9 : PySem.W.nsIn K mainGlobals "is_set" = some (some (.ref f9))) (l9 : K.lookup f9 = some ⟨oc9, od9, .func (PySem.W.fnOf "is_set" "is_set" (defArgs s_is_set) (defBody s_is_set) (defScope s_is_set) .none kV9 dc9 pm9 an9 cd9 ct9), sl9⟩) (c9 : PySem.W.codeIn K cd9 "is_set" = true) (k9 : PySem.W.keepIn K (.ref f9) = true)
    (a10 : PySem.W.nsIn K mainGlobals "is_fraction" = some (some (.ref f10))) (l10 : K.lookup f10 = some ⟨oc10, od10, .func (PySem.W.fnOf "is_fraction" "is_fraction" (defArgs s_is_fraction) (defBody s_is_fraction) (defScope s_is_fraction) .none kV10 dc10 pm10 an10 cd10 ct10), sl10⟩) (c10 : PySem.W.codeIn K cd10 "is_fraction" = true) (k10 : PySem.W.keepIn K (.ref f10) = true)
    (a11 : PySem.W.nsIn K mainGlobals "is_line" = some (some (.ref f11))) (l11 : K.lookup f11 = some ⟨oc11, od11, .func (PySem.W.fnOf "is_line" "is_line" (defArgs s_is_line) (defBody s_is_line) (defScope s_is_line) .none kV11 dc11 pm11 an11 cd11 ct11), sl11⟩) (c11 : PySem.W.codeIn K cd11 "is_line" = true) (k11 : PySem.W.keepIn K (.ref f11) = true)
    (a12 : PySem.W.nsIn K mainGlobals "is_valid" = some (some (.ref f12))) (l12 : K.lookup f12 = some ⟨oc12, od12, .func (PySem.W.fnOf "is_valid" "is_valid" (defArgs s_is_valid) (defBody s_is_valid) (defScope s_is_valid) .none kV12 dc12 pm12 an12 cd12 ct12), sl12⟩) (c12 : PySem.W.codeIn K cd12 "is_valid" = true) (k12 : PySem.W.keepIn K (.ref f12) = true)
    (a13 : PySem.W.nsIn K mainGlobals "law" = some (some (.ref f13))) (l13 : K.lookup f13 = some ⟨oc13, od13, .func (PySem.W.fnOf "law" "law" (defArgs s_law) (defBody s_law) (defScope s_law) .none kV13 dc13 pm13 an13 cd13 ct13), sl13⟩) (c13 : PySem.W.codeIn K cd13 "law" = true) (k13 : PySem.W.keepIn K (.ref f13) = true)
    (z_all : PySem.W.nsIn K mainGlobals "all" = some none)
    (z_enumerate : PySem.W.nsIn K mainGlobals "enumerate" = some none)
    (z_int : PySem.W.nsIn K mainGlobals "int" = some none)
    (z_len : PySem.W.nsIn K mainGlobals "len" = some none)
    (z_range : PySem.W.nsIn K mainGlobals "range" = some none)
    (z_tuple : PySem.W.nsIn K mainGlobals "tuple" = some none)
    (z_gcd : PySem.W.nsIn K mainGlobals "gcd" = some (some (.builtin "math.gcd")))
    {t_MOST_LINES : Tok} (z_MOST_LINES : PySem.W.nsIn K mainGlobals "MOST_LINES" = some (some (.int 40 t_MOST_LINES)))
    {t_MOST_STEPS : Tok} (z_MOST_STEPS : PySem.W.nsIn K mainGlobals "MOST_STEPS" = some (some (.int 30 t_MOST_STEPS)))
    {m_MEMBERS : Addr} (gx_MEMBERS : PySem.W.nsIn K mainGlobals "MEMBERS" = some (some (.ref m_MEMBERS))) (dx_MEMBERS : He.dicW K m_MEMBERS = some (He.keysIn w.params (([("in", 2), ("not", 2), ("and", 3), ("next", 5), ("until", 6), ("within", 7)] : List (Str × Int)).map (·.1))))
    {t0_MEMBERS : Tok} (vx0_MEMBERS : PySem.W.nsIn K m_MEMBERS "in" = some (some (.int 2 t0_MEMBERS)))
    {t1_MEMBERS : Tok} (vx1_MEMBERS : PySem.W.nsIn K m_MEMBERS "not" = some (some (.int 2 t1_MEMBERS)))
    {t2_MEMBERS : Tok} (vx2_MEMBERS : PySem.W.nsIn K m_MEMBERS "and" = some (some (.int 3 t2_MEMBERS)))
    {t3_MEMBERS : Tok} (vx3_MEMBERS : PySem.W.nsIn K m_MEMBERS "next" = some (some (.int 5 t3_MEMBERS)))
    {t4_MEMBERS : Tok} (vx4_MEMBERS : PySem.W.nsIn K m_MEMBERS "until" = some (some (.int 6 t4_MEMBERS)))
    {t5_MEMBERS : Tok} (vx5_MEMBERS : PySem.W.nsIn K m_MEMBERS "within" = some (some (.int 7 t5_MEMBERS)))
    : ∃ fd : FuncData, (∀ (s : Shared) (v : Value), BindsTo s fd ⟨[v], []⟩ [("script", v)]) ∧ ∀ base : Heap, K.In base → base.Ns mainGlobals mg → FnOk l.prog w K mg base CX0 5 fa fd ["script"] (sp_law K) := by
  have e := hfa.symm.trans (PySem.W.mg_of X G a13)
  cases e
  have F0 := fun_mk (st := s_b_draws) l0 c0 k0
  have b0 := F0.binds (ps := ["cell", "modulus", "count"]) fun _ _ _ _ _ _ us hl => match us, hl with | [_, _, _], _ => rfl
  have F1 := fun_mk (st := s_b_box) l1 c1 k1
  have b1 := F1.binds (ps := ["script"]) fun _ _ _ _ _ _ us hl => match us, hl with | [_], _ => rfl
  have F2 := fun_mk (st := s_b_next) l2 c2 k2
  have b2 := F2.binds (ps := ["box", "modulus"]) fun _ _ _ _ _ _ us hl => match us, hl with | [_, _], _ => rfl
  have F3 := fun_mk (st := s_b_ends) l3 c3 k3
  have b3 := F3.binds (ps := ["box", "states"]) fun _ _ _ _ _ _ us hl => match us, hl with | [_, _], _ => rfl
  have F4 := fun_mk (st := s_b_system) l4 c4 k4
  have b4 := F4.binds (ps := ["box", "states", "most", "dear"]) fun _ _ _ _ _ _ us hl => match us, hl with | [_, _, _, _], _ => rfl
  have F5 := fun_mk (st := s_b_chance) l5 c5 k5
  have b5 := F5.binds (ps := ["box"]) fun _ _ _ _ _ _ us hl => match us, hl with | [_], _ => rfl
  have F6 := fun_mk (st := s_b_line) l6 c6 k6
  have b6 := F6.binds (ps := ["box", "states", "number"]) fun _ _ _ _ _ _ us hl => match us, hl with | [_, _, _], _ => rfl
  have F7 := fun_mk (st := s_b_sentence) l7 c7 k7
  have b7 := F7.binds (ps := ["box", "states", "most"]) fun _ _ _ _ _ _ us hl => match us, hl with | [_, _, _], _ => rfl
  have F8 := fun_mk (st := s_are_earlier) l8 c8 k8
  have b8 := F8.binds (ps := ["at", "numbers"]) fun _ _ _ _ _ _ us hl => match us, hl with | [_, _], _ => rfl
  have F9 := fun_mk (st := s_is_set) l9 c9 k9
  have b9 := F9.binds (ps := ["many", "states"]) fun _ _ _ _ _ _ us hl => match us, hl with | [_, _], _ => rfl
  have F10 := fun_mk (st := s_is_fraction) l10 c10 k10
  have b10 := F10.binds (ps := ["pair"]) fun _ _ _ _ _ _ us hl => match us, hl with | [_], _ => rfl
  have F11 := fun_mk (st := s_is_line) l11 c11 k11
  have b11 := F11.binds (ps := ["many", "at", "line"]) fun _ _ _ _ _ _ us hl => match us, hl with | [_, _, _], _ => rfl
  have F12 := fun_mk (st := s_is_valid) l12 c12 k12
  have b12 := F12.binds (ps := ["system", "sentence"]) fun _ _ _ _ _ _ us hl => match us, hl with | [_, _], _ => rfl
  have F13 := fun_mk (st := s_law) l13 c13 k13
  have b13 := F13.binds (ps := ["script"]) fun _ _ _ _ _ _ us hl => match us, hl with | [_], _ => rfl
  have vx_MEMBERS : ∀ e ∈ ([("in", 2), ("not", 2), ("and", 3), ("next", 5), ("until", 6), ("within", 7)] : List (Str × Int)), ∃ t, PySem.W.nsIn K m_MEMBERS e.1 = some (some (.int e.2 t)) := fun e he => by
    simp only [List.mem_cons, List.not_mem_nil, or_false] at he
    rcases he with rfl | rfl | rfl | rfl | rfl | rfl
    · exact ⟨_, vx0_MEMBERS⟩
    · exact ⟨_, vx1_MEMBERS⟩
    · exact ⟨_, vx2_MEMBERS⟩
    · exact ⟨_, vx3_MEMBERS⟩
    · exact ⟨_, vx4_MEMBERS⟩
    · exact ⟨_, vx5_MEMBERS⟩
  let T : Env w K mg := { a_b_draws := _, d_b_draws := _, F_b_draws := F0, b_b_draws := b0, g_b_draws := PySem.W.mg_of X G a0, a_b_box := _, d_b_box := _, F_b_box := F1, b_b_box := b1, g_b_box := PySem.W.mg_of X G a1, a_b_next := _, d_b_next := _, F_b_next := F2, b_b_next := b2, g_b_next := PySem.W.mg_of X G a2, a_b_ends := _, d_b_ends := _, F_b_ends := F3, b_b_ends := b3, g_b_ends := PySem.W.mg_of X G a3, a_b_system := _, d_b_system := _, F_b_system := F4, b_b_system := b4, g_b_system := PySem.W.mg_of X G a4, a_b_chance := _, d_b_chance := _, F_b_chance := F5, b_b_chance := b5, g_b_chance := PySem.W.mg_of X G a5, a_b_line := _, d_b_line := _, F_b_line := F6, b_b_line := b6, g_b_line := PySem.W.mg_of X G a6, a_b_sentence := _, d_b_sentence := _, F_b_sentence := F7, b_b_sentence := b7, g_b_sentence := PySem.W.mg_of X G a7, a_are_earlier := _, d_are_earlier := _, F_are_earlier := F8, b_are_earlier := b8, g_are_earlier := PySem.W.mg_of X G a8, a_is_set := _, d_is_set := _, F_is_set := F9, b_is_set := b9, g_is_set := PySem.W.mg_of X G a9, a_is_fraction := _, d_is_fraction := _, F_is_fraction := F10, b_is_fraction := b10, g_is_fraction := PySem.W.mg_of X G a10, a_is_line := _, d_is_line := _, F_is_line := F11, b_is_line := b11, g_is_line := PySem.W.mg_of X G a11, a_is_valid := _, d_is_valid := _, F_is_valid := F12, b_is_valid := b12, g_is_valid := PySem.W.mg_of X G a12, a_law := _, d_law := _, F_law := F13, b_law := b13, g_law := PySem.W.mg_of X G a13, z_all := PySem.W.mg_none_of X G z_all, z_enumerate := PySem.W.mg_none_of X G z_enumerate, z_int := PySem.W.mg_none_of X G z_int, z_len := PySem.W.mg_none_of X G z_len, z_range := PySem.W.mg_none_of X G z_range, z_tuple := PySem.W.mg_none_of X G z_tuple, z_gcd := PySem.W.mg_of X G z_gcd, k_MOST_LINES := t_MOST_LINES, c_MOST_LINES := PySem.W.mg_of X G z_MOST_LINES, k_MOST_STEPS := t_MOST_STEPS, c_MOST_STEPS := PySem.W.mg_of X G z_MOST_STEPS, m_MEMBERS := _, g_MEMBERS := PySem.W.mg_of X G gx_MEMBERS, d_MEMBERS := dx_MEMBERS, v_MEMBERS := vx_MEMBERS }
  exact ⟨PySem.W.fnOf "law" "law" (defArgs s_law) (defBody s_law) (defScope s_law) .none kV13 dc13 pm13 an13 cd13 ct13, fun s v => .of_eq rfl, fun base _ _ => ok_law T⟩
end Bo
open PySem PySem.W PyProof.Rows
set_option maxRecDepth 100000 in
set_option maxHeartbeats 0 in
theorem PySem.Challenge.cw_bestodds_k34_valid_sentences_holds : PySem.Challenge.rw_bestodds_k34_valid_sentences.Holds := by
  w_on; o_law; k_head; (case hw => w_witness2)
  k_fill
  refine L2.walk_of (l := PySem.Challenge.rw_bestodds_k34_valid_sentences) (n := 63) (k := 5) (x := "script") (CX := fun _ => L2.CX0) (sp := fun w => Bo.sp_law _) rfl (by decide) rfl ⟨rfl, by decide, by decide⟩ (fun w h Y => PySem.W.kIn_of Y) ?F (fun _ _ a ns hl _ hS => ⟨a, ns, rfl, hS, hl, fun _ => rfl⟩) (fun _ _ _ _ _ h => h)
  case F =>
    intro w mg fa h KX G hmg
    refine' Bo.all_mk KX G hmg ?a0 ?l0 ?c0 ?k0 ?a1 ?l1 ?c1 ?k1 ?a2 ?l2 ?c2 ?k2 ?a3 ?l3 ?c3 ?k3 ?a4 ?l4 ?c4 ?k4 ?a5 ?l5 ?c5 ?k5 ?a6 ?l6 ?c6 ?k6 ?a7 ?l7 ?c7 ?k7 ?a8 ?l8 ?c8 ?k8 ?a9 ?l9 ?c9 ?k9 ?a10 ?l10 ?c10 ?k10 ?a11 ?l11 ?c11 ?k11 ?a12 ?l12 ?c12 ?k12 ?a13 ?l13 ?c13 ?k13 ?z_all ?z_enumerate ?z_int ?z_len ?z_range ?z_tuple ?z_gcd ?z_MOST_LINES ?z_MOST_STEPS ?gx_MEMBERS ?dx_MEMBERS ?vx0_MEMBERS ?vx1_MEMBERS ?vx2_MEMBERS ?vx3_MEMBERS ?vx4_MEMBERS ?vx5_MEMBERS
    (case a0 => k_is)
    (case l0 => k_is)
    (case c0 => k_is)
    (case k0 => k_is)
    (case a1 => k_is)
    (case l1 => k_is)
    (case c1 => k_is)
    (case k1 => k_is)
    (case a2 => k_is)
    (case l2 => k_is)
    (case c2 => k_is)
    (case k2 => k_is)
    (case a3 => k_is)
    (case l3 => k_is)
    (case c3 => k_is)
    (case k3 => k_is)
    (case a4 => k_is)
    (case l4 => k_is)
    (case c4 => k_is)
    (case k4 => k_is)
    (case a5 => k_is)
    (case l5 => k_is)
    (case c5 => k_is)
    (case k5 => k_is)
    (case a6 => k_is)
    (case l6 => k_is)
    (case c6 => k_is)
    (case k6 => k_is)
    (case a7 => k_is)
    (case l7 => k_is)
    (case c7 => k_is)
    (case k7 => k_is)
    (case a8 => k_is)
    (case l8 => k_is)
    (case c8 => k_is)
    (case k8 => k_is)
    (case a9 => k_is)
    (case l9 => k_is)
    (case c9 => k_is)
    (case k9 => k_is)
    (case a10 => k_is)
    (case l10 => k_is)
    (case c10 => k_is)
    (case k10 => k_is)
    (case a11 => k_is)
    (case l11 => k_is)
    (case c11 => k_is)
    (case k11 => k_is)
    (case a12 => k_is)
    (case l12 => k_is)
    (case c12 => k_is)
    (case k12 => k_is)
    (case a13 => k_is)
    (case l13 => k_is)
    (case c13 => k_is)
    (case k13 => k_is)
    (case z_all => k_is)
    (case z_enumerate => k_is)
    (case z_int => k_is)
    (case z_len => k_is)
    (case z_range => k_is)
    (case z_tuple => k_is)
    (case z_gcd => k_is)
    (case z_MOST_LINES => k_is)
    (case z_MOST_STEPS => k_is)
    (case gx_MEMBERS => k_is)
    (case dx_MEMBERS => first | kernel_rfl | rfl)
    (case vx0_MEMBERS => k_is)
    (case vx1_MEMBERS => k_is)
    (case vx2_MEMBERS => k_is)
    (case vx3_MEMBERS => k_is)
    (case vx4_MEMBERS => k_is)
    (case vx5_MEMBERS => k_is)

