import PyProof.Rows.All
import HandS.ForMost
import HandS.Deep
import HandS.Dict
import HandS.TupAny
import HandS.Conv
import HandS.NoneIn
import HandS.IsInst
import HandS.Wide
import HandS.Walk
import HandS.Style
import KE.KTupSum
import HandS.More
import HandS.Exc
import HandS.ExcOwn
import HandS.WordsExc
import HandS.ExcInit
import HandS.ExcField
import HandS.ExcIs
import KE.KExcIs
import KE.RegKIsAll
import PySem.Challenge.RW_bothreaders_k08_every_sign_spoilt
set_option Elab.async false
set_option linter.all false
set_option maxRecDepth 100000
set_option maxHeartbeats 2000000
/-! a layer of data over the hand layer: values as trees (D), lists that one slot alone owns, readings that are functions of slots -/
namespace Dv
open PySem PySem.Spec PyProof.Rows L2

inductive D where
  | non | bl (b : Bool) | int (i : Int) | str (x : Str) | lst (xs : List D) | tup (xs : List D) | frl (xs : List D) | dct (ks : List Str) (xs : List D) | op (v : V)

abbrev AP := Addr → Prop

/-- a list that no one changes: locked, or of the written part -/
def FrL (K : PySem.W.Frag) (H : Hp) (a : Addr) (xs : List V) : Prop := (∃ o, H a = some (.frz o (.lst xs))) ∨
    ∃ (o : Obj) (its : Array Value) (n : Nat), K.lookup a = some o ∧ o.cls = .type "list" ∧ o.dict = none ∧ o.data = .seq its n ∧ its.size ≤ sizeLine ∧ Vals xs its.toList
theorem FrL.sq {K : PySem.W.Frag} {H : Hp} {a : Addr} {xs : List V} (h : FrL K H a xs) : SqL K H a xs := h.elim (fun h => .inl (.inr h)) .inr
theorem FrL.to {K : PySem.W.Frag} {H H' : Hp} {a : Addr} {xs : List V} (h : FrL K H a xs) (k : ∀ o, H a = some (.frz o (.lst xs)) → H' a = some (.frz o (.lst xs))) : FrL K H' a xs := h.imp (fun ⟨o, e⟩ => ⟨o, k o e⟩) id
mutual
def Rep (K : PySem.W.Frag) (H : Hp) (O : AP) : D → V → Prop
  | .non, v => v = .non
  | .bl b, v => v = .bl b
  | .int i, v => v = .int i
  | .str x, v => v = .str x
  | .lst ds, v => ∃ a xs, v = .ref a ∧ H a = some (.lst xs) ∧ ¬ O a ∧ Reps K H O ds xs
  | .tup ds, v => ∃ a xs, v = .ref a ∧ SqT K H a xs ∧ Reps K H O ds xs
  | .frl ds, v => ∃ a xs, v = .ref a ∧ FrL K H a xs ∧ Reps K H O ds xs
  | .dct ks ds, v => ∃ (a : Addr) (kvs : List (Key × V)), v = .ref a ∧ H a = some (.dK kvs) ∧ kvs ≠ [] ∧ kvs.map (·.1) = ks.map Sum.inr ∧ Reps K H O ds (kvs.map (·.2))
  | .op u, v => v = u
def Reps (K : PySem.W.Frag) (H : Hp) (O : AP) : List D → List V → Prop
  | [], vs => vs = []
  | d :: ds, vs => ∃ v r, vs = v :: r ∧ Rep K H O d v ∧ Reps K H O ds r
end

section
variable {K : PySem.W.Frag} {H H' : Hp} {O O' : AP}
theorem Reps.len : ∀ {ds : List D} {xs : List V}, Reps K H O ds xs → ds.length = xs.length
  | [], xs, h => by rw [Reps] at h; rw [h]; rfl
  | d :: ds, xs, h => by
    rw [Reps] at h
    obtain ⟨v, r, rfl, _, h2⟩ := h
    simp [Reps.len h2]
theorem Reps.get : ∀ {ds : List D} {xs : List V} {i : Nat} {d : D}, Reps K H O ds xs → ds[i]? = some d → ∃ v, xs[i]? = some v ∧ Rep K H O d v
  | [], xs, i, d, h, e => by simp at e
  | d :: ds, xs, 0, d', h, e => by
    rw [Reps] at h
    obtain ⟨v, r, rfl, h1, h2⟩ := h
    simp at e; subst e
    exact ⟨v, rfl, h1⟩
  | d :: ds, xs, i + 1, d', h, e => by
    rw [Reps] at h
    obtain ⟨v, r, rfl, h1, h2⟩ := h
    simp at e
    simpa using Reps.get (i := i) h2 e
theorem Reps.get' {ds : List D} {xs : List V} {i : Nat} {v : V} (h : Reps K H O ds xs) (e : xs[i]? = some v) : ∃ d, ds[i]? = some d ∧ Rep K H O d v := by
  have hl := h.len
  obtain ⟨hi, _⟩ := List.getElem?_eq_some_iff.mp e
  obtain ⟨u, q, r⟩ := h.get (d := ds[i]'(by omega)) (List.getElem?_eq_getElem (by omega))
  rw [e] at q; cases q
  exact ⟨_, List.getElem?_eq_getElem (by omega), r⟩
theorem Reps.nil : Reps K H O [] [] := by rw [Reps]
theorem Reps.cons {d : D} {v : V} {ds : List D} {vs : List V} (h : Rep K H O d v) (h2 : Reps K H O ds vs) : Reps K H O (d :: ds) (v :: vs) := by
  rw [Reps]; exact ⟨v, vs, rfl, h, h2⟩
theorem Reps.of : ∀ {ds : List D} {xs : List V}, ds.length = xs.length → (∀ (i : Nat) (d : D) (v : V), ds[i]? = some d → xs[i]? = some v → Rep K H O d v) → Reps K H O ds xs
  | [], [], _, _ => .nil
  | [], _ :: _, h, _ => by simp at h
  | _ :: _, [], h, _ => by simp at h
  | d :: ds, v :: vs, h, f => .cons (f 0 d v rfl rfl) (Reps.of (by simpa using h) fun i d' v' e1 e2 => f (i + 1) d' v' (by simpa using e1) (by simpa using e2))
theorem Reps.append {ds es : List D} {xs ys : List V} (h : Reps K H O ds xs) (h2 : Reps K H O es ys) : Reps K H O (ds ++ es) (xs ++ ys) := by
  have l1 := h.len
  have l2 := h2.len
  refine Reps.of (by simp [l1, l2]) fun i d v e1 e2 => ?_
  by_cases hi : i < ds.length
  · rw [List.getElem?_append_left hi] at e1
    rw [List.getElem?_append_left (by omega)] at e2
    obtain ⟨u, q, r⟩ := h.get e1
    rw [e2] at q; cases q; exact r
  · rw [List.getElem?_append_right (by omega)] at e1
    rw [List.getElem?_append_right (by omega), ← l1] at e2
    obtain ⟨u, q, r⟩ := h2.get e1
    rw [e2] at q; cases q; exact r
theorem Reps.drop {ds : List D} {xs : List V} (n : Nat) (h : Reps K H O ds xs) : Reps K H O (ds.drop n) (xs.drop n) := by
  have l1 := h.len
  refine Reps.of (by simp [l1]) fun i d v e1 e2 => ?_
  rw [List.getElem?_drop] at e1 e2
  obtain ⟨u, q, r⟩ := h.get e1
  rw [e2] at q; cases q; exact r
theorem Reps.take {ds : List D} {xs : List V} (n : Nat) (h : Reps K H O ds xs) : Reps K H O (ds.take n) (xs.take n) := by
  have l1 := h.len
  refine Reps.of (by simp [l1]) fun i d v e1 e2 => ?_
  rw [List.getElem?_take] at e1 e2
  split at e1
  · rw [if_pos (by assumption)] at e2
    obtain ⟨u, q, r⟩ := h.get e1
    rw [e2] at q; cases q; exact r
  · cases e1
theorem Reps.set {ds : List D} {xs : List V} {d : D} {v : V} (i : Nat) (h : Reps K H O ds xs) (hv : Rep K H O d v) : Reps K H O (ds.set i d) (xs.set i v) := by
  have l1 := h.len
  refine Reps.of (by simp [l1]) fun j d' v' e1 e2 => ?_
  by_cases hj : i = j
  · subst hj
    have hlt : i < ds.length := by
      have := (List.getElem?_eq_some_iff.mp e1).1
      simpa using this
    rw [List.getElem?_set_self hlt] at e1
    rw [List.getElem?_set_self (by omega)] at e2
    cases e1; cases e2; exact hv
  · rw [List.getElem?_set_ne hj] at e1 e2
    obtain ⟨u, q, r⟩ := h.get e1
    rw [e2] at q; cases q; exact r

/-- what is laid out of O stays; O's are lists -/
def Kep (O : AP) (H H' : Hp) : Prop := ∀ b o, H b = some o → ¬ O b → H' b = some o
def OL (O : AP) (H : Hp) : Prop := ∀ a, O a → ∃ xs, H a = some (.lst xs)
mutual
theorem Rep.keep (k : Kep O H H') (ol : OL O H) (s : ∀ a, O' a → O a) : ∀ {d : D} {v : V}, Rep K H O d v → Rep K H' O' d v
  | .non, v, h => by rw [Rep] at h ⊢; exact h
  | .bl b, v, h => by rw [Rep] at h ⊢; exact h
  | .int b, v, h => by rw [Rep] at h ⊢; exact h
  | .str b, v, h => by rw [Rep] at h ⊢; exact h
  | .op b, v, h => by rw [Rep] at h ⊢; exact h
  | .lst ds, v, h => by
    rw [Rep] at h ⊢
    obtain ⟨a, xs, e, ha, no, r⟩ := h
    exact ⟨a, xs, e, k a _ ha no, fun z => no (s a z), Reps.keep k ol s r⟩
  | .frl ds, v, h => by
    rw [Rep] at h ⊢
    obtain ⟨a, xs, e, ha, r⟩ := h
    refine ⟨a, xs, e, ha.to fun o ho => k a _ ho fun z => ?_, Reps.keep k ol s r⟩
    obtain ⟨ys, q⟩ := ol a z
    rw [ho] at q; cases q
  | .dct ks ds, v, h => by
    rw [Rep] at h ⊢
    obtain ⟨a, kvs, e, ha, ne, hk, r⟩ := h
    refine ⟨a, kvs, e, k a _ ha fun z => ?_, ne, hk, Reps.keep k ol s r⟩
    obtain ⟨ys, q⟩ := ol a z
    rw [ha] at q; cases q
  | .tup ds, v, h => by
    rw [Rep] at h ⊢
    obtain ⟨a, xs, e, ha, r⟩ := h
    refine ⟨a, xs, e, ?_, Reps.keep k ol s r⟩
    rcases ha with (q | ⟨o, q⟩) | q
    · refine .inl (.inl (k a _ q fun z => ?_))
      obtain ⟨ys, q'⟩ := ol a z
      rw [q] at q'; cases q'
    · refine .inl (.inr ⟨o, k a _ q fun z => ?_⟩)
      obtain ⟨ys, q'⟩ := ol a z
      rw [q] at q'; cases q'
    · exact .inr q
theorem Reps.keep (k : Kep O H H') (ol : OL O H) (s : ∀ a, O' a → O a) : ∀ {ds : List D} {vs : List V}, Reps K H O ds vs → Reps K H' O' ds vs
  | [], vs, h => by rw [Reps] at h ⊢; exact h
  | d :: ds, vs, h => by
    rw [Reps] at h ⊢
    obtain ⟨v, r, e, h1, h2⟩ := h
    exact ⟨v, r, e, Rep.keep k ol s h1, Reps.keep k ol s h2⟩
end
mutual
/-- an address that holds no list there may be added -/
theorem Rep.more {p : Addr} (hp : ∀ xs, H p ≠ some (.lst xs)) : ∀ {d : D} {v : V}, Rep K H O d v → Rep K H (fun a => a = p ∨ O a) d v
  | .non, v, h => by rw [Rep] at h ⊢; exact h
  | .bl b, v, h => by rw [Rep] at h ⊢; exact h
  | .int b, v, h => by rw [Rep] at h ⊢; exact h
  | .str b, v, h => by rw [Rep] at h ⊢; exact h
  | .op b, v, h => by rw [Rep] at h ⊢; exact h
  | .lst ds, v, h => by
    rw [Rep] at h ⊢
    obtain ⟨a, xs, e, ha, no, r⟩ := h
    refine ⟨a, xs, e, ha, fun z => ?_, Reps.more hp r⟩
    rcases z with z | z
    · subst z; exact hp _ ha
    · exact no z
  | .frl ds, v, h => by
    rw [Rep] at h ⊢
    obtain ⟨a, xs, e, ha, r⟩ := h
    exact ⟨a, xs, e, ha, Reps.more hp r⟩
  | .dct ks ds, v, h => by
    rw [Rep] at h ⊢
    obtain ⟨a, kvs, e, ha, ne, hk, r⟩ := h
    exact ⟨a, kvs, e, ha, ne, hk, Reps.more hp r⟩
  | .tup ds, v, h => by
    rw [Rep] at h ⊢
    obtain ⟨a, xs, e, ha, r⟩ := h
    exact ⟨a, xs, e, ha, Reps.more hp r⟩
theorem Reps.more {p : Addr} (hp : ∀ xs, H p ≠ some (.lst xs)) : ∀ {ds : List D} {vs : List V}, Reps K H O ds vs → Reps K H (fun a => a = p ∨ O a) ds vs
  | [], vs, h => by rw [Reps] at h ⊢; exact h
  | d :: ds, vs, h => by
    rw [Reps] at h ⊢
    obtain ⟨v, r, e, h1, h2⟩ := h
    exact ⟨v, r, e, Rep.more hp h1, Reps.more hp h2⟩
end
theorem Kep.refl : Kep O H H := fun _ _ h _ => h
mutual
theorem Rep.less (s : ∀ a, O' a → O a) : ∀ {d : D} {v : V}, Rep K H O d v → Rep K H O' d v
  | .non, v, h => by rw [Rep] at h ⊢; exact h
  | .bl b, v, h => by rw [Rep] at h ⊢; exact h
  | .int b, v, h => by rw [Rep] at h ⊢; exact h
  | .str b, v, h => by rw [Rep] at h ⊢; exact h
  | .op b, v, h => by rw [Rep] at h ⊢; exact h
  | .lst ds, v, h => by
    rw [Rep] at h ⊢
    obtain ⟨a, xs, e, ha, no, r⟩ := h
    exact ⟨a, xs, e, ha, fun z => no (s a z), Reps.less s r⟩
  | .frl ds, v, h => by
    rw [Rep] at h ⊢
    obtain ⟨a, xs, e, ha, r⟩ := h
    exact ⟨a, xs, e, ha, Reps.less s r⟩
  | .dct ks ds, v, h => by
    rw [Rep] at h ⊢
    obtain ⟨a, kvs, e, ha, ne, hk, r⟩ := h
    exact ⟨a, kvs, e, ha, ne, hk, Reps.less s r⟩
  | .tup ds, v, h => by
    rw [Rep] at h ⊢
    obtain ⟨a, xs, e, ha, r⟩ := h
    exact ⟨a, xs, e, ha, Reps.less s r⟩
theorem Reps.less (s : ∀ a, O' a → O a) : ∀ {ds : List D} {vs : List V}, Reps K H O ds vs → Reps K H O' ds vs
  | [], vs, h => by rw [Reps] at h ⊢; exact h
  | d :: ds, vs, h => by
    rw [Reps] at h ⊢
    obtain ⟨v, r, e, h1, h2⟩ := h
    exact ⟨v, r, e, Rep.less s h1, Reps.less s h2⟩
end
end

/-! ### slots -/
inductive Sl where
  | un | val (d : D) | own (ds : List D) | bor (ds : List D)
abbrev Ev := List Sl
def Sl.isOwn : Sl → Bool
  | .own _ => true
  | .bor _ => true
  | _ => false
/-- a def's frame: the heap at its entry, the addresses it was lent (at most one), those to be kept out of trees -/
structure Fc where
  K : PySem.W.Frag
  H0 : Hp
  B : Option Addr
  S : AP
  /-- values that are held beside the slots -/
  G : List (D × V)
def SlR (C : Fc) (O : AP) (H : Hp) : Sl → Option (Option V) → Prop
  | .un, _ => True
  | .val d, x => ∃ v, x = some (some v) ∧ Rep C.K H O d v
  | .own ds, x => ∃ a xs, x = some (some (.ref a)) ∧ H a = some (.lst xs) ∧ Reps C.K H O ds xs ∧ O a ∧ C.H0 a = none
  | .bor ds, x => ∃ a xs, x = some (some (.ref a)) ∧ H a = some (.lst xs) ∧ Reps C.K H O ds xs ∧ O a ∧ C.B = some a
/-- the address is a slot's own -/
def OwnA (σ : L2.St) (ρ : Ev) (a : Addr) : Prop := ∃ (i : Nat) (s : Sl), ρ[i]? = some s ∧ s.isOwn = true ∧ σ[i]? = some (some (.ref a))
structure FR (C : Fc) (O : AP) (σ : L2.St) (ρ : Ev) (H : Hp) : Prop where
  len : ρ.length = σ.length
  keep : ∀ b o, C.H0 b = some o → C.B ≠ some b → H b = some o
  mu : OL O H
  sub : ∀ a, C.S a → O a
  sdom : ∀ a, C.S a → ∃ xs, C.H0 a = some (.lst xs)
  bs : ∀ a, C.B = some a → C.S a
  slot : ∀ (i : Nat) (s : Sl), ρ[i]? = some s → SlR C O H s σ[i]?
  inj : ∀ (i j : Nat) (si sj : Sl) (a : Addr), ρ[i]? = some si → si.isOwn = true → ρ[j]? = some sj → sj.isOwn = true → σ[i]? = some (some (.ref a)) → σ[j]? = some (some (.ref a)) → i = j
  held : ∀ p, p ∈ C.G → Rep C.K H O p.1 p.2
/-- what an expression may do -/
structure Fw (O : AP) (σ : L2.St) (ρ : Ev) (H : Hp) (O' : AP) (ρ' : Ev) (H' : Hp) : Prop where
  kp : ∀ b o, H b = some o → ¬ OwnA σ ρ b → H' b = some o
  own : ∀ b, OwnA σ ρ' b → OwnA σ ρ b
  sub : ∀ a, O' a → O a
  stay : ∀ a, O a → O' a ∨ OwnA σ ρ a
section
variable {C : Fc} {O O' O2 : AP} {σ : L2.St} {ρ ρ' ρ2 : Ev} {H H' H2 : Hp}
theorem Fw.refl : Fw O σ ρ H O ρ H := ⟨fun _ _ h _ => h, fun _ h => h, fun _ h => h, fun _ h => .inl h⟩
theorem Fw.trans (a : Fw O σ ρ H O' ρ' H') (b : Fw O' σ ρ' H' O2 ρ2 H2) : Fw O σ ρ H O2 ρ2 H2 :=
  ⟨fun c o h n => b.kp c o (a.kp c o h n) fun z => n (a.own c z), fun c h => a.own c (b.own c h), fun c h => a.sub c (b.sub c h), fun c h => by
    rcases a.stay c h with z | z
    · rcases b.stay c z with y | y
      · exact .inl y
      · exact .inr (a.own c y)
    · exact .inr z⟩
theorem FR.ownO (F : FR C O σ ρ H) {a : Addr} (h : OwnA σ ρ a) : O a := by
  obtain ⟨i, s, e, p, q⟩ := h
  have z := F.slot i s e
  cases s with
  | un => cases p
  | val d => cases p
  | own ds =>
    obtain ⟨b, xs, e1, _, _, o, _⟩ := z
    rw [q] at e1; cases e1; exact o
  | bor ds =>
    obtain ⟨b, xs, e1, _, _, o, _⟩ := z
    rw [q] at e1; cases e1; exact o
theorem Fw.kep (a : Fw O σ ρ H O' ρ' H') (F : FR C O σ ρ H) : Kep O H H' := fun b o h n => a.kp b o h fun z => n (F.ownO z)
theorem Fw.rep (a : Fw O σ ρ H O' ρ' H') (F : FR C O σ ρ H) {d : D} {v : V} (r : Rep C.K H O d v) : Rep C.K H' O' d v := r.keep (a.kep F) F.mu a.sub
theorem Fw.reps (a : Fw O σ ρ H O' ρ' H') (F : FR C O σ ρ H) {d : List D} {v : List V} (r : Reps C.K H O d v) : Reps C.K H' O' d v := r.keep (a.kep F) F.mu a.sub
/-- a new object -/
theorem FR.laid {p : Addr} {o : HO} (F : FR C O σ ρ H) (hp : H p = none) : FR C O σ ρ (upd H p o) := by
  have kp : Kep O H (upd H p o) := fun b u e _ => by rw [upd_ne (ne_of_none e hp)]; exact e
  refine ⟨F.len, fun b u e n => ?_, fun a h => ?_, F.sub, F.sdom, F.bs, fun i s e => ?_, F.inj, fun p h => (F.held p h).keep kp F.mu fun _ h => h⟩
  · have q := F.keep b u e n
    rw [upd_ne (ne_of_none q hp)]; exact q
  · obtain ⟨xs, q⟩ := F.mu a h
    exact ⟨xs, by rw [upd_ne (ne_of_none q hp)]; exact q⟩
  · have z := F.slot i s e
    cases s with
    | un => trivial
    | val d => obtain ⟨v, e1, r⟩ := z; exact ⟨v, e1, r.keep kp F.mu fun _ h => h⟩
    | own ds =>
      obtain ⟨a, xs, e1, e2, r, oa, h0⟩ := z
      exact ⟨a, xs, e1, by rw [upd_ne (ne_of_none e2 hp)]; exact e2, r.keep kp F.mu fun _ h => h, oa, h0⟩
    | bor ds =>
      obtain ⟨a, xs, e1, e2, r, oa, h0⟩ := z
      exact ⟨a, xs, e1, by rw [upd_ne (ne_of_none e2 hp)]; exact e2, r.keep kp F.mu fun _ h => h, oa, h0⟩
theorem Fw.laid {p : Addr} {o : HO} (hp : H p = none) : Fw O σ ρ H O ρ (upd H p o) :=
  ⟨fun b u e _ => by rw [upd_ne (ne_of_none e hp)]; exact e, fun _ h => h, fun _ h => h, fun _ h => .inl h⟩
theorem FR.h0 {p : Addr} (F : FR C O σ ρ H) (hp : H p = none) : C.H0 p = none := by
  cases q : C.H0 p with
  | none => rfl
  | some o =>
    by_cases hb : C.B = some p
    · have z := F.sub p (F.bs p hb)
      obtain ⟨xs, e⟩ := F.mu p z
      rw [hp] at e; cases e
    · have := F.keep p o q hb
      rw [hp] at this; cases this
theorem FR.congr (F : FR C O σ ρ H) (h : ∀ a, O a ↔ O' a) : FR C O' σ ρ H := by
  have e : O = O' := funext fun a => propext (h a)
  exact e ▸ F
mutual
theorem Rep.fresh {K : PySem.W.Frag} {N : AP} (k : ∀ b o, H b = some o → H' b = some o) (hp : ∀ p, N p → H p = none) : ∀ {d : D} {v : V}, Rep K H O d v → Rep K H' (fun a => N a ∨ O a) d v
  | .non, v, h => by rw [Rep] at h ⊢; exact h
  | .bl b, v, h => by rw [Rep] at h ⊢; exact h
  | .int b, v, h => by rw [Rep] at h ⊢; exact h
  | .str b, v, h => by rw [Rep] at h ⊢; exact h
  | .op b, v, h => by rw [Rep] at h ⊢; exact h
  | .lst ds, v, h => by
    rw [Rep] at h ⊢
    obtain ⟨a, xs, e, ha, no, r⟩ := h
    exact ⟨a, xs, e, k _ _ ha, fun z => z.elim (fun z => by rw [hp a z] at ha; cases ha) no, Reps.fresh k hp r⟩
  | .frl ds, v, h => by
    rw [Rep] at h ⊢
    obtain ⟨a, xs, e, ha, r⟩ := h
    exact ⟨a, xs, e, ha.to fun o ho => k _ _ ho, Reps.fresh k hp r⟩
  | .dct ks ds, v, h => by
    rw [Rep] at h ⊢
    obtain ⟨a, kvs, e, ha, ne, hk, r⟩ := h
    exact ⟨a, kvs, e, k _ _ ha, ne, hk, Reps.fresh k hp r⟩
  | .tup ds, v, h => by
    rw [Rep] at h ⊢
    obtain ⟨a, xs, e, ha, r⟩ := h
    refine ⟨a, xs, e, ?_, Reps.fresh k hp r⟩
    rcases ha with (q | ⟨o', q⟩) | q
    · exact .inl (.inl (k _ _ q))
    · exact .inl (.inr ⟨o', k _ _ q⟩)
    · exact .inr q
theorem Reps.fresh {K : PySem.W.Frag} {N : AP} (k : ∀ b o, H b = some o → H' b = some o) (hp : ∀ p, N p → H p = none) : ∀ {ds : List D} {vs : List V}, Reps K H O ds vs → Reps K H' (fun a => N a ∨ O a) ds vs
  | [], vs, h => by rw [Reps] at h ⊢; exact h
  | d :: ds, vs, h => by
    rw [Reps] at h ⊢
    obtain ⟨v, r, e, h1, h2⟩ := h
    exact ⟨v, r, e, Rep.fresh k hp h1, Reps.fresh k hp h2⟩
end
/-- all that was tracked is kept; new lists are kept out of all trees -/
theorem FR.grow {N : AP} (F : FR C O σ ρ H) (k : ∀ b o, H b = some o → H' b = some o) (hp : ∀ p, N p → H p = none) (hq : ∀ p, N p → ∃ xs, H' p = some (.lst xs)) : FR C (fun a => N a ∨ O a) σ ρ H' := by
  refine ⟨F.len, fun b o e n => k _ _ (F.keep b o e n), fun a h => ?_, fun a h => .inr (F.sub a h), F.sdom, F.bs, fun i s e => ?_, F.inj, fun p h => (F.held p h).fresh k hp⟩
  · rcases h with h | h
    · exact hq a h
    · obtain ⟨xs, e⟩ := F.mu a h
      exact ⟨xs, k _ _ e⟩
  · have z := F.slot i s e
    cases s with
    | un => trivial
    | val d => obtain ⟨v, e1, r⟩ := z; exact ⟨v, e1, r.fresh k hp⟩
    | own ds =>
      obtain ⟨a, ys, e1, e2, r, oa, h0⟩ := z
      exact ⟨a, ys, e1, k _ _ e2, r.fresh k hp, .inr oa, h0⟩
    | bor ds =>
      obtain ⟨a, ys, e1, e2, r, oa, h0⟩ := z
      exact ⟨a, ys, e1, k _ _ e2, r.fresh k hp, .inr oa, h0⟩
theorem FR.kept (F : FR C O σ ρ H) (k : ∀ b o, H b = some o → H' b = some o) : FR C O σ ρ H' :=
  (F.grow (N := fun _ => False) k (fun _ h => h.elim) (fun _ h => h.elim)).congr fun a => ⟨fun h => h.elim False.elim id, .inr⟩
theorem updK {p : Addr} {o : HO} (hp : H p = none) : ∀ b u, H b = some u → upd H p o b = some u := fun b u e => by rw [upd_ne (ne_of_none e hp)]; exact e
/-- a new list kept out of all trees -/
theorem FR.more {p : Addr} {xs : List V} (F : FR C O σ ρ H) (hp : H p = none) : FR C (fun a => a = p ∨ O a) σ ρ (upd H p (.lst xs)) :=
  F.grow (N := fun a => a = p) (updK hp) (fun q h => by rw [h]; exact hp) fun q h => ⟨xs, by rw [h]; exact upd_same⟩
/-- fewer addresses are kept out (none of those that the frame needs) -/
theorem FR.less (F : FR C O σ ρ H) (s : ∀ a, O' a → O a) (k : ∀ a, O a → O' a ∨ (¬ C.S a ∧ ¬ OwnA σ ρ a)) : FR C O' σ ρ H := by
  have ow : ∀ a, OwnA σ ρ a → O' a := fun a h => (k a (F.ownO h)).elim id fun z => absurd h z.2
  refine ⟨F.len, F.keep, fun a h => F.mu a (s a h), fun a h => (k a (F.sub a h)).elim id fun z => absurd h z.1, F.sdom, F.bs, fun i sl e => ?_, F.inj, fun p h => (F.held p h).less s⟩
  have z := F.slot i sl e
  cases sl with
  | un => trivial
  | val d => obtain ⟨v, e1, r⟩ := z; exact ⟨v, e1, r.less s⟩
  | own ds =>
    obtain ⟨a, ys, e1, e2, r, oa, h0⟩ := z
    exact ⟨a, ys, e1, e2, r.less s, ow a ⟨i, _, e, rfl, e1⟩, h0⟩
  | bor ds =>
    obtain ⟨a, ys, e1, e2, r, oa, h0⟩ := z
    exact ⟨a, ys, e1, e2, r.less s, ow a ⟨i, _, e, rfl, e1⟩, h0⟩
/-- what is held beside the slots may be forgotten, or more be held -/
theorem FR.hold {G : List (D × V)} (F : FR C O σ ρ H) (h : ∀ p, p ∈ G → Rep C.K H O p.1 p.2) : FR { C with G := G } O σ ρ H :=
  ⟨F.len, F.keep, F.mu, F.sub, F.sdom, F.bs, F.slot, F.inj, h⟩
/-- a slot that holds a value is stored -/
theorem FR.setv {i : Nat} {d : D} {v : V} (F : FR C O σ ρ H) (r : Rep C.K H O d v) : FR C O (σ.set i (some v)) (ρ.set i (.val d)) H := by
  refine ⟨by simpa using F.len, F.keep, F.mu, F.sub, F.sdom, F.bs, fun j s e => ?_, fun j l sj sl a ej oj el ol qj ql => ?_, F.held⟩
  · by_cases hj : i = j
    · subst hj
      have hi : i < ρ.length := by
        have := (List.getElem?_eq_some_iff.mp e).1
        simpa using this
      rw [List.getElem?_set_self hi] at e
      cases e
      exact ⟨v, by rw [List.getElem?_set_self (by rw [← F.len]; exact hi)], r⟩
    · rw [List.getElem?_set_ne hj] at e
      rw [List.getElem?_set_ne hj]
      exact F.slot j s e
  · have hj : i ≠ j := by
      rintro rfl
      have hi : i < ρ.length := by
        have := (List.getElem?_eq_some_iff.mp ej).1
        simpa using this
      rw [List.getElem?_set_self hi] at ej
      cases ej; cases oj
    have hl : i ≠ l := by
      rintro rfl
      have hi : i < ρ.length := by
        have := (List.getElem?_eq_some_iff.mp el).1
        simpa using this
      rw [List.getElem?_set_self hi] at el
      cases el; cases ol
    rw [List.getElem?_set_ne hj] at ej qj
    rw [List.getElem?_set_ne hl] at el ql
    exact F.inj j l sj sl a ej oj el ol qj ql
/-- a slot is forgotten -/
theorem FR.setun {i : Nat} {x : Option V} (F : FR C O σ ρ H) : FR C O (σ.set i x) (ρ.set i .un) H := by
  refine ⟨by simpa using F.len, F.keep, F.mu, F.sub, F.sdom, F.bs, fun j s e => ?_, fun j l sj sl a ej oj el ol qj ql => ?_, F.held⟩
  · by_cases hj : i = j
    · subst hj
      have hi : i < ρ.length := by
        have := (List.getElem?_eq_some_iff.mp e).1
        simpa using this
      rw [List.getElem?_set_self hi] at e
      cases e
      trivial
    · rw [List.getElem?_set_ne hj] at e
      rw [List.getElem?_set_ne hj]
      exact F.slot j s e
  · have hj : i ≠ j := by
      rintro rfl
      have hi : i < ρ.length := by
        have := (List.getElem?_eq_some_iff.mp ej).1
        simpa using this
      rw [List.getElem?_set_self hi] at ej
      cases ej; cases oj
    have hl : i ≠ l := by
      rintro rfl
      have hi : i < ρ.length := by
        have := (List.getElem?_eq_some_iff.mp el).1
        simpa using this
      rw [List.getElem?_set_self hi] at el
      cases el; cases ol
    rw [List.getElem?_set_ne hj] at ej qj
    rw [List.getElem?_set_ne hl] at el ql
    exact F.inj j l sj sl a ej oj el ol qj ql
/-- a new list that this slot alone owns: it was kept out of all trees, and no slot's own -/
theorem FR.setown {i : Nat} {p : Addr} {ds : List D} {xs : List V} (F : FR C O σ ρ H) (hp : H p = some (.lst xs)) (r : Reps C.K H O ds xs) (o : O p) (h0 : C.H0 p = none) (no : ¬ OwnA σ ρ p) :
    FR C O (σ.set i (some (.ref p))) (ρ.set i (.own ds)) H := by
  refine ⟨by simpa using F.len, F.keep, F.mu, F.sub, F.sdom, F.bs, fun j s e => ?_, fun j l sj sl a ej oj el ol qj ql => ?_, F.held⟩
  · by_cases hj : i = j
    · subst hj
      have hi : i < ρ.length := by
        have := (List.getElem?_eq_some_iff.mp e).1
        simpa using this
      rw [List.getElem?_set_self hi] at e
      cases e
      exact ⟨p, xs, by rw [List.getElem?_set_self (by rw [← F.len]; exact hi)], hp, r, o, h0⟩
    · rw [List.getElem?_set_ne hj] at e
      rw [List.getElem?_set_ne hj]
      exact F.slot j s e
  · by_cases hj : i = j
    · by_cases hl : i = l
      · exact hj.symm.trans hl
      · subst hj
        have hi : i < σ.length := by
          have := (List.getElem?_eq_some_iff.mp qj).1
          simpa using this
        rw [List.getElem?_set_self hi] at qj
        cases qj
        rw [List.getElem?_set_ne hl] at el ql
        exact absurd ⟨l, sl, el, ol, ql⟩ no
    · by_cases hl : i = l
      · subst hl
        have hi : i < σ.length := by
          have := (List.getElem?_eq_some_iff.mp ql).1
          simpa using this
        rw [List.getElem?_set_self hi] at ql
        cases ql
        rw [List.getElem?_set_ne hj] at ej qj
        exact absurd ⟨j, sj, ej, oj, qj⟩ no
      · rw [List.getElem?_set_ne hj] at ej qj
        rw [List.getElem?_set_ne hl] at el ql
        exact F.inj j l sj sl a ej oj el ol qj ql
/-- an own list is changed (own or lent) -/
def Sl.put : Sl → List D → Sl
  | .own _, ds => .own ds
  | .bor _, ds => .bor ds
  | s, _ => s
theorem FR.write {i : Nat} {s : Sl} {p : Addr} {ds : List D} {xs : List V} (F : FR C O σ ρ H) (e : ρ[i]? = some s) (ow : s.isOwn = true) (q : σ[i]? = some (some (.ref p))) (r : Reps C.K (upd H p (.lst xs)) O ds xs) :
    FR C O σ (ρ.set i (s.put ds)) (upd H p (.lst xs)) := by
  have hi : i < ρ.length := (List.getElem?_eq_some_iff.mp e).1
  have op : O p := F.ownO ⟨i, s, e, ow, q⟩
  have kp : Kep O H (upd H p (.lst xs)) := fun b u h n => by rw [upd_ne (fun z : b = p => n (by rw [z]; exact op))]; exact h
  have z0 := F.slot i s e
  have hps : C.H0 p = none ∨ C.B = some p := by
    cases s with
    | un => cases ow
    | val d => cases ow
    | own ds => obtain ⟨a, zs, e1, _, _, _, h0⟩ := z0; rw [q] at e1; cases e1; exact .inl h0
    | bor ds => obtain ⟨a, zs, e1, _, _, _, h0⟩ := z0; rw [q] at e1; cases e1; exact .inr h0
  refine ⟨by simpa using F.len, fun b u h n => ?_, fun a h => ?_, F.sub, F.sdom, F.bs, fun j t et => ?_, fun j l sj sl a ej oj el ol qj ql => ?_, fun g h => (F.held g h).keep kp F.mu fun _ h => h⟩
  · have : b ≠ p := by
      rintro rfl
      rcases hps with z | z
      · rw [h] at z; cases z
      · exact n z
    rw [upd_ne this]
    exact F.keep b u h n
  · by_cases ha : a = p
    · subst ha; exact ⟨xs, upd_same⟩
    · rw [upd_ne ha]; exact F.mu a h
  · by_cases hj : i = j
    · subst hj
      rw [List.getElem?_set_self hi] at et
      cases et
      cases s with
      | un => cases ow
      | val d => cases ow
      | own _ =>
        obtain ⟨a, zs, e1, _, _, oa, h0⟩ := z0; rw [q] at e1; cases e1
        exact ⟨p, xs, q, upd_same, r, oa, h0⟩
      | bor _ =>
        obtain ⟨a, zs, e1, _, _, oa, h0⟩ := z0; rw [q] at e1; cases e1
        exact ⟨p, xs, q, upd_same, r, oa, h0⟩
    · rw [List.getElem?_set_ne hj] at et
      have z := F.slot j t et
      cases t with
      | un => trivial
      | val d => obtain ⟨v, e1, r⟩ := z; exact ⟨v, e1, r.keep kp F.mu fun _ h => h⟩
      | own es =>
        obtain ⟨a, zs, e1, e2, r, oa, h0⟩ := z
        have : a ≠ p := fun h => hj (F.inj i j s _ p e ow et rfl q (h ▸ e1))
        exact ⟨a, zs, e1, by rw [upd_ne this]; exact e2, r.keep kp F.mu fun _ h => h, oa, h0⟩
      | bor es =>
        obtain ⟨a, zs, e1, e2, r, oa, h0⟩ := z
        have : a ≠ p := fun h => hj (F.inj i j s _ p e ow et rfl q (h ▸ e1))
        exact ⟨a, zs, e1, by rw [upd_ne this]; exact e2, r.keep kp F.mu fun _ h => h, oa, h0⟩
  · have own' : ∀ (m : Nat) (sm : Sl), (ρ.set i (s.put ds))[m]? = some sm → sm.isOwn = true → ∃ tm, ρ[m]? = some tm ∧ tm.isOwn = true := fun m sm em om => by
      by_cases hm : i = m
      · subst hm; exact ⟨s, e, ow⟩
      · rw [List.getElem?_set_ne hm] at em; exact ⟨sm, em, om⟩
    obtain ⟨tj, a1, a2⟩ := own' j sj ej oj
    obtain ⟨tl, b1, b2⟩ := own' l sl el ol
    exact F.inj j l tj tl a a1 a2 b1 b2 qj ql
theorem Fw.write {i : Nat} {s : Sl} {p : Addr} {ds : List D} {u : HO} (e : ρ[i]? = some s) (ow : s.isOwn = true) (q : σ[i]? = some (some (.ref p))) : Fw O σ ρ H O (ρ.set i (s.put ds)) (upd H p u) := by
  refine ⟨fun b o h n => ?_, fun b h => ?_, fun _ h => h, fun _ h => .inl h⟩
  · rw [upd_ne (fun z : b = p => n (by rw [z]; exact ⟨i, s, e, ow, q⟩))]; exact h
  · obtain ⟨j, t, a1, a2, a3⟩ := h
    by_cases hj : i = j
    · subst hj; exact ⟨i, s, e, ow, a3⟩
    · rw [List.getElem?_set_ne hj] at a1; exact ⟨j, t, a1, a2, a3⟩
/-- a slot's own list becomes a value like others -/
theorem FR.freeze {i : Nat} {p : Addr} {ds : List D} (F : FR C O σ ρ H) (e : ρ[i]? = some (.own ds)) (q : σ[i]? = some (some (.ref p))) :
    FR C (fun a => O a ∧ a ≠ p) σ (ρ.set i (.val (.lst ds))) H ∧ Fw O σ ρ H (fun a => O a ∧ a ≠ p) (ρ.set i (.val (.lst ds))) H := by
  have hi : i < ρ.length := (List.getElem?_eq_some_iff.mp e).1
  obtain ⟨a, xs, e1, e2, r, oa, h0⟩ := F.slot i _ e
  rw [q] at e1; cases e1
  have ls : ∀ a, (O a ∧ a ≠ p) → O a := fun _ h => h.1
  refine ⟨⟨by simpa using F.len, F.keep, fun a h => F.mu a h.1, fun a h => ⟨F.sub a h, ?_⟩, F.sdom, F.bs, fun j t et => ?_, fun j l sj sl a ej oj el ol qj ql => ?_, fun g h => (F.held g h).less ls⟩, ⟨fun b o h _ => h, fun b h => ?_, ls, fun a h => ?_⟩⟩
  · rintro rfl
    obtain ⟨ys, z⟩ := F.sdom a h
    rw [h0] at z; cases z
  · by_cases hj : i = j
    · subst hj
      rw [List.getElem?_set_self hi] at et
      cases et
      refine ⟨.ref p, q, ?_⟩
      rw [Rep]
      exact ⟨p, xs, rfl, e2, fun z => z.2 rfl, r.less ls⟩
    · rw [List.getElem?_set_ne hj] at et
      have z := F.slot j t et
      cases t with
      | un => trivial
      | val d => obtain ⟨v, e1, r⟩ := z; exact ⟨v, e1, r.less ls⟩
      | own es =>
        obtain ⟨a, zs, f1, f2, r, oa', h0'⟩ := z
        have : a ≠ p := fun h => hj (F.inj i j _ _ p e rfl et rfl q (h ▸ f1))
        exact ⟨a, zs, f1, f2, r.less ls, ⟨oa', this⟩, h0'⟩
      | bor es =>
        obtain ⟨a, zs, f1, f2, r, oa', h0'⟩ := z
        have : a ≠ p := fun h => hj (F.inj i j _ _ p e rfl et rfl q (h ▸ f1))
        exact ⟨a, zs, f1, f2, r.less ls, ⟨oa', this⟩, h0'⟩
  · have own' : ∀ (m : Nat) (sm : Sl), (ρ.set i (.val (.lst ds)))[m]? = some sm → sm.isOwn = true → ρ[m]? = some sm := fun m sm em om => by
      by_cases hm : i = m
      · subst hm; rw [List.getElem?_set_self hi] at em; cases em; cases om
      · rw [List.getElem?_set_ne hm] at em; exact em
    exact F.inj j l sj sl a (own' j sj ej oj) oj (own' l sl el ol) ol qj ql
  · obtain ⟨j, t, a1, a2, a3⟩ := h
    by_cases hm : i = j
    · subst hm; rw [List.getElem?_set_self hi] at a1; cases a1; cases a2
    · rw [List.getElem?_set_ne hm] at a1; exact ⟨j, t, a1, a2, a3⟩
  · by_cases ha : a = p
    · subst ha; exact .inr ⟨i, _, e, rfl, q⟩
    · exact .inl ⟨h, ha⟩
end
end Dv

set_option Elab.async false
set_option linter.all false
set_option maxRecDepth 100000
set_option maxHeartbeats 2000000
/-! readings that are functions of the slots: expressions, tests, arguments -/
namespace Dv
open PySem PySem.Spec PyProof.Rows L2

theorem _root_.L2.PE.imp {X : Cx} {e : Expr} {t t' : TE} (h : PE X e t) (i : ∀ σ H Q, t' σ H Q → t σ H Q) : PE X e t' := ⟨fun pins s σ H Q I q => h.run pins s σ H Q I (i σ H Q q)⟩
theorem _root_.L2.PT.imp {X : Cx} {e : Expr} {t t' : TT} (h : PT X e t) (i : ∀ σ H Q, t' σ H Q → t σ H Q) : PT X e t' := ⟨fun pins s σ H Q I q => h.run pins s σ H Q I (i σ H Q q)⟩
theorem _root_.L2.PW.imp {X : Cx} {e : Expr} {t t' : TT} (h : PW X e t) (i : ∀ σ H Q, t' σ H Q → t σ H Q) : PW X e t' := ⟨fun wh pins s σ H Q I q => h.run wh pins s σ H Q I (i σ H Q q)⟩
theorem _root_.L2.PA.imp {X : Cx} {e : List Expr} {t t' : TA} (h : PA X e t) (i : ∀ σ H Q, t' σ H Q → t σ H Q) : PA X e t' := ⟨fun pos pins s σ H Q I q => h.run pos pins s σ H Q I (i σ H Q q)⟩
theorem _root_.L2.PS.imp {X : Cx} {e : Stmt} {t t' : TS} (h : PS X e t) (i : ∀ D σ H, t' D σ H → t D σ H) : PS X e t' := ⟨fun pins s σ H D I q => h.run pins s σ H D I (i D σ H q)⟩
theorem _root_.L2.PSs.imp {X : Cx} {e : List Stmt} {t t' : TS} (h : PSs X e t) (i : ∀ D σ H, t' D σ H → t D σ H) : PSs X e t' := ⟨fun pins s σ H D I q => h.run pins s σ H D I (i D σ H q)⟩
theorem _root_.L2.PI.imp {X : Cx} {tg e : Expr} {t t' : TI} (h : PI X tg e t) (i : ∀ σ H R, t' σ H R → t σ H R) : PI X tg e t' := ⟨fun pins s σ H R I q => h.run pins s σ H R I (i σ H R q)⟩

inductive Opd where
  | d (x : D) | nw (ds : List D) | sl (i : Nat)
abbrev FE := Ev → Option (Opd × Ev)
def OpR (C : Fc) (O : AP) (σ : L2.St) (ρ : Ev) (H : Hp) (v : V) : Opd → Prop
  | .d x => Rep C.K H O x v
  | .nw ds => ∃ a xs, v = .ref a ∧ H a = some (.lst xs) ∧ C.H0 a = none ∧ ¬ O a ∧ FR C (fun b => b = a ∨ O b) σ ρ H ∧ Reps C.K H (fun b => b = a ∨ O b) ds xs
  | .sl i => (∃ s, ρ[i]? = some s ∧ s.isOwn = true) ∧ σ[i]? = some (some v)
/-- .. later -/
def OpW (C : Fc) (O : AP) (σ : L2.St) (H : Hp) (v : V) : Opd → Prop
  | .d x => Rep C.K H O x v
  | .nw ds => Rep C.K H O (.lst ds) v
  | .sl i => σ[i]? = some (some v)
def tF (K : PySem.W.Frag) (f : FE) : TE := fun σ H Q => ∃ C O ρ o ρ', C.K = K ∧ FR C O σ ρ H ∧ f ρ = some (o, ρ') ∧
  ∀ v H' O', FR C O' σ ρ' H' → Fw O σ ρ H O' ρ' H' → OpR C O' σ ρ' H' v o → Q v H'
def slD : Option Sl → Option D
  | some (.own ds) => some (.lst ds)
  | some (.bor ds) => some (.lst ds)
  | some (.val d) => some d
  | _ => none
def der (ρ : Ev) : Opd → Option D
  | .d x => some x
  | .nw ds => some (.lst ds)
  | .sl i => slD ρ[i]?
/-- what may be read as a tree at its top -/
def Vw (K : PySem.W.Frag) (H : Hp) (O : AP) : D → V → Prop
  | .lst ds, v => ∃ a xs, v = .ref a ∧ H a = some (.lst xs) ∧ Reps K H O ds xs
  | d, v => Rep K H O d v
section
variable {C : Fc} {O O' : AP} {σ : L2.St} {ρ ρ' : Ev} {H H' : Hp} {v : V} {o : Opd} {x : D}
theorem Vw.of {K : PySem.W.Frag} (r : Rep K H O x v) : Vw K H O x v := by
  cases x with
  | lst ds => rw [Rep] at r; obtain ⟨a, xs, e, h, _, q⟩ := r; exact ⟨a, xs, e, h, q⟩
  | _ => exact r
theorem OpR.w (h : OpR C O σ ρ H v o) : OpW C O σ H v o := by
  cases o with
  | d x => exact h
  | nw ds =>
    obtain ⟨a, xs, e, h1, h0, no, F, r⟩ := h
    show Rep C.K H O (.lst ds) v
    rw [Rep]
    exact ⟨a, xs, e, h1, no, r.less fun _ h => .inr h⟩
  | sl i => exact h.2
theorem OpW.fw (h : OpW C O σ H v o) (F : FR C O σ ρ H) (w : Fw O σ ρ H O' ρ' H') : OpW C O' σ H' v o := by
  cases o with
  | d x => exact w.rep F h
  | nw ds => exact w.rep F h
  | sl i => exact h
theorem OpW.vw (h : OpW C O σ H v o) (F : FR C O σ ρ H) (e : der ρ o = some x) : Vw C.K H O x v := by
  cases o with
  | d y => cases e; exact Vw.of h
  | nw ds => cases e; exact Vw.of h
  | sl i =>
    have h : σ[i]? = some (some v) := h
    have e : slD ρ[i]? = some x := e
    cases q : ρ[i]? with
    | none => rw [q] at e; cases e
    | some s =>
      rw [q] at e
      cases s with
      | un => cases e
      | own ds =>
        cases e
        obtain ⟨a, xs, e1, e2, r, _⟩ := F.slot i _ q
        rw [h] at e1; cases e1
        exact ⟨a, xs, rfl, e2, r⟩
      | bor ds =>
        cases e
        obtain ⟨a, xs, e1, e2, r, _⟩ := F.slot i _ q
        rw [h] at e1; cases e1
        exact ⟨a, xs, rfl, e2, r⟩
      | val d =>
        cases e
        obtain ⟨u, e1, r⟩ := F.slot i _ q
        rw [h] at e1; cases e1
        exact Vw.of r
def escS (i : Nat) (ρ : Ev) : Option Sl → Option (D × Ev)
  | some (.own ds) => some (.lst ds, ρ.set i (.val (.lst ds)))
  | some (.val d) => some (d, ρ)
  | _ => none
/-- it is told from now on as a value: an own list is given up -/
def esc : Opd → Ev → Option (D × Ev)
  | .d x, ρ => some (x, ρ)
  | .nw ds, ρ => some (.lst ds, ρ)
  | .sl i, ρ => escS i ρ ρ[i]?
theorem esc_ok (h : OpW C O σ H v o) (F : FR C O σ ρ H) (e : esc o ρ = some (x, ρ')) : ∃ O', FR C O' σ ρ' H ∧ Fw O σ ρ H O' ρ' H ∧ Rep C.K H O' x v := by
  cases o with
  | d y => cases e; exact ⟨O, F, .refl, h⟩
  | nw ds => cases e; exact ⟨O, F, .refl, h⟩
  | sl i =>
    have h : σ[i]? = some (some v) := h
    have e : escS i ρ ρ[i]? = some (x, ρ') := e
    cases q : ρ[i]? with
    | none => rw [q] at e; cases e
    | some s =>
      rw [q] at e
      cases s with
      | un => cases e
      | bor ds => cases e
      | own ds =>
        cases e
        obtain ⟨a, xs, e1, e2, r, _⟩ := F.slot i _ q
        rw [h] at e1; cases e1
        obtain ⟨G, w⟩ := F.freeze q h
        refine ⟨_, G, w, ?_⟩
        rw [Rep]
        exact ⟨a, xs, rfl, e2, fun z => z.2 rfl, r.less fun _ h => h.1⟩
      | val d =>
        cases e
        obtain ⟨u, e1, r⟩ := F.slot i _ q
        rw [h] at e1; cases e1
        exact ⟨O, F, .refl, r⟩
theorem OpR.d (r : Rep C.K H O x v) : OpR C O σ ρ H v (.d x) := r
/-- a new list -/
theorem OpR.new {p : Addr} {xs : List V} {ds : List D} (F : FR C O σ ρ H) (hp : H p = none) (r : Reps C.K H O ds xs) : OpR C O σ ρ (upd H p (.lst xs)) (.ref p) (.nw ds) := by
  refine ⟨p, xs, rfl, upd_same, F.h0 hp, fun z => ?_, F.more hp, r.fresh (N := fun a => a = p) (updK hp) fun q h => by rw [h]; exact hp⟩
  obtain ⟨ys, q⟩ := F.mu p z
  rw [hp] at q; cases q
end

/-! ### names, constants -/
def nmS (i : Nat) : Option Sl → Option Opd
  | some (.val d) => some (.d d)
  | some (.own _) => some (.sl i)
  | some (.bor _) => some (.sl i)
  | _ => none
def fName (i : Nat) : FE := fun ρ => (nmS i ρ[i]?).bind fun o => some (o, ρ)
def fC (x : D) : FE := fun ρ => some (.d x, ρ)
section
variable {X : Cx} {e a b : Expr} {fa fb : FE} {pos : Pos} {K : PySem.W.Frag}
theorem tName {i : Nat} {σ : L2.St} {H : Hp} {Q : VK} (h : tF K (fName i) σ H Q) : tVar i σ H Q := by
  obtain ⟨C, O, ρ, o, ρ', ek, F, e, q⟩ := h
  unfold fName at e
  cases h : ρ[i]? with
  | none => rw [h] at e; cases e
  | some s =>
    rw [h] at e
    cases s with
    | un => cases e
    | val d =>
      cases e
      obtain ⟨v, e1, r⟩ := F.slot i _ h
      exact ⟨v, e1, q v H O F .refl r⟩
    | own d =>
      cases e
      obtain ⟨a, xs, e1, _⟩ := F.slot i _ h
      exact ⟨_, e1, q _ H O F .refl ⟨⟨_, h, rfl⟩, e1⟩⟩
    | bor d =>
      cases e
      obtain ⟨a, xs, e1, _⟩ := F.slot i _ h
      exact ⟨_, e1, q _ H O F .refl ⟨⟨_, h, rfl⟩, e1⟩⟩
theorem dv (i : Nat) {x : Str} (hN : X.N[i]? = some x := by rfl) (hv : Vis X.env.scope x := by first | exact Or.inl rfl | exact Or.inr (Or.inl rfl) | exact Or.inr (Or.inr rfl)) (hd : (x == ("__debug__" : Str)) = false := by decide)
    (hcd : (x == ("__classdict__" : Str)) = false := by decide) : PE X (.Name x pos) (tF X.K (fName i)) := (pe_var hN hv hd hcd).imp fun _ _ _ h => tName h
theorem tConst {x : D} {u : V} (r : ∀ H O, Rep K H O x u) {σ : L2.St} {H : Hp} {Q : VK} (h : tF K (fC x) σ H Q) : tC u σ H Q := by
  obtain ⟨C, O, ρ, o, ρ', ek, F, e, q⟩ := h
  cases e
  exact q u H O F .refl (by rw [← ek] at r; exact r H O)
theorem d_int {i : Int} {j : Nat} : PE X (.Constant (.int i) j pos) (tF X.K (fC (.int i))) := pe_int.imp fun _ _ _ h => tConst (fun _ _ => by rw [Rep]) h
theorem d_bl {b : Bool} {j : Nat} : PE X (.Constant (.bool b) j pos) (tF X.K (fC (.bl b))) := pe_bl.imp fun _ _ _ h => tConst (fun _ _ => by rw [Rep]) h
theorem d_non {j : Nat} : PE X (.Constant .none j pos) (tF X.K (fC .non)) := pe_non.imp fun _ _ _ h => tConst (fun _ _ => by rw [Rep]) h
theorem d_str {x : Str} {j : Nat} : PE X (.Constant (.str x) j pos) (tF X.K (fC (.str x))) := pe_str.imp fun _ _ _ h => tConst (fun _ _ => by rw [Rep]) h
/-- a module's name that holds a datum: an int, a text, a written tuple of such -/
structure Glo (K : PySem.W.Frag) (mg : Str → Option Value) (x : Str) (d : D) : Prop where
  ex : ∃ u v, mg x = some u ∧ RelV v u ∧ ∀ H O, Rep K H O d v
theorem d_glob {x : Str} {d : D} (g : Glo X.K X.mg x d) (hg : Gl X x := by rfl) (hd : (x == ("__debug__" : Str)) = false := by decide) : PE X (.Name x pos) (tF X.K (fC d)) := by
  obtain ⟨u, v, hm, r, q⟩ := g.ex
  exact (pe_glob hg hm r hd).imp fun _ _ _ h => tConst q h
/-- a built-in type's name as a value -/
theorem d_ty {x : Str} {n : String} (hm : X.mg x = none) (hv : bootBuiltins x = some (.type n)) (hg : Gl X x := by rfl) (hn : x ≠ "__name__" := by decide) (hd : (x == ("__debug__" : Str)) = false := by decide) :
    PE X (.Name x pos) (tF X.K (fC (.op (.ty n)))) := (pe_bltn (v := .ty n) hg hm hv rfl hn hd).imp fun _ _ _ h => tConst (fun _ _ => by rw [Rep]) h

/-! ### two operands -/
def fBin (g : D → D → Option Opd) (fa fb : FE) : FE := fun ρ => (fa ρ).bind fun p => (fb p.2).bind fun q => (der q.2 p.1).bind fun x => (der q.2 q.1).bind fun y => (g x y).bind fun z => some (z, q.2)
def rD (K : PySem.W.Frag) (g : D → D → Option Opd) : R2 := fun u v H Q => ∃ C O σ ρ x y z, C.K = K ∧ FR C O σ ρ H ∧ Vw K H O x u ∧ Vw K H O y v ∧ g x y = some z ∧
  ∀ w H' O', FR C O' σ ρ H' → Fw O σ ρ H O' ρ H' → OpR C O' σ ρ H' w z → Q w H'
theorem tBin {g : D → D → Option Opd} {σ : L2.St} {H : Hp} {Q : VK} (h : tF K (fBin g fa fb) σ H Q) : tOp (rD K g) (tF K fa) (tF K fb) σ H Q := by
  obtain ⟨C, O, ρ, o, ρ', ek, F, e, q⟩ := h
  unfold fBin at e
  cases ea : fa ρ with
  | none => rw [ea] at e; cases e
  | some p =>
    obtain ⟨o1, ρ1⟩ := p
    rw [ea] at e
    cases eb : fb ρ1 with
    | none => simp [eb] at e
    | some p2 =>
      obtain ⟨o2, ρ2⟩ := p2
      simp only [Option.bind_some, eb] at e
      cases ex : der ρ2 o1 with
      | none => simp [ex] at e
      | some x =>
        simp only [ex, Option.bind_some] at e
        cases ey : der ρ2 o2 with
        | none => simp [ey] at e
        | some y =>
          simp only [ey, Option.bind_some] at e
          cases ez : g x y with
          | none => simp [ez] at e
          | some z =>
            simp only [ez, Option.bind_some] at e
            cases e
            refine ⟨C, O, ρ, o1, ρ1, ek, F, ea, fun u H1 O1 F1 w1 r1 => ?_⟩
            refine ⟨C, O1, ρ1, o2, ρ', ek, F1, eb, fun v H2 O2 F2 w2 r2 => ?_⟩
            refine ⟨C, O2, σ, ρ', x, y, o, ek, F2, ?_, ?_, ez, fun w H3 O3 F3 w3 r3 => q w H3 O3 F3 ((w1.trans w2).trans w3) r3⟩
            · rw [← ek]; exact (r1.w.fw F1 w2).vw F2 ex
            · rw [← ek]; exact r2.w.vw F2 ey
/-- an operator over data -/
abbrev OpD (X : Cx) (f : Value → Value → Sem Value) (g : D → D → Option Opd) : Prop := L2.OpR X f (rD X.K g)
theorem d_op {op : Operator} {g : D → D → Option Opd} (ho : OpD X (binaryOp op) g) (ha : PE X a (tF X.K fa)) (hb : PE X b (tF X.K fb)) : PE X (.BinOp a op b pos) (tF X.K (fBin g fa fb)) :=
  (pe_op ho ha hb).imp fun _ _ _ h => tBin h
theorem d_cmp {op : CmpOp} {g : D → D → Option Opd} (ho : OpD X (compareOp op) g) (ha : PE X a (tF X.K fa)) (hb : PE X b (tF X.K fb)) (hm : behindInMarks op b = false := by first | rfl | exact nomark _) : PE X (.Compare a [op] [b] pos) (tF X.K (fBin g fa fb)) :=
  (pe_cmpR ho ha hb hm).imp fun _ _ _ h => tBin h
def fIx (g : D → D → Option Opd) (fa fb : FE) : FE := fBin g fa fb
theorem d_ix {g : D → D → Option Opd} (ho : IxR X (rD X.K g)) (ha : PE X a (tF X.K fa)) (hb : PE X b (tF X.K fb)) (hs : PlainIx b := by first | exact fun _ _ => rfl | (intro _ _; rfl)) : PE X (.Subscript a b pos) (tF X.K (fBin g fa fb)) :=
  (pe_ix ho ha hb hs).imp fun _ _ _ h => tBin h
end

/-! ### tests -/
abbrev FT := Ev → Option (Bool × Ev)
def tT (K : PySem.W.Frag) (f : FT) : TT := fun σ H Q => ∃ C O ρ b ρ', C.K = K ∧ FR C O σ ρ H ∧ f ρ = some (b, ρ') ∧ ∀ H' O', FR C O' σ ρ' H' → Fw O σ ρ H O' ρ' H' → Q b H'
def asB : Opd × Ev → Option (Bool × Ev)
  | (.d (.bl b), ρ) => some (b, ρ)
  | _ => none
def fTest (f : FE) : FT := fun ρ => (f ρ).bind asB
section
variable {X : Cx} {e a b : Expr} {fa fb f : FE} {ft fu : FT} {pos : Pos} {K : PySem.W.Frag} {σ : L2.St} {H : Hp}
theorem tTst {Q : Bool → Hp → Prop} (h : tT K (fTest f) σ H Q) : tF K f σ H fun x H1 => ∃ c, x = .bl c ∧ Q c H1 := by
  obtain ⟨C, O, ρ, b, ρ', ek, F, e, q⟩ := h
  unfold fTest at e
  cases ea : f ρ with
  | none => rw [ea] at e; cases e
  | some p =>
    rw [ea, Option.bind_some] at e
    unfold asB at e
    split at e
    · rename_i b' ρ2
      cases e
      refine ⟨C, O, ρ, _, _, ek, F, ea, fun v H1 O1 F1 w r => ⟨b, ?_, q H1 O1 F1 w⟩⟩
      have r : Rep C.K H1 O1 (.bl b) v := r
      rw [Rep] at r; exact r
    · cases e
theorem t_val (h : PE X e (tF X.K f)) (he : ∀ whole, isTrue e X.env whole = (do let v ← whole; standAt e.pos; holding [v] (truthy v)) := by intro _; rfl) : PT X e (tT X.K (fTest f)) :=
  (pt_val h he).imp fun _ _ _ h => tTst h
theorem t_cmp {op : CmpOp} {g : D → D → Option Opd} (ho : OpD X (compareOp op) g) (ha : PE X a (tF X.K fa)) (hb : PE X b (tF X.K fb)) (hm : behindInMarks op b = false := by first | rfl | exact nomark _) : PT X (.Compare a [op] [b] pos) (tT X.K (fTest (fBin g fa fb))) :=
  (pt_cmpR ho ha hb hm).imp fun _ _ _ h => by
    obtain ⟨C, O, ρ, o, ρ', ek, F, e, q⟩ := tTst h
    exact tBin ⟨C, O, ρ, o, ρ', ek, F, e, q⟩
def fAnd (ft fu : FT) : FT := fun ρ => (ft ρ).bind fun p => if p.1 then fu p.2 else some (false, p.2)
def fOr (ft fu : FT) : FT := fun ρ => (ft ρ).bind fun p => if p.1 then some (true, p.2) else fu p.2
def fNot (ft : FT) : FT := fun ρ => (ft ρ).bind fun p => some (!p.1, p.2)
theorem tAnd' {Q : Bool → Hp → Prop} (h : tT K (fAnd ft fu) σ H Q) : tAnd (tT K ft) (tT K fu) σ H Q := by
  obtain ⟨C, O, ρ, b, ρ', ek, F, e, q⟩ := h
  unfold fAnd at e
  cases ea : ft ρ with
  | none => rw [ea] at e; cases e
  | some p =>
    obtain ⟨c, ρ1⟩ := p
    rw [ea, Option.bind_some] at e
    refine ⟨C, O, ρ, c, ρ1, ek, F, ea, fun H1 O1 F1 w => ?_⟩
    cases c with
    | true => exact ⟨C, O1, ρ1, b, ρ', ek, F1, e, fun H2 O2 F2 w2 => q H2 O2 F2 (w.trans w2)⟩
    | false => cases e; exact q H1 O1 F1 w
theorem tOr' {Q : Bool → Hp → Prop} (h : tT K (fOr ft fu) σ H Q) : tOr (tT K ft) (tT K fu) σ H Q := by
  obtain ⟨C, O, ρ, b, ρ', ek, F, e, q⟩ := h
  unfold fOr at e
  cases ea : ft ρ with
  | none => rw [ea] at e; cases e
  | some p =>
    obtain ⟨c, ρ1⟩ := p
    rw [ea, Option.bind_some] at e
    refine ⟨C, O, ρ, c, ρ1, ek, F, ea, fun H1 O1 F1 w => ?_⟩
    cases c with
    | false => exact ⟨C, O1, ρ1, b, ρ', ek, F1, e, fun H2 O2 F2 w2 => q H2 O2 F2 (w.trans w2)⟩
    | true => cases e; exact q H1 O1 F1 w
theorem tNot' {Q : Bool → Hp → Prop} (h : tT K (fNot ft) σ H Q) : tNot (tT K ft) σ H Q := by
  obtain ⟨C, O, ρ, b, ρ', ek, F, e, q⟩ := h
  unfold fNot at e
  cases ea : ft ρ with
  | none => rw [ea] at e; cases e
  | some p =>
    obtain ⟨c, ρ1⟩ := p
    rw [ea, Option.bind_some] at e
    cases e
    exact ⟨C, O, ρ, c, ρ1, ek, F, ea, fun H1 O1 F1 w => q H1 O1 F1 w⟩
variable {rest : List Expr}
theorem t_and (ha : PT X a (tT X.K ft)) (hb : PW X (.BoolOp .And (b :: rest) pos) (tT X.K fu)) : PW X (.BoolOp .And (a :: b :: rest) pos) (tT X.K (fAnd ft fu)) := (pw_and ha hb).imp fun _ _ _ h => tAnd' h
theorem t_or (ha : PT X a (tT X.K ft)) (hb : PW X (.BoolOp .Or (b :: rest) pos) (tT X.K fu)) : PW X (.BoolOp .Or (a :: b :: rest) pos) (tT X.K (fOr ft fu)) := (pw_or ha hb).imp fun _ _ _ h => tOr' h
theorem t_not (ha : PT X a (tT X.K ft)) : PT X (.UnaryOp .Not a pos) (tT X.K (fNot ft)) := (pt_not ha).imp fun _ _ _ h => tNot' h
/-- not, and, or as values: bools -/
def fBl (ft : FT) : FE := fun ρ => (ft ρ).bind fun p => some (.d (.bl p.1), p.2)
def fNotV (f : FE) : FE := fBl (fNot (fTest f))
theorem d_not (ha : PE X a (tF X.K f)) : PE X (.UnaryOp .Not a pos) (tF X.K (fNotV f)) := (pe_not ha).imp fun σ H Q h => by
  obtain ⟨C, O, ρ, o, ρ', ek, F, e, q⟩ := h
  have h2 : tT X.K (fNot (fTest f)) σ H fun b H' => Q (.bl b) H' := by
    unfold fNotV fBl at e
    cases ea : fNot (fTest f) ρ with
    | none => rw [ea] at e; cases e
    | some p =>
      rw [ea, Option.bind_some] at e
      cases e
      exact ⟨C, O, ρ, p.1, p.2, ek, F, ea, fun H' O' F' w => q _ H' O' F' w (by show Rep _ _ _ _ _; rw [Rep])⟩
  exact tTst (tNot' h2)
def fAndV (f : FE) (g : FE) : FE := fun ρ => ((f ρ).bind asB).bind fun p => if p.1 then g p.2 else some (.d (.bl false), p.2)
def fOrV (f : FE) (g : FE) : FE := fun ρ => ((f ρ).bind asB).bind fun p => if p.1 then some (.d (.bl true), p.2) else g p.2
theorem d_and (ha : PE X a (tF X.K fa)) (hb : PE X (.BoolOp .And (b :: rest) pos) (tF X.K fb)) : PE X (.BoolOp .And (a :: b :: rest) pos) (tF X.K (fAndV fa fb)) := (pe_and ha hb).imp fun σ H Q h => by
  obtain ⟨C, O, ρ, o, ρ', ek, F, e, q⟩ := h
  unfold fAndV at e
  cases ea : (fa ρ).bind asB with
  | none => rw [ea] at e; cases e
  | some p =>
    obtain ⟨c, ρ1⟩ := p
    rw [ea, Option.bind_some] at e
    refine tTst (f := fa) (Q := fun c H1 => if c = true then tF X.K fb σ H1 Q else Q (.bl false) H1) ⟨C, O, ρ, c, ρ1, ek, F, ea, fun H1 O1 F1 w => ?_⟩
    cases c with
    | true => exact ⟨C, O1, ρ1, o, ρ', ek, F1, e, fun v H2 O2 F2 w2 r => q v H2 O2 F2 (w.trans w2) r⟩
    | false => cases e; exact q _ H1 O1 F1 w (by show Rep _ _ _ _ _; rw [Rep])
theorem d_or (ha : PE X a (tF X.K fa)) (hb : PE X (.BoolOp .Or (b :: rest) pos) (tF X.K fb)) : PE X (.BoolOp .Or (a :: b :: rest) pos) (tF X.K (fOrV fa fb)) := (pe_or ha hb).imp fun σ H Q h => by
  obtain ⟨C, O, ρ, o, ρ', ek, F, e, q⟩ := h
  unfold fOrV at e
  cases ea : (fa ρ).bind asB with
  | none => rw [ea] at e; cases e
  | some p =>
    obtain ⟨c, ρ1⟩ := p
    rw [ea, Option.bind_some] at e
    refine tTst (f := fa) (Q := fun c H1 => if c = true then Q (.bl true) H1 else tF X.K fb σ H1 Q) ⟨C, O, ρ, c, ρ1, ek, F, ea, fun H1 O1 F1 w => ?_⟩
    cases c with
    | false => exact ⟨C, O1, ρ1, o, ρ', ek, F1, e, fun v H2 O2 F2 w2 r => q v H2 O2 F2 (w.trans w2) r⟩
    | true => cases e; exact q _ H1 O1 F1 w (by show Rep _ _ _ _ _; rw [Rep])
/-- a if t else b -/
def fIf (ft : FT) (fa fb : FE) : FE := fun ρ => (ft ρ).bind fun p => if p.1 then fa p.2 else fb p.2
theorem d_if {c : Expr} (hc : PT X c (tT X.K ft)) (ha : PE X a (tF X.K fa)) (hb : PE X b (tF X.K fb)) : PE X (.IfExp c a b pos) (tF X.K (fIf ft fa fb)) := (pe_ifExp hc ha hb).imp fun σ H Q h => by
  obtain ⟨C, O, ρ, o, ρ', ek, F, e, q⟩ := h
  unfold fIf at e
  cases ea : ft ρ with
  | none => rw [ea] at e; cases e
  | some p =>
    obtain ⟨c, ρ1⟩ := p
    rw [ea, Option.bind_some] at e
    refine ⟨C, O, ρ, c, ρ1, ek, F, ea, fun H1 O1 F1 w => ?_⟩
    cases c with
    | true => exact ⟨C, O1, ρ1, o, ρ', ek, F1, e, fun v H2 O2 F2 w2 r => q v H2 O2 F2 (w.trans w2) r⟩
    | false => exact ⟨C, O1, ρ1, o, ρ', ek, F1, e, fun v H2 O2 F2 w2 r => q v H2 O2 F2 (w.trans w2) r⟩
end

/-! ### argument lists -/
abbrev FA := Ev → Option (List Opd × Ev)
inductive OpWs (C : Fc) (O : AP) (σ : L2.St) (H : Hp) : List V → List Opd → Prop
  | nil : OpWs C O σ H [] []
  | cons {v : V} {o : Opd} {vs : List V} {os : List Opd} : OpW C O σ H v o → OpWs C O σ H vs os → OpWs C O σ H (v :: vs) (o :: os)
def tAr (K : PySem.W.Frag) (f : FA) : TA := fun σ H Q => ∃ C O ρ os ρ', C.K = K ∧ FR C O σ ρ H ∧ f ρ = some (os, ρ') ∧ ∀ vs H' O', FR C O' σ ρ' H' → Fw O σ ρ H O' ρ' H' → OpWs C O' σ H' vs os → Q vs H'
def aNil : FA := fun ρ => some ([], ρ)
def aCons (f : FE) (g : FA) : FA := fun ρ => (f ρ).bind fun p => (g p.2).bind fun q => some (p.1 :: q.1, q.2)
section
variable {X : Cx} {e a b : Expr} {es : List Expr} {f : FE} {g : FA} {pos : Pos} {K : PySem.W.Frag} {σ : L2.St} {H : Hp}
theorem a_nil : PA X [] (tAr X.K aNil) := pa_nil.imp fun σ H Q h => by
  obtain ⟨C, O, ρ, o, ρ', ek, F, e, q⟩ := h
  cases e
  exact q [] H O F .refl .nil
theorem OpWs.fw {C : Fc} {O O' : AP} {ρ ρ' : Ev} {H' : Hp} {vs : List V} {os : List Opd} (h : OpWs C O σ H vs os) (F : FR C O σ ρ H) (w : Fw O σ ρ H O' ρ' H') : OpWs C O' σ H' vs os := by
  induction h with
  | nil => exact .nil
  | cons a _ ih => exact .cons (a.fw F w) ih
theorem a_cons (ha : PE X e (tF X.K f)) (hr : PA X es (tAr X.K g)) (hs : starEach (e :: es) X.env = (false, eval e X.env) :: starEach es X.env := by rfl) : PA X (e :: es) (tAr X.K (aCons f g)) := (pa_cons ha hr hs).imp fun σ H Q h => by
  obtain ⟨C, O, ρ, o, ρ', ek, F, e, q⟩ := h
  unfold aCons at e
  cases ea : f ρ with
  | none => rw [ea] at e; cases e
  | some p =>
    obtain ⟨o1, ρ1⟩ := p
    rw [ea, Option.bind_some] at e
    cases eb : g ρ1 with
    | none => simp only [eb] at e; cases e
    | some p2 =>
      obtain ⟨os, ρ2⟩ := p2
      simp only [eb, Option.bind_some] at e
      cases e
      refine ⟨C, O, ρ, o1, ρ1, ek, F, ea, fun v H1 O1 F1 w r => ?_⟩
      exact ⟨C, O1, ρ1, os, ρ', ek, F1, eb, fun vs H2 O2 F2 w2 r2 => q (v :: vs) H2 O2 F2 (w.trans w2) (.cons (r.w.fw F1 w2) r2)⟩
/-! displays -/
def escs : List Opd → Ev → Option (List D × Ev)
  | [], ρ => some ([], ρ)
  | o :: os, ρ => (esc o ρ).bind fun p => (escs os p.2).bind fun q => some (p.1 :: q.1, q.2)
theorem escs_ok {C : Fc} : ∀ {os : List Opd} {vs : List V} {O : AP} {ρ ρ' : Ev} {ds : List D}, OpWs C O σ H vs os → FR C O σ ρ H → escs os ρ = some (ds, ρ') → ∃ O', FR C O' σ ρ' H ∧ Fw O σ ρ H O' ρ' H ∧ Reps C.K H O' ds vs
  | [], vs, O, ρ, ρ', ds, h, F, e => by
    cases h; cases e
    exact ⟨O, F, .refl, .nil⟩
  | o :: os, vs, O, ρ, ρ', ds, h, F, e => by
    cases h with
    | cons h1 h2 =>
      unfold escs at e
      cases ea : esc o ρ with
      | none => rw [ea] at e; cases e
      | some p =>
        obtain ⟨d, ρ1⟩ := p
        rw [ea, Option.bind_some] at e
        cases eb : escs os ρ1 with
        | none => simp only [eb] at e; cases e
        | some q =>
          obtain ⟨ds', ρ2⟩ := q
          simp only [eb, Option.bind_some] at e
          cases e
          obtain ⟨O1, F1, w1, r1⟩ := esc_ok h1 F ea
          obtain ⟨O2, F2, w2, r2⟩ := escs_ok (h2.fw F w1) F1 eb
          exact ⟨O2, F2, w1.trans w2, .cons (w2.rep F1 r1) r2⟩
def fTup (g : FA) : FE := fun ρ => (g ρ).bind fun p => (escs p.1 p.2).bind fun q => if q.1.length ≤ 16777216 then some (.d (.tup q.1), q.2) else none
def fLst (g : FA) : FE := fun ρ => (g ρ).bind fun p => (escs p.1 p.2).bind fun q => if q.1.length ≤ 16777216 then some (.nw q.1, q.2) else none
theorem d_tup {x1 : Nat} (h : PA X es (tAr X.K g)) : PE X (.Tuple es x1 pos) (tF X.K (fTup g)) := (pe_tup h).imp fun σ H Q h => by
  obtain ⟨C, O, ρ, o, ρ', ek, F, e, q⟩ := h
  unfold fTup at e
  cases ea : g ρ with
  | none => rw [ea] at e; cases e
  | some p =>
    obtain ⟨os, ρ1⟩ := p
    rw [ea, Option.bind_some] at e
    cases eb : escs os ρ1 with
    | none => simp only [eb] at e; cases e
    | some q =>
      obtain ⟨ds, ρ2⟩ := q
      simp only [eb, Option.bind_some] at e
      split at e
      · rename_i hl
        cases e
        refine ⟨C, O, ρ, os, ρ1, ek, F, ea, fun vs H1 O1 F1 w r => ?_⟩
        obtain ⟨O2, F2, w2, r2⟩ := escs_ok r F1 eb
        refine ⟨by rw [← r2.len]; rw [sizeLine_eq]; exact hl, fun p hp => q _ _ O2 (F2.laid hp) ((w.trans w2).trans (Fw.laid hp)) ?_⟩
        show Rep C.K _ _ (.tup _) _
        rw [Rep]
        exact ⟨p, vs, rfl, .inl (.inl upd_same), r2.keep (fun b u e _ => updK hp b u e) F2.mu fun _ h => h⟩
      · cases e
theorem d_lst (h : PA X es (tAr X.K g)) : PE X (.List es pos) (tF X.K (fLst g)) := (pe_lst h).imp fun σ H Q h => by
  obtain ⟨C, O, ρ, o, ρ', ek, F, e, q⟩ := h
  unfold fLst at e
  cases ea : g ρ with
  | none => rw [ea] at e; cases e
  | some p =>
    obtain ⟨os, ρ1⟩ := p
    rw [ea, Option.bind_some] at e
    cases eb : escs os ρ1 with
    | none => simp only [eb] at e; cases e
    | some q =>
      obtain ⟨ds, ρ2⟩ := q
      simp only [eb, Option.bind_some] at e
      split at e
      · rename_i hl
        cases e
        refine ⟨C, O, ρ, os, ρ1, ek, F, ea, fun vs H1 O1 F1 w r => ?_⟩
        obtain ⟨O2, F2, w2, r2⟩ := escs_ok r F1 eb
        exact ⟨by rw [← r2.len]; rw [sizeLine_eq]; exact hl, fun p hp => q _ _ O2 (F2.laid hp) ((w.trans w2).trans (Fw.laid hp)) (OpR.new F2 hp r2)⟩
      · cases e
end
end Dv

set_option Elab.async false
set_option linter.all false
set_option maxRecDepth 100000
set_option maxHeartbeats 2000000
/-! operators, built-ins and calls over data -/
namespace Dv
open PySem PySem.Spec PyProof.Rows L2

section
variable {X : Cx} {K : PySem.W.Frag} {H : Hp} {O : AP} {v : V}
theorem rp_int {i : Int} (h : Rep K H O (.int i) v) : v = .int i := by rw [Rep] at h; exact h
theorem rp_str {i : Str} (h : Rep K H O (.str i) v) : v = .str i := by rw [Rep] at h; exact h
theorem rp_bl {i : Bool} (h : Rep K H O (.bl i) v) : v = .bl i := by rw [Rep] at h; exact h
theorem rp_non (h : Rep K H O .non v) : v = .non := by rw [Rep] at h; exact h
theorem rp_op {u : V} (h : Rep K H O (.op u) v) : v = u := by rw [Rep] at h; exact h
theorem rp_tup {ds : List D} (h : Rep K H O (.tup ds) v) : ∃ a xs, v = .ref a ∧ SqT K H a xs ∧ Reps K H O ds xs := by rw [Rep] at h; exact h
theorem rp_frl {ds : List D} (h : Rep K H O (.frl ds) v) : ∃ a xs, v = .ref a ∧ FrL K H a xs ∧ Reps K H O ds xs := by rw [Rep] at h; exact h
theorem vw_int {i : Int} (h : Vw K H O (.int i) v) : v = .int i := rp_int (K := K) (H := H) (O := O) h
theorem vw_str {i : Str} (h : Vw K H O (.str i) v) : v = .str i := rp_str (K := K) (H := H) (O := O) h
theorem vw_bl {i : Bool} (h : Vw K H O (.bl i) v) : v = .bl i := rp_bl (K := K) (H := H) (O := O) h
theorem vw_non (h : Vw K H O .non v) : v = .non := rp_non (K := K) (H := H) (O := O) h
theorem vw_tup {ds : List D} (h : Vw K H O (.tup ds) v) : ∃ a xs, v = .ref a ∧ SqT K H a xs ∧ Reps K H O ds xs := rp_tup (K := K) (H := H) (O := O) h
theorem vw_frl {ds : List D} (h : Vw K H O (.frl ds) v) : ∃ a xs, v = .ref a ∧ FrL K H a xs ∧ Reps K H O ds xs := rp_frl (K := K) (H := H) (O := O) h
theorem mk_int {i : Int} : Rep K H O (.int i) (.int i) := by rw [Rep]
theorem mk_bl {i : Bool} : Rep K H O (.bl i) (.bl i) := by rw [Rep]
theorem mk_str {i : Str} : Rep K H O (.str i) (.str i) := by rw [Rep]
theorem mk_non : Rep K H O .non .non := by rw [Rep]
theorem mk_tup {ds : List D} {a : Addr} {xs : List V} (h : SqT K H a xs) (r : Reps K H O ds xs) : Rep K H O (.tup ds) (.ref a) := by rw [Rep]; exact ⟨a, xs, rfl, h, r⟩
section
variable {C : Fc} {σ : L2.St} {ρ : Ev}
theorem or_int {i : Int} : OpR C O σ ρ H (.int i) (.d (.int i)) := mk_int (K := C.K) (H := H) (O := O)
theorem or_str {i : Str} : OpR C O σ ρ H (.str i) (.d (.str i)) := mk_str (K := C.K) (H := H) (O := O)
theorem or_bl {i : Bool} : OpR C O σ ρ H (.bl i) (.d (.bl i)) := mk_bl (K := C.K) (H := H) (O := O)
theorem or_non : OpR C O σ ρ H .non (.d .non) := mk_non (K := C.K) (H := H) (O := O)
theorem or_tup {ds : List D} {a : Addr} {xs : List V} (h : SqT C.K H a xs) (r : Reps C.K H O ds xs) : OpR C O σ ρ H (.ref a) (.d (.tup ds)) := mk_tup h r
theorem or_d {d : D} {w : V} (h : Rep C.K H O d w) : OpR C O σ ρ H w (.d d) := h
end
/-- the items of a list or a tuple -/
def items : D → Option (List D)
  | .lst ds => some ds
  | .tup ds => some ds
  | .frl ds => some ds
  | _ => none
theorem vw_items {x : D} {ds : List D} (h : Vw K H O x v) (e : items x = some ds) : ∃ a xs, v = .ref a ∧ (SqL K H a xs ∨ SqT K H a xs) ∧ Reps K H O ds xs := by
  cases x with
  | lst es => cases e; obtain ⟨a, xs, h1, h2, r⟩ := h; exact ⟨a, xs, h1, .inl (.inl (.inl h2)), r⟩
  | tup es => cases e; obtain ⟨a, xs, h1, h2, r⟩ := vw_tup h; exact ⟨a, xs, h1, .inr h2, r⟩
  | frl es => cases e; obtain ⟨a, xs, h1, h2, r⟩ := vw_frl h; exact ⟨a, xs, h1, .inl h2.sq, r⟩
  | _ => cases e
end

/-! ### arithmetic -/
def gAdd : D → D → Option Opd
  | .int i, .int j => some (.d (.int (i + j)))
  | .str x, .str y => if x.length + y.length ≤ 16777216 then some (.d (.str (x ++ y))) else none
  | .lst x, .lst y => if x.length + y.length ≤ 16777216 then some (.nw (x ++ y)) else none
  | .tup x, .tup y => if x.length + y.length ≤ 16777216 then some (.d (.tup (x ++ y))) else none
  | _, _ => none
def gSub : D → D → Option Opd
  | .int i, .int j => some (.d (.int (i - j)))
  | _, _ => none
def gMul : D → D → Option Opd
  | .int i, .int j => if i.natAbs.log2 + j.natAbs.log2 < 1000000 then some (.d (.int (i * j))) else none
  | .lst x, .int k => if -(2 ^ 63) ≤ k ∧ k < 2 ^ 63 ∧ x.length * k.toNat ≤ 16777216 then some (.nw (List.replicate k.toNat x).flatten) else none
  | _, _ => none
def gMod : D → D → Option Opd
  | .int i, .int j => if 0 < j then some (.d (.int (i % j))) else none
  | _, _ => none
def gDiv : D → D → Option Opd
  | .int i, .int j => if 0 < j ∧ j.natAbs.log2 < 9000 then some (.d (.int (i / j))) else none
  | _, _ => none
def gPow : D → D → Option Opd
  | .int i, .int j => if 0 ≤ j ∧ ((i.natAbs.log2 + 1 : Nat) : Int) * j ≤ 134217728 then some (.d (.int (i ^ j.toNat))) else none
  | _, _ => none
section
variable {X : Cx}
theorem some_if {α : Type} {c : Prop} [Decidable c] {a b : α} (h : (if c then some a else none) = some b) : c ∧ a = b := by
  split at h
  · rename_i hc; exact ⟨hc, Option.some.inj h⟩
  · cases h
theorem opAdd : OpD X (binaryOp .Add) gAdd := by
  intro pins s σ' H u v uv vv Q I ru rv h
  obtain ⟨C, O, σ, ρ, x, y, z, ek, F, vx, vy, ez, q⟩ := h
  cases x <;> cases y <;> try (simp [gAdd] at ez; done)
  · cases ez
    exact op_add pins s σ' H u v uv vv Q I ru rv ⟨_, _, vw_int vx, vw_int vy, q _ H O F .refl or_int⟩
  · obtain ⟨hl, e⟩ := some_if ez
    cases e
    exact op_add_str pins s σ' H u v uv vv Q I ru rv ⟨_, _, vw_str vx, vw_str vy, by rw [sizeLine_eq]; exact hl, q _ H O F .refl or_str⟩
  · obtain ⟨hl, e⟩ := some_if ez
    cases e
    obtain ⟨a, xs, e1, h1, r1⟩ := vx
    obtain ⟨b, ys, e2, h2, r2⟩ := vy
    refine op_cat pins s σ' H u v uv vv Q I ru rv ⟨a, b, xs, ys, e1, e2, h1, h2, by rw [sizeLine_eq, ← r1.len, ← r2.len]; exact hl, fun p hp => q _ _ O (F.laid hp) (Fw.laid hp) (OpR.new F hp (by rw [ek]; exact r1.append r2))⟩
  · obtain ⟨hl, e⟩ := some_if ez
    cases e
    obtain ⟨a, xs, e1, h1, r1⟩ := vw_tup vx
    obtain ⟨b, ys, e2, h2, r2⟩ := vw_tup vy
    have hr := r1.append r2
    refine op_catA pins s σ' H u v uv vv Q I ru rv ⟨a, b, xs, ys, e1, e2, h1, h2, by rw [sizeLine_eq, ← r1.len, ← r2.len]; exact hl, fun hx => ?_, fun hx hy => ?_, fun hx hy p hp => ?_⟩
    · refine q _ H O F .refl (or_tup (by rw [ek]; exact h2) (by rw [ek]; rw [hx] at hr; exact hr))
    · refine q _ H O F .refl (or_tup (by rw [ek]; exact h1) (by rw [ek]; rw [hy, List.append_nil] at hr; exact hr))
    · exact q _ _ O (F.laid hp) (Fw.laid hp) (or_tup (.inl (.inl upd_same)) (by rw [ek]; exact hr.keep (fun b u e _ => updK hp b u e) F.mu fun _ h => h))
theorem opSub : OpD X (binaryOp .Sub) gSub := by
  intro pins s σ' H u v uv vv Q I ru rv h
  obtain ⟨C, O, σ, ρ, x, y, z, ek, F, vx, vy, ez, q⟩ := h
  cases x <;> cases y <;> try (simp [gSub] at ez; done)
  cases ez
  exact op_sub pins s σ' H u v uv vv Q I ru rv ⟨_, _, vw_int vx, vw_int vy, q _ H O F .refl or_int⟩
theorem opMul : OpD X (binaryOp .Mult) gMul := by
  intro pins s σ' H u v uv vv Q I ru rv h
  obtain ⟨C, O, σ, ρ, x, y, z, ek, F, vx, vy, ez, q⟩ := h
  cases x <;> cases y <;> try (simp [gMul] at ez; done)
  · obtain ⟨hl, e⟩ := some_if ez
    cases e
    exact op_mulW pins s σ' H u v uv vv Q I ru rv ⟨_, _, vw_int vx, vw_int vy, hl, q _ H O F .refl or_int⟩
  · obtain ⟨hl, e⟩ := some_if ez
    cases e
    obtain ⟨a, xs, e1, h1, r1⟩ := vx
    refine op_rep pins s σ' H u v uv vv Q I ru rv ⟨a, _, xs, e1, vw_int vy, h1, hl.1, hl.2.1, by rw [sizeLine_eq, ← r1.len]; exact hl.2.2, fun p hp => q _ _ O (F.laid hp) (Fw.laid hp) (OpR.new F hp ?_)⟩
    rw [ek]
    rename_i k
    generalize k.toNat = n
    induction n with
    | zero => exact .nil
    | succ n ih =>
      rw [List.replicate_succ, List.flatten_cons, List.replicate_succ, List.flatten_cons]
      exact r1.append ih
theorem opMod : OpD X (binaryOp .Mod) gMod := by
  intro pins s σ' H u v uv vv Q I ru rv h
  obtain ⟨C, O, σ, ρ, x, y, z, ek, F, vx, vy, ez, q⟩ := h
  cases x <;> cases y <;> try (simp [gMod] at ez; done)
  obtain ⟨hl, e⟩ := some_if ez
  cases e
  exact op_mod pins s σ' H u v uv vv Q I ru rv ⟨_, _, vw_int vx, vw_int vy, hl, q _ H O F .refl or_int⟩
theorem opDiv : OpD X (binaryOp .FloorDiv) gDiv := by
  intro pins s σ' H u v uv vv Q I ru rv h
  obtain ⟨C, O, σ, ρ, x, y, z, ek, F, vx, vy, ez, q⟩ := h
  cases x <;> cases y <;> try (simp [gDiv] at ez; done)
  obtain ⟨hl, e⟩ := some_if ez
  cases e
  exact op_fdivW pins s σ' H u v uv vv Q I ru rv ⟨_, _, vw_int vx, vw_int vy, hl, q _ H O F .refl or_int⟩
theorem opPow : OpD X (binaryOp .Pow) gPow := by
  intro pins s σ' H u v uv vv Q I ru rv h
  obtain ⟨C, O, σ, ρ, x, y, z, ek, F, vx, vy, ez, q⟩ := h
  cases x <;> cases y <;> try (simp [gPow] at ez; done)
  rename_i i j
  obtain ⟨hl, e⟩ := some_if ez
  cases e
  cases vw_int vx
  cases vw_int vy
  obtain ⟨t, rfl⟩ := ru
  obtain ⟨t', rfl⟩ := rv
  refine pow_int hl.1 ?_ ⟨.int (i ^ j.toNat), H, I.tok _, ⟨_, rfl⟩, q _ H O F .refl or_int⟩
  have b : ((Builtin.Int.intBits i : Nat) : Int) ≤ ((i.natAbs.log2 + 1 : Nat) : Int) := by
    unfold Builtin.Int.intBits
    split <;> omega
  exact Int.le_trans (Int.mul_le_mul_of_nonneg_right b hl.1) (by have := hl.2; omega)
def gNeg : D → Option D
  | .int i => some (.int (-i))
  | _ => none
end
/-! one operand -/
def fUn (g : D → Option D) (f : FE) : FE := fun ρ => (f ρ).bind fun p => (der p.2 p.1).bind fun x => (g x).bind fun z => some (.d z, p.2)
section
variable {X : Cx} {K : PySem.W.Frag} {a e b : Expr} {f fa fb : FE} {pos : Pos}
theorem tUn1 {g : D → Option D} {σ : L2.St} {H : Hp} {Q : VK} (h : tF K (fUn g f) σ H Q) : tF K f σ H fun u H1 => ∃ C O ρ x z, C.K = K ∧ FR C O σ ρ H1 ∧ Vw K H1 O x u ∧ g x = some z ∧ ∀ w, Rep K H1 O z w → Q w H1 := by
  obtain ⟨C, O, ρ, o, ρ', ek, F, e, q⟩ := h
  unfold fUn at e
  cases ea : f ρ with
  | none => rw [ea] at e; cases e
  | some p =>
    obtain ⟨o1, ρ1⟩ := p
    rw [ea, Option.bind_some] at e
    cases ex : der ρ1 o1 with
    | none => simp [ex] at e
    | some x =>
      simp only [ex, Option.bind_some] at e
      cases ez : g x with
      | none => simp [ez] at e
      | some z =>
        simp only [ez, Option.bind_some] at e
        cases e
        exact ⟨C, O, ρ, o1, _, ek, F, ea, fun u H1 O1 F1 w1 r1 => ⟨C, O1, _, x, z, ek, F1, by rw [← ek]; exact r1.w.vw F1 ex, ez, fun w hw => q w H1 O1 F1 w1 (by show Rep C.K _ _ _ _; rw [ek]; exact hw)⟩⟩
theorem d_neg (ha : PE X a (tF X.K f)) : PE X (.UnaryOp .USub a pos) (tF X.K (fUn gNeg f)) := (pe_un un_neg ha).imp fun σ H Q h => by
  obtain ⟨C, O, ρ, o, ρ', ek, F, e, q⟩ := tUn1 h
  refine ⟨C, O, ρ, o, ρ', ek, F, e, fun u H1 O1 F1 w1 r1 => ?_⟩
  obtain ⟨C2, O2, ρ2, x, z, ek2, F2, vx, ez, q2⟩ := q u H1 O1 F1 w1 r1
  cases x <;> try (simp [gNeg] at ez; done)
  cases ez
  exact ⟨_, vw_int vx, q2 _ (mk_int (K := X.K) (H := H1) (O := O2))⟩

/-! ### comparisons -/
mutual
def toPy : D → PyData
  | .non => .none
  | .bl b => .bool b
  | .int i => .int i
  | .str x => .str x
  | .lst ds => .list (toPys ds)
  | .tup ds => .tuple (toPys ds)
  | .frl ds => .list (toPys ds)
  | .dct _ _ => .dict []
  | .op _ => .dict []
def toPys : List D → List PyData
  | [] => []
  | d :: ds => toPy d :: toPys ds
end
mutual
theorem Rep.dp {H : Hp} {O : AP} : ∀ {d : D} {v : V}, Rep K H O d v → (toPy d).canLay0 = true → Dp K H v (toPy d)
  | .non, v, h, _ => by rw [rp_non h, toPy]; exact .non
  | .bl b, v, h, _ => by rw [rp_bl h, toPy]; exact .bl b
  | .int b, v, h, _ => by rw [rp_int h, toPy]; exact .int b
  | .str b, v, h, _ => by rw [rp_str h, toPy]; exact .str b
  | .op b, v, h, c => by rw [toPy] at c; exact absurd c (by decide)
  | .dct _ _, v, h, c => by rw [toPy] at c; exact absurd c (by decide)
  | .lst ds, v, h, c => by
    rw [Rep] at h
    obtain ⟨a, xs, rfl, ha, _, r⟩ := h
    rw [toPy] at c ⊢
    exact .lst (.inl (.inl ha)) (Reps.dp r (by simpa [PyData.canLay0] using c))
  | .frl ds, v, h, c => by
    rw [Rep] at h
    obtain ⟨a, xs, rfl, ha, r⟩ := h
    rw [toPy] at c ⊢
    exact .lst ha.sq (Reps.dp r (by simpa [PyData.canLay0] using c))
  | .tup ds, v, h, c => by
    rw [Rep] at h
    obtain ⟨a, xs, rfl, ha, r⟩ := h
    rw [toPy] at c ⊢
    exact .tup ha (Reps.dp r (by simpa [PyData.canLay0] using c))
theorem Reps.dp {H : Hp} {O : AP} : ∀ {ds : List D} {vs : List V}, Reps K H O ds vs → PyData.canLayAll0 (toPys ds) = true → DpAll K H vs (toPys ds)
  | [], vs, h, _ => by rw [Reps] at h; rw [h, toPys]; exact .nil
  | d :: ds, vs, h, c => by
    rw [Reps] at h
    obtain ⟨v, r, rfl, h1, h2⟩ := h
    rw [toPys] at c ⊢
    simp only [PyData.canLayAll0, Bool.and_eq_true] at c
    exact .cons (Rep.dp h1 c.1) (Reps.dp h2 c.2)
end
theorem Vw.dp {H : Hp} {O : AP} {d : D} {v : V} (h : Vw K H O d v) (c : (toPy d).canLay0 = true) : Dp K H v (toPy d) := by
  cases d with
  | lst ds =>
    obtain ⟨a, xs, rfl, ha, r⟩ := h
    rw [toPy] at c ⊢
    exact .lst (.inl (.inl ha)) (Reps.dp r (by simpa [PyData.canLay0] using c))
  | _ => exact Rep.dp (O := O) h c
def okP (d : D) : Bool := SeqAt.shaped (toPy d)
def eqP (x y : D) : Bool := PyData.eqv (toPy x) (toPy y)
def gEq (neg : Bool) : D → D → Option Opd
  | .int i, .int j => some (.d (.bl (decide (i = j) != neg)))
  | .str i, .str j => some (.d (.bl (decide (i = j) != neg)))
  | .bl i, .bl j => some (.d (.bl (decide (i = j) != neg)))
  | x, y => if okP x = true ∧ okP y = true then some (.d (.bl (eqP x y != neg))) else none
theorem eqD_gen (hu : X.A.units + 64 < cLine) {pins : List (Addr × Obj)} {s : Shared} {σ' σ : L2.St} {ρ : Ev} {C : Fc} {H : Hp} {O : AP} {u v : V} {uv vv : Value} {Q : VK} {x y : D} {z : Opd} (I : Inv X pins σ' H s) (ru : RelV u uv) (rv : RelV v vv) (ek : C.K = X.K) (F : FR C O σ ρ H)
    (vx : Vw X.K H O x u) (vy : Vw X.K H O y v) (ez : (if okP x = true ∧ okP y = true then some (Opd.d (.bl (eqP x y != false))) else none) = some z)
    (q : ∀ w H' O', FR C O' σ ρ H' → Fw O σ ρ H O' ρ H' → OpR C O' σ ρ H' w z → Q w H') : wpAny (model X.prog X.w) X.A (compareOp .Eq uv vv) (EP X pins σ' Q) X.xe s := by
  obtain ⟨hl, e⟩ := some_if ez
  cases e
  exact op_eqD hu pins s σ' H u v uv vv Q I ru rv ⟨toPy x, toPy y, vx.dp (SeqAt.canLay_of_shaped hl.1), vy.dp (SeqAt.canLay_of_shaped hl.2), hl.1, hl.2, q _ H O F .refl (by show Rep _ _ _ _ _; rw [Rep]; unfold eqP; cases PyData.eqv (toPy x) (toPy y) <;> rfl)⟩
theorem neD_gen (hu : X.A.units + 64 < cLine) {pins : List (Addr × Obj)} {s : Shared} {σ' σ : L2.St} {ρ : Ev} {C : Fc} {H : Hp} {O : AP} {u v : V} {uv vv : Value} {Q : VK} {x y : D} {z : Opd} (I : Inv X pins σ' H s) (ru : RelV u uv) (rv : RelV v vv) (ek : C.K = X.K) (F : FR C O σ ρ H)
    (vx : Vw X.K H O x u) (vy : Vw X.K H O y v) (ez : (if okP x = true ∧ okP y = true then some (Opd.d (.bl (eqP x y != true))) else none) = some z)
    (q : ∀ w H' O', FR C O' σ ρ H' → Fw O σ ρ H O' ρ H' → OpR C O' σ ρ H' w z → Q w H') : wpAny (model X.prog X.w) X.A (compareOp .NotEq uv vv) (EP X pins σ' Q) X.xe s := by
  obtain ⟨hl, e⟩ := some_if ez
  cases e
  exact op_neD hu pins s σ' H u v uv vv Q I ru rv ⟨toPy x, toPy y, vx.dp (SeqAt.canLay_of_shaped hl.1), vy.dp (SeqAt.canLay_of_shaped hl.2), hl.1, hl.2, q _ H O F .refl (by show Rep _ _ _ _ _; rw [Rep]; unfold eqP; cases PyData.eqv (toPy x) (toPy y) <;> rfl)⟩
theorem opEq (hu : X.A.units + 64 < cLine) : OpD X (compareOp .Eq) (gEq false) := by
  intro pins s σ' H u v uv vv Q I ru rv h
  obtain ⟨C, O, σ, ρ, x, y, z, ek, F, vx, vy, ez, q⟩ := h
  unfold gEq at ez
  split at ez
  · cases vw_int vx; cases vw_int vy; cases ez
    refine op_eq pins s σ' H _ _ uv vv Q I ru rv ⟨rfl, q _ H O F .refl ?_⟩
    show Rep _ _ _ _ _
    rw [Rep, Bool.bne_false]; congr 1; simp
  · cases vw_str vx; cases vw_str vy; cases ez
    refine op_eq pins s σ' H _ _ uv vv Q I ru rv ⟨rfl, q _ H O F .refl ?_⟩
    show Rep _ _ _ _ _
    rw [Rep, Bool.bne_false]; congr 1; simp
  · cases vw_bl vx; cases vw_bl vy; cases ez
    refine op_eq pins s σ' H _ _ uv vv Q I ru rv ⟨rfl, q _ H O F .refl ?_⟩
    show Rep _ _ _ _ _
    rw [Rep, Bool.bne_false]; congr 1; simp
  · exact eqD_gen hu I ru rv ek F vx vy ez q
theorem opNe (hu : X.A.units + 64 < cLine) : OpD X (compareOp .NotEq) (gEq true) := by
  intro pins s σ' H u v uv vv Q I ru rv h
  obtain ⟨C, O, σ, ρ, x, y, z, ek, F, vx, vy, ez, q⟩ := h
  unfold gEq at ez
  split at ez
  · cases vw_int vx; cases vw_int vy; cases ez
    refine op_ne pins s σ' H _ _ uv vv Q I ru rv ⟨rfl, q _ H O F .refl ?_⟩
    show Rep _ _ _ _ _
    rw [Rep, Bool.bne_true]; congr 2; simp
  · cases vw_str vx; cases vw_str vy; cases ez
    refine op_ne pins s σ' H _ _ uv vv Q I ru rv ⟨rfl, q _ H O F .refl ?_⟩
    show Rep _ _ _ _ _
    rw [Rep, Bool.bne_true]; congr 2; simp
  · cases vw_bl vx; cases vw_bl vy; cases ez
    refine op_ne pins s σ' H _ _ uv vv Q I ru rv ⟨rfl, q _ H O F .refl ?_⟩
    show Rep _ _ _ _ _
    rw [Rep, Bool.bne_true]; congr 2; simp
  · exact neD_gen hu I ru rv ek F vx vy ez q
def gCmp (p : Int → Int → Bool) : D → D → Option Opd
  | .int i, .int j => some (.d (.bl (p i j)))
  | _, _ => none
theorem opCmp {op : CmpOp} {p : Int → Int → Bool} (ho : L2.OpR X (compareOp op) (rI0 fun i j => .bl (p i j))) : OpD X (compareOp op) (gCmp p) := by
  intro pins s σ' H u v uv vv Q I ru rv h
  obtain ⟨C, O, σ, ρ, x, y, z, ek, F, vx, vy, ez, q⟩ := h
  cases x <;> cases y <;> try (simp [gCmp] at ez; done)
  cases ez
  exact ho pins s σ' H u v uv vv Q I ru rv ⟨_, _, vw_int vx, vw_int vy, q _ H O F .refl or_bl⟩
theorem opLt : OpD X (compareOp .Lt) (gCmp fun i j => decide (i < j)) := opCmp op_lt
theorem opLe : OpD X (compareOp .LtE) (gCmp fun i j => decide (i ≤ j)) := opCmp op_le
theorem opGt : OpD X (compareOp .Gt) (gCmp fun i j => decide (j < i)) := opCmp op_gt
theorem opGe : OpD X (compareOp .GtE) (gCmp fun i j => decide (j ≤ i)) := opCmp op_ge
def isNon : D → Bool
  | .non => true
  | _ => false
def noOp : D → Bool
  | .op _ => false
  | _ => true
def gIs (neg : Bool) : D → D → Option Opd
  | x, .non => if noOp x = true then some (.d (.bl (isNon x != neg))) else none
  | _, _ => none
theorem isNon_ok {H : Hp} {O : AP} {x : D} {u : V} (h : Vw K H O x u) (n : noOp x = true) : decide (u = .non) = isNon x := by
  cases x with
  | non => cases vw_non h; rfl
  | bl b => cases vw_bl h; rfl
  | int b => cases vw_int h; rfl
  | str b => cases vw_str h; rfl
  | lst b => obtain ⟨a, xs, rfl, _⟩ := h; rfl
  | tup b => obtain ⟨a, xs, rfl, _⟩ := vw_tup h; rfl
  | frl b => obtain ⟨a, xs, rfl, _⟩ := vw_frl h; rfl
  | dct ks b =>
    have h : Rep _ _ _ (.dct ks b) u := h
    rw [Rep] at h
    obtain ⟨a, kvs, rfl, _⟩ := h; rfl
  | op b => cases n
theorem opIs : OpD X (compareOp .Is) (gIs false) := by
  intro pins s σ' H u v uv vv Q I ru rv h
  obtain ⟨C, O, σ, ρ, x, y, z, ek, F, vx, vy, ez, q⟩ := h
  cases y <;> try (simp [gIs] at ez; done)
  obtain ⟨hl, e⟩ := some_if ez
  cases e
  refine op_isN pins s σ' H u v uv vv Q I ru rv ⟨vw_non vy, q _ H O F .refl ?_⟩
  rw [isNon_ok vx hl, Bool.bne_false]; exact or_bl
theorem opIsNot : OpD X (compareOp .IsNot) (gIs true) := by
  intro pins s σ' H u v uv vv Q I ru rv h
  obtain ⟨C, O, σ, ρ, x, y, z, ek, F, vx, vy, ez, q⟩ := h
  cases y <;> try (simp [gIs] at ez; done)
  obtain ⟨hl, e⟩ := some_if ez
  cases e
  refine op_notN pins s σ' H u v uv vv Q I ru rv ⟨vw_non vy, q _ H O F .refl ?_⟩
  rw [isNon_ok vx hl, Bool.bne_true]; exact or_bl
/-! in, not in: flat items -/
def flatD : D → Bool
  | .non => true
  | .bl _ => true
  | .int _ => true
  | .str _ => true
  | _ => false
def toV : D → V
  | .non => .non
  | .bl b => .bl b
  | .int b => .int b
  | .str b => .str b
  | .op v => v
  | _ => .non
theorem flat_v {H : Hp} {O : AP} {x : D} {u : V} (h : Rep K H O x u) (f : flatD x = true) : u = toV x ∧ flatV u = true := by
  cases x with
  | non => cases rp_non h; exact ⟨rfl, rfl⟩
  | bl b => cases rp_bl h; exact ⟨rfl, rfl⟩
  | int b => cases rp_int h; exact ⟨rfl, rfl⟩
  | str b => cases rp_str h; exact ⟨rfl, rfl⟩
  | _ => cases f
theorem flat_vs {H : Hp} {O : AP} : ∀ {ds : List D} {us : List V}, Reps K H O ds us → ds.all flatD = true → us = ds.map toV ∧ us.all flatV = true
  | [], us, h, _ => by rw [Reps] at h; subst h; exact ⟨rfl, rfl⟩
  | d :: ds, us, h, f => by
    rw [Reps] at h
    obtain ⟨v, r, rfl, h1, h2⟩ := h
    rw [List.all_cons, Bool.and_eq_true] at f
    obtain ⟨e1, e2⟩ := flat_v h1 f.1
    obtain ⟨e3, e4⟩ := flat_vs h2 f.2
    exact ⟨by rw [List.map_cons, e1, e3], by rw [List.all_cons, e2, e4]; rfl⟩
def eqF (y x : D) : Bool := eqV (toV y) (toV x)
def gIn (neg : Bool) : D → D → Option Opd := fun x y => (items y).bind fun ds => if flatD x = true ∧ ds.all flatD = true then some (.d (.bl ((ds.any fun y => eqF y x) != neg))) else none
theorem opIn' {neg : Bool} {op : CmpOp} (ho : L2.OpR X (compareOp op) (rIn X.K neg)) : OpD X (compareOp op) (gIn neg) := by
  intro pins s σ' H u v uv vv Q I ru rv h
  obtain ⟨C, O, σ, ρ, x, y, z, ek, F, vx, vy, ez, q⟩ := h
  unfold gIn at ez
  cases ei : items y with
  | none => rw [ei] at ez; cases ez
  | some ds =>
    rw [ei, Option.bind_some] at ez
    obtain ⟨hl, e⟩ := some_if ez
    cases e
    obtain ⟨a, xs, e1, h1, r1⟩ := vw_items vy ei
    obtain ⟨e3, e4⟩ := flat_vs r1 hl.2
    obtain ⟨e5, e6⟩ := flat_v (O := O) (by cases x <;> first | exact vx | exact absurd hl.1 (by simp [flatD])) hl.1
    refine ho pins s σ' H u v uv vv Q I ru rv ⟨a, xs, e1, h1, e6, e4, q _ H O F .refl ?_⟩
    show Rep _ _ _ _ _
    have en : inV u xs = ds.any fun y => eqF y x := by
      rw [e5, e3]
      unfold inV eqF
      rw [List.any_map]; rfl
    rw [Rep, en]
    cases neg
    · rw [Bool.bne_false]; rfl
    · rw [Bool.bne_true]; rfl
theorem opIn : OpD X (compareOp .In) (gIn false) := opIn' op_in_seq
theorem opNotIn : OpD X (compareOp .NotIn) (gIn true) := opIn' op_notIn_seq

/-! ### items, slices -/
def gIx : D → D → Option Opd
  | .str z, .int i => if z.length ≤ 16777216 then (atI z.cps.toList i).bind fun c => some (.d (.str ⟨#[c]⟩)) else none
  | x, .int i => (items x).bind fun ds => (atI ds i).bind fun d => some (.d d)
  | _, _ => none
theorem atI_rep {H : Hp} {O : AP} {ds : List D} {xs : List V} {i : Int} {d : D} (r : Reps K H O ds xs) (h : atI ds i = some d) : ∃ v, atI xs i = some v ∧ Rep K H O d v := by
  unfold atI at h ⊢
  rw [← r.len]
  cases e : ixN ds.length i with
  | none => rw [e] at h; cases h
  | some j =>
    rw [e, Option.bind_some] at h
    exact r.get h
theorem ixD : IxR X (rD X.K gIx) := by
  intro value slice pins s σ' H u v uv vv Q I ru rv h hsub
  obtain ⟨C, O, σ, ρ, x, y, z, ek, F, vx, vy, ez, q⟩ := h
  unfold gIx at ez
  split at ez
  · cases vw_str vx; cases vw_int vy
    rename_i z0 i
    split at ez
    · rename_i hl
      cases ec : atI z0.cps.toList i with
      | none => rw [ec] at ez; cases ez
      | some c =>
        rw [ec, Option.bind_some] at ez
        cases ez
        exact ix_str value slice pins s σ' H _ _ uv vv Q I ru rv ⟨z0, i, c, rfl, rfl, by rw [sizeLine_eq]; exact hl, ec, q _ H O F .refl or_str⟩ hsub
    · cases ez
  · rename_i i _
    cases vw_int vy
    cases ei : items x with
    | none => rw [ei] at ez; cases ez
    | some ds =>
      rw [ei, Option.bind_some] at ez
      cases ec : atI ds i with
      | none => rw [ec] at ez; cases ez
      | some d =>
        rw [ec, Option.bind_some] at ez
        cases ez
        obtain ⟨a, xs, e1, h1, r1⟩ := vw_items vx ei
        obtain ⟨w, hw, rw'⟩ := atI_rep r1 ec
        subst e1
        rcases h1 with h1 | h1
        · exact ix_list value slice pins s σ' H _ _ uv vv Q I ru rv ⟨a, xs, i, w, rfl, rfl, h1, hw, q _ H O F .refl (by show Rep C.K _ _ _ _; rw [ek]; exact rw')⟩ hsub
        · exact ix_tup value slice pins s σ' H _ _ uv vv Q I ru rv ⟨a, xs, i, w, rfl, rfl, h1, hw, q _ H O F .refl (by show Rep C.K _ _ _ _; rw [ek]; exact rw')⟩ hsub
  · cases ez
def cutD (xs : List D) (lo hi : Option Int) : List D := (xs.drop (HT.sIx xs.length 0 lo)).take (HT.sIx xs.length xs.length hi - HT.sIx xs.length 0 lo)
/-- a part of a slice: none, or an int -/
abbrev FP := Ev → Option (Option Int × Ev)
def tP (K : PySem.W.Frag) (f : FP) : TO := fun σ H Q => ∃ C O ρ i ρ', C.K = K ∧ FR C O σ ρ H ∧ f ρ = some (i, ρ') ∧ ∀ H' O', FR C O' σ ρ' H' → Fw O σ ρ H O' ρ' H' → Q i H'
def pNo : FP := fun ρ => some (none, ρ)
def asI : Opd × Ev → Option (Option Int × Ev)
  | (.d (.int i), ρ) => some (some i, ρ)
  | _ => none
def pInt (f : FE) : FP := fun ρ => (f ρ).bind asI
theorem PO.imp {X : Cx} {e : Option Expr} {t t' : TO} (h : PO X e t) (i : ∀ σ H Q, t' σ H Q → t σ H Q) : PO X e t' := ⟨fun pins s σ H Q I q => h.run pins s σ H Q I (i σ H Q q)⟩
theorem p_no : PO X none (tP X.K pNo) := PO.imp po_none fun σ H Q h => by
  obtain ⟨C, O, ρ, i, ρ', ek, F, e, q⟩ := h
  cases e
  exact q H O F .refl
theorem p_int (h : PE X e (tF X.K f)) : PO X (some e) (tP X.K (pInt f)) := PO.imp (po_some h) fun σ H Q h => by
  obtain ⟨C, O, ρ, i, ρ', ek, F, e, q⟩ := h
  unfold pInt at e
  cases ea : f ρ with
  | none => rw [ea] at e; cases e
  | some p =>
    rw [ea, Option.bind_some] at e
    unfold asI at e
    split at e
    · rename_i j ρ2
      cases e
      exact ⟨C, O, ρ, _, _, ek, F, ea, fun v H1 O1 F1 w r => ⟨j, rp_int (K := C.K) (H := H1) (O := O1) r, q H1 O1 F1 w⟩⟩
    · cases e
def gSl (x : D) (lo hi : Option Int) : Option Opd := match x with
  | .tup ds => some (.d (.tup (cutD ds lo hi)))
  | .lst ds => some (.nw (cutD ds lo hi))
  | .frl ds => some (.nw (cutD ds lo hi))
  | _ => none
def fSl (f : FE) (fl fh : FP) : FE := fun ρ => (f ρ).bind fun p => (fl p.2).bind fun l => (fh l.2).bind fun h => (der h.2 p.1).bind fun x => (gSl x l.1 h.1).bind fun z => some (z, h.2)
def rSD (K : PySem.W.Frag) : V → Option Int → Option Int → Hp → VK → Prop := fun u lo hi H Q => ∃ C O σ ρ x z, C.K = K ∧ FR C O σ ρ H ∧ Vw K H O x u ∧ gSl x lo hi = some z ∧ ∀ w H' O', FR C O' σ ρ H' → Fw O σ ρ H O' ρ H' → OpR C O' σ ρ H' w z → Q w H'
theorem cut_rep {H : Hp} {O : AP} {ds : List D} {xs : List V} {lo hi : Option Int} (r : Reps K H O ds xs) : Reps K H O (cutD ds lo hi) (cutV xs lo hi) := by
  unfold cutD cutV
  rw [← r.len]
  exact (r.drop _).take _
theorem slD' : L2.SlR X (rSD X.K) := by
  intro pins s σ' H x v vl vu lo hi sl Q I rx hs pl pu h
  obtain ⟨C, O, σ, ρ, d, z, ek, F, vx, ez, q⟩ := h
  cases d <;> try (simp [gSl] at ez; done)
  · cases ez
    obtain ⟨a, xs, e1, h1, r1⟩ := vx
    exact sl_list pins s σ' H x v vl vu lo hi sl Q I rx hs pl pu ⟨a, xs, e1, .inl (.inl h1), fun p hp => q _ _ O (F.laid hp) (Fw.laid hp) (OpR.new F hp (by rw [ek]; exact cut_rep r1))⟩
  · cases ez
    obtain ⟨a, xs, e1, h1, r1⟩ := vw_tup vx
    refine sl_tupA pins s σ' H x v vl vu lo hi sl Q I rx hs pl pu ⟨a, xs, e1, h1, fun hw => ?_, fun hw p hp => ?_⟩
    · refine q _ H O F .refl (or_tup (by rw [ek]; exact h1) ?_)
      rw [ek]
      have z := cut_rep (lo := lo) (hi := hi) r1
      have e : cutV xs lo hi = xs := by unfold cutV; rw [hw.1, hw.2]; simp
      rw [e] at z; exact z
    · exact q _ _ O (F.laid hp) (Fw.laid hp) (or_tup (.inl (.inl upd_same)) (by rw [ek]; exact (cut_rep r1).keep (fun b u e _ => updK hp b u e) F.mu fun _ h => h))
  · cases ez
    obtain ⟨a, xs, e1, h1, r1⟩ := vw_frl vx
    exact sl_list pins s σ' H x v vl vu lo hi sl Q I rx hs pl pu ⟨a, xs, e1, h1.sq, fun p hp => q _ _ O (F.laid hp) (Fw.laid hp) (OpR.new F hp (by rw [ek]; exact cut_rep r1))⟩
theorem d_sl {lo hi : Option Expr} {p2 : Pos} {fl fh : FP} (he : PE X e (tF X.K f)) (hl : PO X lo (tP X.K fl)) (hh : PO X hi (tP X.K fh)) : PE X (.Subscript e (.Slice lo hi none p2) pos) (tF X.K (fSl f fl fh)) :=
  (pe_slice slD' he hl hh).imp fun σ H Q h => by
    obtain ⟨C, O, ρ, o, ρ', ek, F, e, q⟩ := h
    unfold fSl at e
    cases ea : f ρ with
    | none => rw [ea] at e; cases e
    | some p =>
      obtain ⟨o1, ρ1⟩ := p
      rw [ea, Option.bind_some] at e
      cases eb : fl ρ1 with
      | none => simp [eb] at e
      | some p2 =>
        obtain ⟨l, ρ2⟩ := p2
        simp only [eb, Option.bind_some] at e
        cases ec : fh ρ2 with
        | none => simp [ec] at e
        | some p3 =>
          obtain ⟨h, ρ3⟩ := p3
          simp only [ec, Option.bind_some] at e
          cases ex : der ρ3 o1 with
          | none => simp [ex] at e
          | some x =>
            simp only [ex, Option.bind_some] at e
            cases ez : gSl x l h with
            | none => simp [ez] at e
            | some z =>
              simp only [ez, Option.bind_some] at e
              cases e
              refine ⟨C, O, ρ, o1, ρ1, ek, F, ea, fun u H1 O1 F1 w1 r1 => ?_⟩
              refine ⟨C, O1, ρ1, l, ρ2, ek, F1, eb, fun H2 O2 F2 w2 => ?_⟩
              refine ⟨C, O2, ρ2, h, _, ek, F2, ec, fun H3 O3 F3 w3 => ?_⟩
              exact ⟨C, O3, σ, _, x, _, ek, F3, by rw [← ek]; exact ((r1.w.fw F1 w2).fw F2 w3).vw F3 ex, ez, fun w H4 O4 F4 w4 r4 => q w H4 O4 F4 (((w1.trans w2).trans w3).trans w4) r4⟩
end
end Dv

set_option Elab.async false
set_option linter.all false
set_option maxRecDepth 100000
set_option maxHeartbeats 2000000
/-! calls of own defs, and a def by its body -/
namespace Dv
open PySem PySem.Spec PyProof.Rows L2

/-- what a def hands back: a value, or a new list -/
inductive Rt where
  | d (x : D) | nw (ds : List D)
def RtR (K : PySem.W.Frag) (O : AP) (H H' : Hp) (v : V) : Rt → Prop
  | .d x => Rep K H' O x v
  | .nw ds => ∃ a xs, v = .ref a ∧ H a = none ∧ H' a = some (.lst xs) ∧ Reps K H' (fun b => b = a ∨ O b) ds xs
def Rt.o : Rt → Opd
  | .d x => .d x
  | .nw ds => .nw ds
/-- a def without changes -/
abbrev F0 := List D → Option Rt
/-- a def that changes the list that it is handed first -/
abbrev F1 := List D → Option (Rt × List D)
def spF0 (K : PySem.W.Frag) (n : Nat) (φ : F0) : Sp := fun vs H Q _ => vs.length = n ∧ ∃ O ds r, φ ds = some r ∧ OL O H ∧ Reps K H O ds vs ∧ ∀ v H', (∀ b o, H b = some o → H' b = some o) → RtR K O H H' v r → Q v H'
def extO (r : Rt) (v : V) (O : AP) : AP := match r with
  | .nw _ => fun b => v = .ref b ∨ O b
  | .d _ => O
def spF1 (K : PySem.W.Frag) (n : Nat) (φ : F1) : Sp := fun vs H Q _ => vs.length = n ∧ ∃ O a xs ds0 vr ds r out, vs = .ref a :: vr ∧ φ (.lst ds0 :: ds) = some (r, out) ∧ OL O H ∧ O a ∧ H a = some (.lst xs) ∧ Reps K H O ds0 xs ∧ Reps K H O ds vr ∧
  ∀ v H' ys, (∀ b o, b ≠ a → H b = some o → H' b = some o) → H' a = some (.lst ys) → RtR K O H H' v r → Reps K H' (extO r v O) out ys → Q v H'
mutual
/-- no list that may be changed -/
def noL : D → Bool
  | .lst _ => false
  | .tup ds => noLs ds
  | .frl ds => noLs ds
  | .dct _ ds => noLs ds
  | _ => true
def noLs : List D → Bool
  | [] => true
  | d :: ds => noL d && noLs ds
end
def noLr : Rt → Bool
  | .d x => noL x
  | .nw ds => noLs ds
section
variable {K : PySem.W.Frag} {H : Hp} {O O' : AP}
mutual
theorem Rep.any : ∀ {d : D} {v : V}, Rep K H O d v → noL d = true → Rep K H O' d v
  | .non, v, h, _ => by rw [Rep] at h ⊢; exact h
  | .bl b, v, h, _ => by rw [Rep] at h ⊢; exact h
  | .int b, v, h, _ => by rw [Rep] at h ⊢; exact h
  | .str b, v, h, _ => by rw [Rep] at h ⊢; exact h
  | .op b, v, h, _ => by rw [Rep] at h ⊢; exact h
  | .lst ds, v, h, n => by rw [noL] at n; cases n
  | .frl ds, v, h, n => by
    rw [noL] at n
    rw [Rep] at h ⊢
    obtain ⟨a, xs, e, ha, r⟩ := h
    exact ⟨a, xs, e, ha, Reps.any r n⟩
  | .dct ks ds, v, h, n => by
    rw [noL] at n
    rw [Rep] at h ⊢
    obtain ⟨a, kvs, e, ha, ne, hk, r⟩ := h
    exact ⟨a, kvs, e, ha, ne, hk, Reps.any r n⟩
  | .tup ds, v, h, n => by
    rw [noL] at n
    rw [Rep] at h ⊢
    obtain ⟨a, xs, e, ha, r⟩ := h
    exact ⟨a, xs, e, ha, Reps.any r n⟩
theorem Reps.any : ∀ {ds : List D} {vs : List V}, Reps K H O ds vs → noLs ds = true → Reps K H O' ds vs
  | [], vs, h, _ => by rw [Reps] at h ⊢; exact h
  | d :: ds, vs, h, n => by
    rw [noLs, Bool.and_eq_true] at n
    rw [Reps] at h ⊢
    obtain ⟨v, r, e, h1, h2⟩ := h
    exact ⟨v, r, e, Rep.any h1 n.1, Reps.any h2 n.2⟩
end
end
def notSl : Opd → Bool
  | .sl _ => false
  | _ => true
def ders (ρ : Ev) : List Opd → Option (List D)
  | [] => some []
  | o :: os => (der ρ o).bind fun x => (ders ρ os).bind fun xs => some (x :: xs)
def fCall (φ : F0) (fa : FA) : FE := fun ρ => (fa ρ).bind fun p => (ders p.2 p.1).bind fun ds => (φ ds).bind fun r => if p.1.all notSl = true ∨ noLr r = true then some (r.o, p.2) else none
def slotOf : List Opd → Option (Nat × List Opd)
  | .sl i :: os => some (i, os)
  | _ => none
def ownD : Option Sl → Option (List D)
  | some (.own ds) => some ds
  | some (.bor ds) => some ds
  | _ => none
def putS : Option Sl → List D → Sl
  | some s, ds => s.put ds
  | none, _ => .un
def fCall1 (φ : F1) (fa : FA) : FE := fun ρ => (fa ρ).bind fun p => (slotOf p.1).bind fun q => (ownD p.2[q.1]?).bind fun ds0 => (ders p.2 q.2).bind fun ds =>
  if q.2.all notSl = true then (φ (.lst ds0 :: ds)).bind fun r => some (r.1.o, p.2.set q.1 (putS p.2[q.1]? r.2)) else none
section
variable {X : Cx} {K : PySem.W.Frag} {C : Fc} {O : AP} {σ : L2.St} {ρ : Ev} {H : Hp}
theorem ders_ok : ∀ {os : List Opd} {vs : List V} {ds : List D}, FR C O σ ρ H → OpWs C O σ H vs os → ders ρ os = some ds → os.all notSl = true → Reps C.K H O ds vs
  | [], vs, ds, F, h, e, n => by cases h; cases e; exact .nil
  | o :: os, vs, ds, F, h, e, n => by
    cases h with
    | cons h1 h2 =>
      rw [List.all_cons, Bool.and_eq_true] at n
      unfold ders at e
      cases ea : der ρ o with
      | none => rw [ea] at e; cases e
      | some x =>
        rw [ea, Option.bind_some] at e
        cases eb : ders ρ os with
        | none => simp only [eb] at e; cases e
        | some xs =>
          simp only [eb, Option.bind_some] at e
          cases e
          refine .cons ?_ (ders_ok F h2 eb n.2)
          cases o with
          | d y => cases ea; exact h1
          | nw y => cases ea; exact h1
          | sl y => exact absurd n.1 (by simp [notSl])
/-- lists of slots are lent -/
theorem ders_lent : ∀ {os : List Opd} {vs : List V} {ds : List D}, FR C O σ ρ H → OpWs C O σ H vs os → ders ρ os = some ds → Reps C.K H (fun a => O a ∧ ¬ OwnA σ ρ a) ds vs
  | [], vs, ds, F, h, e => by cases h; cases e; exact .nil
  | o :: os, vs, ds, F, h, e => by
    cases h with
    | cons h1 h2 =>
      unfold ders at e
      cases ea : der ρ o with
      | none => rw [ea] at e; cases e
      | some x =>
        rw [ea, Option.bind_some] at e
        cases eb : ders ρ os with
        | none => simp only [eb] at e; cases e
        | some xs =>
          simp only [eb, Option.bind_some] at e
          cases e
          refine .cons ?_ (ders_lent F h2 eb)
          cases o with
          | d y => cases ea; exact Rep.less (fun _ h => h.1) h1
          | nw y => cases ea; exact Rep.less (fun _ h => h.1) (show Rep C.K H O (.lst y) _ from h1)
          | sl i =>
            have h1 : σ[i]? = some (some _) := h1
            have ea : slD ρ[i]? = some x := ea
            cases q : ρ[i]? with
            | none => rw [q] at ea; cases ea
            | some s =>
              rw [q] at ea
              have z := F.slot i _ q
              cases s with
              | un => cases ea
              | own es =>
                cases ea
                obtain ⟨a, xs, e1, e2, r, _⟩ := z
                rw [h1] at e1; cases e1
                rw [Rep]
                exact ⟨a, xs, rfl, e2, fun z => z.2 ⟨i, _, q, rfl, h1⟩, r.less fun _ h => h.1⟩
              | bor es =>
                cases ea
                obtain ⟨a, xs, e1, e2, r, _⟩ := z
                rw [h1] at e1; cases e1
                rw [Rep]
                exact ⟨a, xs, rfl, e2, fun z => z.2 ⟨i, _, q, rfl, h1⟩, r.less fun _ h => h.1⟩
              | val d =>
                cases ea
                obtain ⟨u, e1, r⟩ := z
                rw [h1] at e1; cases e1
                exact r.less fun _ h => h.1
theorem OpWs.len {vs : List V} {os : List Opd} (h : OpWs C O σ H vs os) : vs.length = os.length := by
  induction h with
  | nil => rfl
  | cons _ _ ih => simp [ih]
/-- behind a call that keeps everything -/
theorem FR.ret {H' : Hp} {v : V} {r : Rt} (F : FR C O σ ρ H) (k : ∀ b o, H b = some o → H' b = some o) (h : RtR C.K O H H' v r) : FR C O σ ρ H' ∧ Fw O σ ρ H O ρ H' ∧ OpR C O σ ρ H' v r.o := by
  refine ⟨F.kept k, ⟨fun b o e _ => k b o e, fun _ h => h, fun _ h => h, fun _ h => .inl h⟩, ?_⟩
  cases r with
  | d x => exact h
  | nw ds =>
    obtain ⟨a, xs, e, h0, h1, r⟩ := h
    refine ⟨a, xs, e, h1, F.h0 h0, fun z => ?_, F.grow (N := fun b => b = a) k (fun p q => by rw [q]; exact h0) (fun p q => ⟨xs, by rw [q]; exact h1⟩), r⟩
    obtain ⟨ys, q⟩ := F.mu a z
    rw [h0] at q; cases q
theorem tCallD {φ : F0} {fa : FA} {n : Nat} {Q : VK} {E : XK} (hn : ∀ ds r, φ ds = some r → ds.length = n) (h : tF K (fCall φ fa) σ H Q) : tCall (spF0 K n φ) [] E (tAr K fa) σ H Q := by
  obtain ⟨C, O, ρ, o, ρ', ek, F, e, q⟩ := h
  unfold fCall at e
  cases ea : fa ρ with
  | none => rw [ea] at e; cases e
  | some p =>
    obtain ⟨os, ρ1⟩ := p
    rw [ea, Option.bind_some] at e
    cases eb : ders ρ1 os with
    | none => simp [eb] at e
    | some ds =>
      simp only [eb, Option.bind_some] at e
      cases er : φ ds with
      | none => simp [er] at e
      | some r =>
        simp only [er, Option.bind_some] at e
        split at e
        · rename_i hc
          cases e
          refine ⟨C, O, ρ, os, ρ', ek, F, ea, fun vs H1 O1 F1 w1 r1 => ?_⟩
          show spF0 K n φ (vs ++ []) H1 Q E
          rw [List.append_nil]
          have hlen : vs.length = n := by
            have := hn _ _ er
            have l2 := (ders_lent F1 r1 eb).len
            omega
          rcases hc with hc | hc
          · refine ⟨hlen, O1, ds, r, er, F1.mu, by rw [← ek]; exact ders_ok F1 r1 eb hc, fun v H' k hr => ?_⟩
            obtain ⟨F2, w2, o2⟩ := F1.ret k (by rw [ek]; exact hr)
            exact q v H' O1 F2 (w1.trans w2) o2
          · refine ⟨hlen, (fun a => O1 a ∧ ¬ OwnA σ ρ' a), ds, r, er, fun a h => F1.mu a h.1, by rw [← ek]; exact ders_lent F1 r1 eb, fun v H' k hr => ?_⟩
            have hr' : RtR C.K O1 H1 H' v r := by
              rw [ek]
              cases r with
              | d x => exact Rep.any hr hc
              | nw es =>
                obtain ⟨a, xs, e, h0, h1, r⟩ := hr
                exact ⟨a, xs, e, h0, h1, r.any hc⟩
            obtain ⟨F2, w2, o2⟩ := F1.ret k hr'
            exact q v H' O1 F2 (w1.trans w2) o2
        · cases e
theorem tCallD1 {φ : F1} {fa : FA} {n : Nat} {Q : VK} {E : XK} (hn : ∀ ds r, φ ds = some r → ds.length = n) (h : tF K (fCall1 φ fa) σ H Q) : tCall (spF1 K n φ) [] E (tAr K fa) σ H Q := by
  obtain ⟨C, O, ρ, o, ρ', ek, F, e, q⟩ := h
  unfold fCall1 at e
  cases ea : fa ρ with
  | none => rw [ea] at e; cases e
  | some p =>
    obtain ⟨os, ρ1⟩ := p
    rw [ea, Option.bind_some] at e
    cases es : slotOf os with
    | none => simp [es] at e
    | some sp =>
      obtain ⟨i, os'⟩ := sp
      have eos : os = .sl i :: os' := by
        unfold slotOf at es
        split at es
        · cases es; rfl
        · cases es
      subst eos
      simp only [es, Option.bind_some] at e
      cases e0 : ownD ρ1[i]? with
      | none => simp [e0] at e
      | some ds0 =>
        simp only [e0, Option.bind_some] at e
        cases eb : ders ρ1 os' with
        | none => simp [eb] at e
        | some ds =>
          simp only [eb, Option.bind_some] at e
          split at e
          · rename_i hc
            cases er : φ (.lst ds0 :: ds) with
            | none => simp [er] at e
            | some r =>
              obtain ⟨r, out⟩ := r
              simp only [er, Option.bind_some] at e
              cases e
              refine ⟨C, O, ρ, _, ρ1, ek, F, ea, fun vs H1 O1 F1 w1 r1 => ?_⟩
              show spF1 K n φ (vs ++ []) H1 Q E
              rw [List.append_nil]
              cases r1 with
              | cons r0 rs =>
                rename_i v0 vr
                have r0 : σ[i]? = some (some v0) := r0
                have hlen : (v0 :: vr).length = n := by
                  have := hn _ _ er
                  have l2 := (ders_lent F1 rs eb).len
                  simp at this ⊢; omega
                obtain ⟨s, hs, ow, hs2⟩ : ∃ s, ρ1[i]? = some s ∧ s.isOwn = true ∧ ∃ a xs, v0 = .ref a ∧ H1 a = some (.lst xs) ∧ Reps C.K H1 O1 ds0 xs ∧ O1 a := by
                  cases qs : ρ1[i]? with
                  | none => rw [qs] at e0; cases e0
                  | some s =>
                    rw [qs] at e0
                    have z := F1.slot i _ qs
                    cases s with
                    | un => cases e0
                    | val d => cases e0
                    | own es =>
                      cases e0
                      obtain ⟨a, xs, e1, e2, r, oa, _⟩ := z
                      rw [r0] at e1; cases e1
                      exact ⟨_, rfl, rfl, a, xs, rfl, e2, r, oa⟩
                    | bor es =>
                      cases e0
                      obtain ⟨a, xs, e1, e2, r, oa, _⟩ := z
                      rw [r0] at e1; cases e1
                      exact ⟨_, rfl, rfl, a, xs, rfl, e2, r, oa⟩
                obtain ⟨a, xs, rfl, h1, rp, oa⟩ := hs2
                refine ⟨hlen, O1, a, xs, ds0, vr, ds, r, out, rfl, er, F1.mu, oa, h1, by rw [← ek]; exact rp, by rw [← ek]; exact ders_ok F1 rs eb hc, fun v H' ys k hy hr ho => ?_⟩
                -- the heap ahead of the write
                have hX : H' = upd (fun b => if b = a then H1 a else H' b) a (.lst ys) := by
                  funext b
                  by_cases hb : b = a
                  · subst hb; rw [upd_same]; exact hy
                  · rw [upd_ne hb]; show H' b = if b = a then H1 a else H' b; rw [if_neg hb]
                have kx : ∀ b o, H1 b = some o → (fun b => if b = a then H1 a else H' b) b = some o := fun b o hb => by
                  show (if b = a then H1 a else H' b) = some o
                  by_cases hba : b = a
                  · rw [if_pos hba, ← hba]; exact hb
                  · rw [if_neg hba]; exact k b o hba hb
                have ps : ρ1[i]? = some s := hs
                have eput : putS ρ1[i]? out = s.put out := by rw [hs]; rfl
                rw [eput] at q
                have fin : ∀ {O2 : AP}, FR C O2 σ ρ1 (fun b => if b = a then H1 a else H' b) → Reps C.K H' O2 out ys → FR C O2 σ (ρ1.set i (s.put out)) H' := fun {O2} F2 ro => by
                  have z := F2.write (xs := ys) (ds := out) ps ow r0 (by rw [← hX]; exact ro)
                  rw [← hX] at z; exact z
                have fw : Fw O1 σ ρ1 H1 O1 (ρ1.set i (s.put out)) H' := by
                  refine ⟨fun b o hb n => k b o (fun z => n (z ▸ ⟨i, s, ps, ow, r0⟩)) hb, fun b hb => ?_, fun _ h => h, fun _ h => .inl h⟩
                  obtain ⟨j, t, a1, a2, a3⟩ := hb
                  by_cases hj : i = j
                  · subst hj; exact ⟨i, s, ps, ow, a3⟩
                  · rw [List.getElem?_set_ne hj] at a1; exact ⟨j, t, a1, a2, a3⟩
                cases r with
                | d x =>
                  refine q v H' O1 (fin (F1.kept kx) (by rw [ek]; exact ho)) (w1.trans fw) ?_
                  show Rep C.K _ _ _ _
                  rw [ek]; exact hr
                | nw es =>
                  obtain ⟨a', zs, ev, h0, h1', rr⟩ := hr
                  have na : a' ≠ a := fun z => by rw [z, h1] at h0; cases h0
                  have eO : (extO (.nw es) v O1) = fun b => b = a' ∨ O1 b := by
                    funext b
                    refine propext ⟨fun h => ?_, fun h => ?_⟩
                    · rcases h with h | h
                      · rw [ev] at h; cases h; exact .inl rfl
                      · exact .inr h
                    · rcases h with h | h
                      · exact .inl (by rw [ev, h])
                      · exact .inr h
                  rw [eO] at ho
                  have G := F1.grow (N := fun b => b = a') (H' := fun b => if b = a then H1 a else H' b) kx (fun p q => by rw [q]; exact h0) (fun p q => ⟨zs, by rw [q]; show (if a' = a then _ else _) = _; rw [if_neg na]; exact h1'⟩)
                  have nO : ¬ O1 a' := fun z => by
                    obtain ⟨ys, q⟩ := F1.mu a' z
                    rw [h0] at q; cases q
                  refine q v H' O1 (fin (F1.kept kx) (by rw [ek]; exact ho.less fun _ h => .inr h)) (w1.trans fw) ⟨a', zs, ev, h1', F1.h0 h0, nO, fin G (by rw [ek]; exact ho), by rw [ek]; exact rr⟩
          · cases e
end

/-! ### calls by name -/
/-- how its arguments bind where all are handed by name, the last one first -/
def KRev (K : PySem.W.Frag) (fd : FuncData) (ps : List Str) : Prop := ∀ (s : Shared) (ws : List Value), K.In s.heap → ws.length = ps.length → BindsTo s fd ⟨[], ps.reverse.zip ws⟩ (ps.zip ws.reverse)
structure Cal (P : Program) (w : World) (K : PySem.W.Frag) (mg : Str → Option Value) (base : Heap) (k : Nat) (x : Str) (ps : List Str) (sp : Sp) : Prop where
  ex : ∃ (f : Addr) (fd : FuncData), mg x = some (.ref f) ∧ PySem.W.keepIn K (.ref f) = true ∧ FnOk P w K mg base CX0 k f fd ps sp ∧ Binds K fd ps [] ∧ KRev K fd ps
/-- a def as the top leaves it -/
structure DefF (K : PySem.W.Frag) (mg : Str → Option Value) (x : Str) (st : Stmt) (ps : List Str) : Prop where
  ex : ∃ (f : Addr) (fd : FuncData), mg x = some (.ref f) ∧ PySem.W.keepIn K (.ref f) = true ∧ Fun K x x st f fd ∧ Binds K fd ps [] ∧ KRev K fd ps ∧ ∀ us : List Value, us.length = ps.length → bindArgs fd ⟨us, []⟩ = pure (ps.zip us)
theorem DefF.mk' {K : PySem.W.Frag} {mg : Str → Option Value} {h : Heap} {x : Str} {st : Stmt} {ps : List Str} {f : Addr} {oc : Value} {od an : Option Addr} {osl : Array (Option Value)} {kV doc pm cdv ct : Value} (X : K.In h) (G : h.Ns mainGlobals mg)
    (a : PySem.W.nsIn K mainGlobals x = some (some (.ref f))) (l : K.lookup f = some ⟨oc, od, .func (PySem.W.fnOf x x (defArgs st) (defBody st) (defScope st) .none kV doc pm an cdv ct), osl⟩) (c : PySem.W.codeIn K cdv x = true) (k : PySem.W.keepIn K (.ref f) = true)
    (hb : ∀ us : List Value, us.length = ps.length → bindArgs (PySem.W.fnOf x x (defArgs st) (defBody st) (defScope st) .none kV doc pm an cdv ct) ⟨us, []⟩ = pure (ps.zip us))
    (hr : ∀ us : List Value, us.length = ps.length → bindArgs (PySem.W.fnOf x x (defArgs st) (defBody st) (defScope st) .none kV doc pm an cdv ct) ⟨[], ps.reverse.zip us⟩ = pure (ps.zip us.reverse)) : DefF K mg x st ps :=
  ⟨f, _, PySem.W.mg_of X G a, k, fun_mk l c k, .all hb, fun s ws _ hl => .of_eq (hr ws hl), hb⟩
theorem DefF.cal {P : Program} {w : World} {K : PySem.W.Frag} {mg : Str → Option Value} {base : Heap} {k : Nat} {x : Str} {st : Stmt} {ps : List Str} {sp : Sp} (d : DefF K mg x st ps) (ok : ∀ (f : Addr) (fd : FuncData), Fun K x x st f fd → FnOk P w K mg base CX0 k f fd ps sp) : Cal P w K mg base k x ps sp := by
  obtain ⟨f, fd, hm, kp, F, b, kr, _⟩ := d.ex
  exact ⟨f, fd, hm, kp, ok f fd F, b, kr⟩
section
variable {X : Cx} {k n j : Nat} {x : Str} {ps : List Str} {φ : F0} {φ1 : F1} {e : Expr} {es : List Expr} {fa : FA} {p pos : Pos}
theorem d_call (c : Cal X.prog X.w X.K X.mg X.base k x ps (spF0 X.K n φ)) (hn : ∀ ds r, φ ds = some r → ds.length = n) (hr : Room j X.A) (hk : k ≤ j) (ha : PA X (e :: es) (tAr X.K fa)) (hg : Gl X x := by rfl)
    (hdb : (x == ("__debug__" : Str)) = false := by decide) (he : starEach (e :: es) X.env = (false, eval e X.env) :: starEach es X.env := by rfl) (hpl : (backTo pos (starEach es X.env)).any (·.1) = false := by rfl) :
    PE X (.Call (.Name x p) (e :: es) [] pos) (tF X.K (fCall φ fa)) := by
  obtain ⟨f, fd, hm, kp, F, b, _⟩ := c.ex
  exact (pe_call F (hr.mono hk) hg hm kp b .nil pass0 ha hdb he hpl).imp fun σ H Q h => tCallD hn h
theorem d_call1 (c : Cal X.prog X.w X.K X.mg X.base k x ps (spF1 X.K n φ1)) (hn : ∀ ds r, φ1 ds = some r → ds.length = n) (hr : Room j X.A) (hk : k ≤ j) (ha : PA X (e :: es) (tAr X.K fa)) (hg : Gl X x := by rfl)
    (hdb : (x == ("__debug__" : Str)) = false := by decide) (he : starEach (e :: es) X.env = (false, eval e X.env) :: starEach es X.env := by rfl) (hpl : (backTo pos (starEach es X.env)).any (·.1) = false := by rfl) :
    PE X (.Call (.Name x p) (e :: es) [] pos) (tF X.K (fCall1 φ1 fa)) := by
  obtain ⟨f, fd, hm, kp, F, b, _⟩ := c.ex
  exact (pe_call F (hr.mono hk) hg hm kp b .nil pass0 ha hdb he hpl).imp fun σ H Q h => tCallD1 hn h
end

/-! ### statements: what is wanted behind them -/
inductive Out where
  | nx (ρ : Ev) | rt (o : Opd) (ρ : Ev) | bk (ρ : Ev) | ct (ρ : Ev)
abbrev FS := Ev → Option Out
def Pst (C : Fc) (D : Ends) : Out → Prop
  | .nx ρ => ∀ σ H O, FR C O σ ρ H → D.nx σ H
  | .rt o ρ => ∀ v σ H O, FR C O σ ρ H → OpR C O σ ρ H v o → D.rt v H
  | .bk ρ => ∀ σ H O, FR C O σ ρ H → D.bk σ H
  | .ct ρ => ∀ σ H O, FR C O σ ρ H → D.ct σ H
def tS (K : PySem.W.Frag) (g : FS) : TS := fun D σ H => ∃ C O ρ out, C.K = K ∧ FR C O σ ρ H ∧ g ρ = some out ∧ Pst C D out
/-! a def's end -/
def rtS : Option Sl → Option Rt
  | some (.own ds) => some (.nw ds)
  | _ => none
def rtOf : Opd → Ev → Option Rt
  | .d x, _ => some (.d x)
  | .nw ds, _ => some (.nw ds)
  | .sl i, ρ => rtS ρ[i]?
def run0 (N : Nat) (g : FS) (ds : List D) : Option Rt := (g (ds.map Sl.val ++ List.replicate (N - ds.length) Sl.un)).bind fun out => match out with
  | .rt o ρ => rtOf o ρ
  | .nx _ => some (.d .non)
  | _ => none
def borD : Option Sl → Option (List D)
  | some (.bor ds) => some ds
  | _ => none
def run1 (N : Nat) (g : FS) (ds : List D) : Option (Rt × List D) := match ds with
  | .lst ds0 :: ds => (g (Sl.bor ds0 :: ds.map Sl.val ++ List.replicate (N - (ds.length + 1)) Sl.un)).bind fun out => match out with
    | .rt o ρ => (rtOf o ρ).bind fun r => (borD ρ[0]?).bind fun out => some (r, out)
    | .nx ρ => (borD ρ[0]?).bind fun out => some (.d .non, out)
    | _ => none
  | _ => none
section
variable {P : Program} {w : World} {K : PySem.W.Frag} {mg : Str → Option Value} {base : Heap}
theorem start_get {N : List Str} {vs : List V} {i : Nat} {v : V} (h : vs[i]? = some v) : (L2.start N vs)[i]? = some (some v) := by
  unfold L2.start
  have hi := (List.getElem?_eq_some_iff.mp h).1
  rw [List.getElem?_append_left (by simpa using hi), List.getElem?_map, h]; rfl
theorem rtOf_ok {C : Fc} {O : AP} {σ : L2.St} {ρ : Ev} {H : Hp} {v : V} {o : Opd} {r : Rt} (F : FR C O σ ρ H) (h : OpR C O σ ρ H v o) (e : rtOf o ρ = some r) :
    (∃ x, r = .d x ∧ Rep C.K H O x v) ∨ (∃ ds a xs, r = .nw ds ∧ v = .ref a ∧ C.H0 a = none ∧ H a = some (.lst xs) ∧ ∃ O2 : AP, O2 a ∧ (∀ b, O b → O2 b) ∧ FR C O2 σ ρ H ∧ Reps C.K H O2 ds xs) := by
  cases o with
  | d x => cases e; exact .inl ⟨x, rfl, h⟩
  | nw ds =>
    cases e
    obtain ⟨a, xs, e, h1, h0, no, G, r⟩ := h
    exact .inr ⟨ds, a, xs, rfl, e, h0, h1, _, .inl rfl, fun _ h => .inr h, G, r⟩
  | sl i =>
    obtain ⟨_, q⟩ := h
    have e : rtS ρ[i]? = some r := e
    cases e0 : ρ[i]? with
    | none => rw [e0] at e; cases e
    | some s =>
      rw [e0] at e
      cases s with
      | own ds =>
        cases e
        obtain ⟨a, xs, e1, e2, r, oa, h0⟩ := F.slot i _ e0
        rw [q] at e1; cases e1
        exact .inr ⟨ds, a, xs, rfl, rfl, h0, e2, O, oa, fun _ h => h, F, r⟩
      | _ => cases e
/-- THE RULE: a def over data, by its body -/
theorem fn_ok0 {x qual : Str} {st : Stmt} {f : Addr} {fd : FuncData} {N ps : List Str} {k : Nat} {φ : F0} {g : FS} (F : Fun K x qual st f fd) (S : FnScope N ps (defScope st)) (hφ : ∀ ds r, φ ds = some r → ds.length = ps.length ∧ run0 N.length g ds = some r)
    (body : ∀ (cdv : Value) (A : Around) (outer : List Env) (s : Shared) (H : Hp) (E : XK), Room k (A.deeper (envOfC qual (defScope st) s.heap.objs.size f cdv)) →
      PSs (cxOf CX0 P w K mg base N qual (defScope st) f cdv A outer s H E).nox (defBody st) (tS K g)) : FnOk P w K mg base CX0 (k + 1) f fd ps (spF0 K ps.length φ) := by
  refine F.ok S (fun vs H Q E h => h.1) (fun cdv A outer s H vs Q E hr h => ⟨_, body cdv A outer s H E hr, ?_⟩)
  obtain ⟨hl, O, ds, r, er, ol, rp, q⟩ := h
  obtain ⟨hlen, hrun⟩ := hφ ds r er
  have hN : ps.length ≤ N.length := by have := congrArg List.length S.pre; rw [List.length_take] at this; omega
  have rl := rp.len
  unfold run0 at hrun
  cases eg : g (ds.map Sl.val ++ List.replicate (N.length - ds.length) Sl.un) with
  | none => rw [eg] at hrun; cases hrun
  | some out =>
    rw [eg, Option.bind_some] at hrun
    have kept : ∀ {σ ρ H' O'}, FR ⟨K, H, none, O, []⟩ O' σ ρ H' → ∀ b o, H b = some o → H' b = some o := fun F b o e => F.keep b o e (by simp)
    refine ⟨⟨K, H, none, O, []⟩, O, _, out, rfl, ⟨?_, fun b o e _ => e, ol, fun _ h => h, ol, fun a h => (nomatch h), fun i s e => ?_, fun i j si sj a ei oi => ?_, fun p h => (nomatch h)⟩, eg, ?_⟩
    · unfold L2.start; simp; omega
    · by_cases hi : i < ds.length
      · rw [List.getElem?_append_left (by simpa using hi), List.getElem?_map, List.getElem?_eq_getElem hi] at e
        cases e
        obtain ⟨v, ev, rv⟩ := rp.get (List.getElem?_eq_getElem hi)
        exact ⟨v, start_get ev, rv⟩
      · rw [List.getElem?_append_right (by simpa using hi), List.getElem?_replicate] at e
        split at e
        · cases e; trivial
        · cases e
    · exfalso
      by_cases hi : i < ds.length
      · rw [List.getElem?_append_left (by simpa using hi), List.getElem?_map, List.getElem?_eq_getElem hi] at ei
        cases ei; cases oi
      · rw [List.getElem?_append_right (by simpa using hi), List.getElem?_replicate] at ei
        split at ei
        · cases ei; cases oi
        · cases ei
    · cases out with
      | nx ρ' =>
        cases hrun
        exact fun σ' H' O' F' => q .non H' (kept F') (by show Rep _ _ _ _ _; rw [Rep])
      | bk ρ' => cases hrun
      | ct ρ' => cases hrun
      | rt o ρ' =>
        refine fun v σ' H' O' F' hv => q v H' (kept F') ?_
        rcases rtOf_ok F' hv hrun with ⟨x, rfl, rx⟩ | ⟨es, a, xs, rfl, ev, h0, h1, O2, oa, s2, _, rr⟩
        · exact Rep.less (fun a h => F'.sub a h) rx
        · exact ⟨a, xs, ev, h0, h1, rr.less fun b hb => hb.elim (fun z => by rw [z]; exact oa) fun z => s2 b (F'.sub b z)⟩
theorem fn_ok1 {x qual : Str} {st : Stmt} {f : Addr} {fd : FuncData} {N ps : List Str} {k : Nat} {φ : F1} {g : FS} (F : Fun K x qual st f fd) (S : FnScope N ps (defScope st)) (hφ : ∀ ds r, φ ds = some r → ds.length = ps.length ∧ run1 N.length g ds = some r)
    (body : ∀ (cdv : Value) (A : Around) (outer : List Env) (s : Shared) (H : Hp) (E : XK), Room k (A.deeper (envOfC qual (defScope st) s.heap.objs.size f cdv)) →
      PSs (cxOf CX0 P w K mg base N qual (defScope st) f cdv A outer s H E).nox (defBody st) (tS K g)) : FnOk P w K mg base CX0 (k + 1) f fd ps (spF1 K ps.length φ) := by
  refine F.ok S (fun vs H Q E h => h.1) (fun cdv A outer s H vs Q E hr h => ⟨_, body cdv A outer s H E hr, ?_⟩)
  obtain ⟨hl, O, a, xs, ds0, vr, ds, r, out0, rfl, er, ol, oa, ha, rp0, rp, q⟩ := h
  obtain ⟨hlen, hrun⟩ := hφ _ _ er
  have hN : ps.length ≤ N.length := by have := congrArg List.length S.pre; rw [List.length_take] at this; omega
  have rl := rp.len
  unfold run1 at hrun
  simp only at hrun
  simp only [List.length_cons] at hlen hl
  cases eg : g (Sl.bor ds0 :: ds.map Sl.val ++ List.replicate (N.length - (ds.length + 1)) Sl.un) with
  | none => rw [eg] at hrun; cases hrun
  | some out =>
    rw [eg, Option.bind_some] at hrun
    have kept : ∀ {σ ρ H' O'}, FR ⟨K, H, some a, O, []⟩ O' σ ρ H' → ∀ b o, b ≠ a → H b = some o → H' b = some o := fun F b o n e => F.keep b o e (by simp; exact fun z => n z.symm)
    have bor : ∀ {σ ρ H' O' es}, FR ⟨K, H, some a, O, []⟩ O' σ ρ H' → borD ρ[0]? = some es → ∃ ys, H' a = some (.lst ys) ∧ Reps K H' O' es ys := fun {σ ρ H' O' es} F e => by
      unfold borD at e
      split at e
      · rename_i e0
        cases e
        obtain ⟨b, ys, e1, e2, r, _, eb⟩ := F.slot 0 _ e0
        cases eb
        exact ⟨ys, e2, r⟩
      · cases e
    refine ⟨⟨K, H, some a, O, []⟩, O, _, out, rfl, ⟨?_, fun b o e _ => e, ol, fun _ h => h, ol, fun b h => (by cases h; exact oa), fun i s e => ?_, fun i j si sj b ei oi ej oj qi qj => ?_, fun p h => (nomatch h)⟩, eg, ?_⟩
    · unfold L2.start; simp; omega
    · cases i with
      | zero =>
        cases e
        exact ⟨a, xs, start_get rfl, ha, rp0, oa, rfl⟩
      | succ i =>
        by_cases hi : i < ds.length
        · rw [List.getElem?_append_left (by simpa using hi), List.getElem?_cons_succ, List.getElem?_map, List.getElem?_eq_getElem hi] at e
          cases e
          obtain ⟨v, ev, rv⟩ := rp.get (List.getElem?_eq_getElem hi)
          exact ⟨v, start_get (by simpa using ev), rv⟩
        · rw [List.getElem?_append_right (by simpa using hi), List.getElem?_replicate] at e
          split at e
          · cases e; trivial
          · cases e
    · have zero : ∀ {i : Nat} {s : Sl}, (Sl.bor ds0 :: ds.map Sl.val ++ List.replicate (N.length - (ds.length + 1)) Sl.un)[i]? = some s → s.isOwn = true → i = 0 := fun {i s} e o => by
        cases i with
        | zero => rfl
        | succ i =>
          exfalso
          by_cases hi : i < ds.length
          · rw [List.getElem?_append_left (by simpa using hi), List.getElem?_cons_succ, List.getElem?_map, List.getElem?_eq_getElem hi] at e
            cases e; cases o
          · rw [List.getElem?_append_right (by simpa using hi), List.getElem?_replicate] at e
            split at e
            · cases e; cases o
            · cases e
      rw [zero ei oi, zero ej oj]
    · cases out with
      | nx ρ' =>
        simp only at hrun
        cases eb : borD ρ'[0]? with
        | none => rw [eb] at hrun; cases hrun
        | some es =>
          rw [eb, Option.bind_some] at hrun
          cases hrun
          refine fun σ' H' O' F' => ?_
          obtain ⟨ys, h1, r1⟩ := bor F' eb
          exact q .non H' ys (kept F') h1 (by show Rep _ _ _ _ _; rw [Rep]) (r1.less fun b h => F'.sub b h)
      | bk ρ' => cases hrun
      | ct ρ' => cases hrun
      | rt o ρ' =>
        simp only at hrun
        cases ert : rtOf o ρ' with
        | none => rw [ert] at hrun; cases hrun
        | some r' =>
          rw [ert, Option.bind_some] at hrun
          cases eb : borD ρ'[0]? with
          | none => rw [eb] at hrun; cases hrun
          | some es =>
            rw [eb, Option.bind_some] at hrun
            cases hrun
            refine fun v σ' H' O' F' hv => ?_
            rcases rtOf_ok F' hv ert with ⟨x, rfl, rx⟩ | ⟨es', b, zs, rfl, ev, h0, h1, O2, ob, s2, G, rr⟩
            · obtain ⟨ys, h1, r1⟩ := bor F' eb
              exact q v H' ys (kept F') h1 (Rep.less (fun a h => F'.sub a h) rx) (r1.less fun b h => F'.sub b h)
            · obtain ⟨ys, h2, r2⟩ := bor G eb
              refine q v H' ys (kept F') h2 ⟨b, zs, ev, h0, h1, rr.less fun c hc => hc.elim (fun z => by rw [z]; exact ob) fun z => s2 c (F'.sub c z)⟩ (r2.less fun c hc => ?_)
              rcases hc with hc | hc
              · rw [ev] at hc; cases hc; exact ob
              · exact s2 c (F'.sub c hc)
end
end Dv

set_option Elab.async false
set_option linter.all false
set_option maxRecDepth 100000
set_option maxHeartbeats 2000000
/-! statements over data -/
namespace Dv
open PySem PySem.Spec PyProof.Rows L2

/-! ### small statements -/
def sSeq (g h : FS) : FS := fun ρ => (g ρ).bind fun o => match o with
  | .nx ρ' => h ρ'
  | o => some o
def sSkip : FS := fun ρ => some (.nx ρ)
def sRet (f : FE) : FS := fun ρ => (f ρ).bind fun p => some (.rt p.1 p.2)
def sRetN : FS := fun ρ => some (.rt (.d .non) ρ)
def sIf (ft : FT) (g h : FS) : FS := fun ρ => (ft ρ).bind fun p => if p.1 then g p.2 else h p.2
def sBreak : FS := fun ρ => some (.bk ρ)
def sCont : FS := fun ρ => some (.ct ρ)
def sStuck : FS := fun _ => none
def sDrop (f : FE) : FS := fun ρ => (f ρ).bind fun p => some (.nx p.2)
def stV (i : Nat) : Opd × Ev → Option Out := fun p => (esc p.1 p.2).bind fun q => some (.nx (q.2.set i (.val q.1)))
def sSet (i : Nat) (f : FE) : FS := fun ρ => (f ρ).bind (stV i)
def stO (i : Nat) : Opd × Ev → Option Out
  | (.nw ds, ρ) => some (.nx (ρ.set i (.own ds)))
  | _ => none
def sOwn (i : Nat) (f : FE) : FS := fun ρ => (f ρ).bind (stO i)
section
variable {X : Cx} {K : PySem.W.Frag} {C : Fc} {O O' : AP} {σ : L2.St} {ρ ρ' : Ev} {H H' : Hp} {e : Expr} {st : Stmt} {rest sa sb : List Stmt} {f : FE} {ft : FT} {g h : FS} {pos : Pos}
theorem s_nil : PSs X [] (tS X.K sSkip) := pss_nil.imp fun D σ H h => by
  obtain ⟨C, O, ρ, o, ek, F, e, p⟩ := h
  cases e
  exact p σ H O F
theorem s_cons (h1 : PS X st (tS X.K g)) (h2 : PSs X rest (tS X.K h)) : PSs X (st :: rest) (tS X.K (sSeq g h)) := (pss_cons h1 h2).imp fun D σ H hh => by
  obtain ⟨C, O, ρ, o, ek, F, e, p⟩ := hh
  unfold sSeq at e
  cases eg : g ρ with
  | none => rw [eg] at e; cases e
  | some o1 =>
    rw [eg, Option.bind_some] at e
    refine ⟨C, O, ρ, o1, ek, F, eg, ?_⟩
    cases o1 with
    | nx ρ1 => exact fun σ1 H1 O1 F1 => ⟨C, O1, ρ1, o, ek, F1, e, p⟩
    | rt o2 ρ2 => cases e; exact p
    | bk ρ2 => cases e; exact p
    | ct ρ2 => cases e; exact p
theorem s_one (h1 : PS X st (tS X.K g)) : PSs X [st] (tS X.K g) := pss_one h1
theorem s_ret (he : PE X e (tF X.K f)) : PS X (.Return (some e) pos) (tS X.K (sRet f)) := (ps_ret he).imp fun D σ H h => by
  obtain ⟨C, O, ρ, o, ek, F, e, p⟩ := h
  unfold sRet at e
  cases ea : f ρ with
  | none => rw [ea] at e; cases e
  | some q =>
    obtain ⟨o1, ρ1⟩ := q
    rw [ea, Option.bind_some] at e
    cases e
    exact ⟨C, O, ρ, o1, ρ1, ek, F, ea, fun v H1 O1 F1 _ r => p v σ H1 O1 F1 r⟩
theorem s_retN : PS X (.Return none pos) (tS X.K sRetN) := ps_retN.imp fun D σ H h => by
  obtain ⟨C, O, ρ, o, ek, F, e, p⟩ := h
  cases e
  exact p .non σ H O F or_non
theorem s_pass : PS X (.Pass pos) (tS X.K sSkip) := ps_pass.imp fun D σ H h => by
  obtain ⟨C, O, ρ, o, ek, F, e, p⟩ := h
  cases e
  exact p σ H O F
theorem s_break : PS X (.Break pos) (tS X.K sBreak) := ps_break.imp fun D σ H h => by
  obtain ⟨C, O, ρ, o, ek, F, e, p⟩ := h
  cases e
  exact p σ H O F
theorem s_cont : PS X (.Continue pos) (tS X.K sCont) := ps_continue.imp fun D σ H h => by
  obtain ⟨C, O, ρ, o, ek, F, e, p⟩ := h
  cases e
  exact p σ H O F
theorem s_stuck : PS X st (tS X.K sStuck) := ps_never.imp fun D σ H h => by
  obtain ⟨C, O, ρ, o, ek, F, e, p⟩ := h
  cases e
theorem s_if {c : Expr} (hc : PT X c (tT X.K ft)) (ha : PSs X sa (tS X.K g)) (hb : PSs X sb (tS X.K h)) : PS X (.If c sa sb pos) (tS X.K (sIf ft g h)) := (ps_if hc ha hb).imp fun D σ H hh => by
  obtain ⟨C, O, ρ, o, ek, F, e, p⟩ := hh
  unfold sIf at e
  cases ea : ft ρ with
  | none => rw [ea] at e; cases e
  | some q =>
    obtain ⟨b, ρ1⟩ := q
    rw [ea, Option.bind_some] at e
    refine ⟨C, O, ρ, b, ρ1, ek, F, ea, fun H1 O1 F1 w => ?_⟩
    cases b with
    | true => exact ⟨C, O1, ρ1, o, ek, F1, e, p⟩
    | false => exact ⟨C, O1, ρ1, o, ek, F1, e, p⟩
theorem s_drop (he : PE X e (tF X.K f)) (hs : swapsWith e none pos.line X.env = pure false := by rfl) : PS X (.Expr e pos) (tS X.K (sDrop f)) := (ps_expr he hs).imp fun D σ H h => by
  obtain ⟨C, O, ρ, o, ek, F, e, p⟩ := h
  unfold sDrop at e
  cases ea : f ρ with
  | none => rw [ea] at e; cases e
  | some q =>
    obtain ⟨o1, ρ1⟩ := q
    rw [ea, Option.bind_some] at e
    cases e
    exact ⟨C, O, ρ, o1, ρ1, ek, F, ea, fun v H1 O1 F1 _ r => p σ H1 O1 F1⟩
theorem stV_ok {i : Nat} {o : Opd} {v : V} {out : Out} {D : Ends} (r : OpR C O σ ρ H v o) (F : FR C O σ ρ H) (e : stV i (o, ρ) = some out) (p : Pst C D out) : D.nx (σ.set i (some v)) H := by
  unfold stV at e
  simp only at e
  cases ee : esc o ρ with
  | none => rw [ee] at e; cases e
  | some q =>
    obtain ⟨x, ρ2⟩ := q
    rw [ee, Option.bind_some] at e
    cases e
    obtain ⟨O2, F2, w2, r2⟩ := esc_ok r.w F ee
    exact p _ H O2 (F2.setv r2)
theorem tSetV {i : Nat} {D : Ends} (h : tS K (sSet i f) D σ H) : tAsg (tF K f) (gName i) D σ H := by
  obtain ⟨C, O, ρ, o, ek, F, e, p⟩ := h
  unfold sSet at e
  cases ea : f ρ with
  | none => rw [ea] at e; cases e
  | some q =>
    obtain ⟨o1, ρ1⟩ := q
    rw [ea, Option.bind_some] at e
    exact ⟨C, O, ρ, o1, ρ1, ek, F, ea, fun v H1 O1 F1 _ r => stV_ok r F1 e p⟩
theorem tSetO {i : Nat} {D : Ends} (h : tS K (sOwn i f) D σ H) : tAsg (tF K f) (gName i) D σ H := by
  obtain ⟨C, O, ρ, o, ek, F, e, p⟩ := h
  unfold sOwn at e
  cases ea : f ρ with
  | none => rw [ea] at e; cases e
  | some q =>
    obtain ⟨o1, ρ1⟩ := q
    rw [ea, Option.bind_some] at e
    refine ⟨C, O, ρ, o1, ρ1, ek, F, ea, fun v H1 O1 F1 _ r => ?_⟩
    cases o1 with
    | d x => cases e
    | sl x => cases e
    | nw ds =>
      cases e
      obtain ⟨a, xs, rfl, h1, h0, no, G, rr⟩ := r
      exact p _ H1 _ (G.setown h1 rr (.inl rfl) h0 fun z => no (F1.ownO z))
theorem s_set {i : Nat} {x : Str} {pos' : Pos} (hN : X.N.Nodup) (he : PE X e (tF X.K f)) (hi : X.N[i]? = some x := by rfl) (hx : Loc X.env.scope x := by first | exact Or.inl rfl | exact Or.inr rfl) (hs : swapsWith e (some (.Name x pos')) pos.line X.env = pure false := by rfl) (hf : X.fn x = true ∨ X.env.scope.names.lookup x = some .local := by first | exact .inl rfl | exact .inr rfl | assumption) :
    PS X (.Assign [.Name x pos'] e pos) (tS X.K (sSet i f)) := (ps_set hN hi hx he hs hf).imp fun D σ H h => tSetV h
theorem s_own {i : Nat} {x : Str} {pos' : Pos} (hN : X.N.Nodup) (he : PE X e (tF X.K f)) (hi : X.N[i]? = some x := by rfl) (hx : Loc X.env.scope x := by first | exact Or.inl rfl | exact Or.inr rfl) (hs : swapsWith e (some (.Name x pos')) pos.line X.env = pure false := by rfl) (hf : X.fn x = true ∨ X.env.scope.names.lookup x = some .local := by first | exact .inl rfl | exact .inr rfl | assumption) :
    PS X (.Assign [.Name x pos'] e pos) (tS X.K (sOwn i f)) := (ps_set hN hi hx he hs hf).imp fun D σ H h => tSetO h
end

/-! ### targets -/
inductive Tg where
  | nm (i : Nat) | tp (is : List Nat)
def setAll : List Nat → List D → Ev → Option Ev
  | [], [], ρ => some ρ
  | i :: is, d :: ds, ρ => setAll is ds (ρ.set i (.val d))
  | _, _, _ => none
def bindT : Tg → D → Ev → Option Ev
  | .nm i, d, ρ => some (ρ.set i (.val d))
  | .tp is, .tup ds, ρ => setAll is ds ρ
  | .tp _, _, _ => none
def Tg.sl : Tg → List Nat
  | .nm i => [i]
  | .tp is => is
/-- only these slots were stored -/
def Only (is : List Nat) (σ σ' : L2.St) : Prop := σ'.length = σ.length ∧ ∀ j, j ∉ is → σ'[j]? = σ[j]?
def tG (K : PySem.W.Frag) (t : Tg) : TG := fun v σ H Q => ∃ C O ρ d ρ', C.K = K ∧ FR C O σ ρ H ∧ Rep K H O d v ∧ bindT t d ρ = some ρ' ∧ ∀ σ', FR C O σ' ρ' H → Only t.sl σ σ' → Q σ' H
def tGs (K : PySem.W.Frag) (is : List Nat) : TGs := fun vs σ H Q => ∃ C O ρ ds ρ', C.K = K ∧ FR C O σ ρ H ∧ Reps K H O ds vs ∧ setAll is ds ρ = some ρ' ∧ ∀ σ', FR C O σ' ρ' H → Only is σ σ' → Q σ' H
theorem _root_.L2.PG.imp {X : Cx} {e : Expr} {t t' : TG} (h : PG X e t) (i : ∀ v σ H Q, t' v σ H Q → t v σ H Q) : PG X e t' := ⟨fun pins s σ H v u Q I r q => h.run pins s σ H v u Q I r (i v σ H Q q)⟩
theorem _root_.L2.PGs.imp {X : Cx} {e : List Expr} {t t' : TGs} (h : PGs X e t) (i : ∀ v σ H Q, t' v σ H Q → t v σ H Q) : PGs X e t' := ⟨fun pins s σ H v u Q I r q => h.run pins s σ H v u Q I r (i v σ H Q q)⟩
theorem only_set {i : Nat} {x : Option V} {σ : L2.St} : Only [i] σ (σ.set i x) := ⟨by simp, fun j hj => List.getElem?_set_ne (fun e => hj (by simp [e]))⟩
section
variable {X : Cx} {e : Expr} {es : List Expr} {f : FE} {pos : Pos}
theorem g_name {i : Nat} {x : Str} (hN : X.N.Nodup) (hi : X.N[i]? = some x := by rfl) (hx : Loc X.env.scope x := by first | exact Or.inl rfl | exact Or.inr rfl) (hf : X.fn x = true ∨ X.env.scope.names.lookup x = some .local := by first | exact .inl rfl | exact .inr rfl | assumption) :
    PG X (.Name x pos) (tG X.K (.nm i)) := (pg_name hN hi hx hf).imp fun v σ H Q h => by
  obtain ⟨C, O, ρ, d, ρ', ek, F, r, e, q⟩ := h
  cases e
  exact q _ (F.setv (by rw [ek]; exact r)) only_set
theorem gs_nil : PGs X [] (tGs X.K []) := pgs_nil.imp fun vs σ H Q h => by
  obtain ⟨C, O, ρ, ds, ρ', ek, F, r, e, q⟩ := h
  cases ds with
  | nil =>
    cases e
    rw [Reps] at r
    exact ⟨r, q σ F ⟨rfl, fun _ _ => rfl⟩⟩
  | cons d ds => cases e
theorem gs_cons {i : Nat} {is : List Nat} {x : Str} (hN : X.N.Nodup) (h2 : PGs X es (tGs X.K is)) (hi : X.N[i]? = some x := by rfl) (hx : Loc X.env.scope x := by first | exact Or.inl rfl | exact Or.inr rfl) (hf : X.fn x = true ∨ X.env.scope.names.lookup x = some .local := by first | exact .inl rfl | exact .inr rfl | assumption)
    (hs : (assignEach (.Name x pos :: es) X.env).map (·.2) = assign (.Name x pos) X.env :: (assignEach es X.env).map (·.2) := by rfl) : PGs X (.Name x pos :: es) (tGs X.K (i :: is)) := (pgs_cons (pg_name hN hi hx hf) h2 hs).imp fun vs σ H Q h => by
  obtain ⟨C, O, ρ, ds, ρ', ek, F, r, e, q⟩ := h
  cases ds with
  | nil => cases e
  | cons d ds =>
    rw [Reps] at r
    obtain ⟨v, rs, rfl, r1, r2⟩ := r
    refine ⟨v, rs, rfl, C, O, ρ.set i (.val d), ds, ρ', ek, F.setv (by rw [ek]; exact r1), r2, e, fun σ' F' o => q σ' F' ⟨o.1.trans (by simp), fun j hj => ?_⟩⟩
    simp only [List.mem_cons, not_or] at hj
    rw [o.2 j hj.2, List.getElem?_set_ne (fun z => hj.1 z.symm)]
theorem setAll_len : ∀ {is : List Nat} {ds : List D} {ρ ρ' : Ev}, setAll is ds ρ = some ρ' → ds.length = is.length
  | [], [], _, _, _ => rfl
  | [], _ :: _, _, _, h => by cases h
  | _ :: _, [], _, _, h => by cases h
  | _ :: _, _ :: _, _, _, h => congrArg (· + 1) (setAll_len h)
theorem g_tup {k : Nat} {is : List Nat} (hc : X.calm = true) (h : PGs X es (tGs X.K is)) (hn : (assignEach es X.env).length = is.length := by rfl) (hst : (assignEach es X.env).findIdx? (·.1) = none := by rfl) : PG X (.Tuple es k pos) (tG X.K (.tp is)) :=
  (pg_tup hc h hn hst).imp fun v σ H Q h => by
    obtain ⟨C, O, ρ, d, ρ', ek, F, r, e, q⟩ := h
    cases d <;> try (cases e; done)
    rename_i ds
    obtain ⟨a, xs, rfl, hs, rr⟩ := rp_tup r
    exact ⟨a, xs, rfl, hs, by rw [← rr.len]; exact setAll_len e, C, O, ρ, ds, ρ', ek, F, rr, e, q⟩
/-- a, b, .. = a tuple -/
def stT (t : Tg) : Opd × Ev → Option Out := fun p => (esc p.1 p.2).bind fun q => (bindT t q.1 q.2).bind fun ρ => some (.nx ρ)
def sUnp (t : Tg) (f : FE) : FS := fun ρ => (f ρ).bind (stT t)
theorem s_unp {tg : Expr} {t : Tg} (he : PE X e (tF X.K f)) (hg : PG X tg (tG X.K t)) (hs : swapsWithSole [tg] e pos.line X.env = pure false := by rfl) (hw : swappedStores [tg] e X.env = pure none := by rfl)
    (h1 : (assignEach [tg] X.env).map (·.2) = [assign tg X.env] := by rfl) : PS X (.Assign [tg] e pos) (tS X.K (sUnp t f)) := (ps_asg he hg hs hw h1).imp fun D σ H h => by
  obtain ⟨C, O, ρ, o, ek, F, e, p⟩ := h
  unfold sUnp at e
  cases ea : f ρ with
  | none => rw [ea] at e; cases e
  | some q =>
    obtain ⟨o1, ρ1⟩ := q
    rw [ea, Option.bind_some] at e
    unfold stT at e
    simp only at e
    cases ee : esc o1 ρ1 with
    | none => rw [ee] at e; cases e
    | some q =>
      obtain ⟨x, ρ2⟩ := q
      rw [ee, Option.bind_some] at e
      simp only at e
      cases eb : bindT t x ρ2 with
      | none => rw [eb] at e; cases e
      | some ρ3 =>
        rw [eb, Option.bind_some] at e
        cases e
        refine ⟨C, O, ρ, o1, ρ1, ek, F, ea, fun v H1 O1 F1 w r => ?_⟩
        obtain ⟨O2, F2, w2, r2⟩ := esc_ok r.w F1 ee
        exact ⟨C, O2, ρ2, x, ρ3, ek, F2, by rw [← ek]; exact r2, eb, fun σ' F' _ => p σ' H1 O2 F'⟩
end

/-! ### several plain names at once: a, b = x, y -/
structure PendA (C : Fc) (O : AP) (σ : L2.St) (ρ : Ev) (H : Hp) (a : Addr) (ds : List D) : Prop where
  ex : ∃ xs, H a = some (.lst xs) ∧ Reps C.K H O ds xs
  h0 : C.H0 a = none
  o : O a
  no : ¬ OwnA σ ρ a
inductive OpPs (C : Fc) (O : AP) (σ : L2.St) (ρ : Ev) (H : Hp) : List V → List Opd → List Addr → Prop
  | nil : OpPs C O σ ρ H [] [] []
  | val {v : V} {o : Opd} {vs : List V} {os : List Opd} {N : List Addr} : OpW C O σ H v o → (∀ ds, o ≠ .nw ds) → OpPs C O σ ρ H vs os N → OpPs C O σ ρ H (v :: vs) (o :: os) N
  | new {a : Addr} {ds : List D} {vs : List V} {os : List Opd} {N : List Addr} : PendA C O σ ρ H a ds → a ∉ N → OpPs C O σ ρ H vs os N → OpPs C O σ ρ H (.ref a :: vs) (.nw ds :: os) (a :: N)
/-- as Fw, but any addresses may be kept out besides -/
structure Fh (O : AP) (σ : L2.St) (ρ : Ev) (H : Hp) (O' : AP) (ρ' : Ev) (H' : Hp) : Prop where
  kp : ∀ b o, H b = some o → ¬ OwnA σ ρ b → H' b = some o
  own : ∀ b, OwnA σ ρ' b → OwnA σ ρ b
  stay : ∀ a, O a → O' a ∨ OwnA σ ρ a
section
variable {X : Cx} {K : PySem.W.Frag} {C : Fc} {O O' O2 : AP} {σ : L2.St} {ρ ρ' ρ2 : Ev} {H H' H2 : Hp}
theorem Fh.trans (a : Fh O σ ρ H O' ρ' H') (b : Fh O' σ ρ' H' O2 ρ2 H2) : Fh O σ ρ H O2 ρ2 H2 :=
  ⟨fun c o h n => b.kp c o (a.kp c o h n) fun z => n (a.own c z), fun c h => a.own c (b.own c h), fun c h => (a.stay c h).elim (fun z => (b.stay c z).imp id (a.own c)) .inr⟩
/-- the values, evaluated one behind another; new lists kept out of all trees -/
def tAp (K : PySem.W.Frag) (f : FA) : TA := fun σ H Q => ∃ C O ρ os ρ', C.K = K ∧ FR C O σ ρ H ∧ f ρ = some (os, ρ') ∧ ∀ vs H' O' N, FR C O' σ ρ' H' → Fh O σ ρ H O' ρ' H' → OpPs C O' σ ρ' H' vs os N → (∀ a ∈ N, O a → OwnA σ ρ a) → Q vs H'
theorem ap_nil : PA X [] (tAp X.K aNil) := pa_nil.imp fun σ H Q h => by
  obtain ⟨C, O, ρ, o, ρ', ek, F, e, q⟩ := h
  cases e
  exact q [] H O [] F ⟨fun _ _ h _ => h, fun _ h => h, fun _ h => .inl h⟩ .nil fun _ h => nomatch h
theorem reps_zip : ∀ {ds : List D} {xs : List V}, Reps K H O ds xs ↔ ds.length = xs.length ∧ ∀ p, p ∈ ds.zip xs → Rep K H O p.1 p.2
  | [], [] => by rw [Reps]; simp
  | [], x :: xs => by rw [Reps]; simp
  | d :: ds, [] => by rw [Reps]; simp
  | d :: ds, x :: xs => by
    rw [Reps]
    constructor
    · rintro ⟨v, r, e, h1, h2⟩
      cases e
      obtain ⟨l, z⟩ := reps_zip.mp h2
      refine ⟨by simp [l], fun p hp => ?_⟩
      rw [List.zip_cons_cons, List.mem_cons] at hp
      rcases hp with rfl | hp
      · exact h1
      · exact z p hp
    · rintro ⟨l, z⟩
      refine ⟨x, xs, rfl, z (d, x) (by simp), reps_zip.mpr ⟨by simpa using l, fun p hp => z p (by rw [List.zip_cons_cons]; exact List.mem_cons_of_mem _ hp)⟩⟩
theorem OpPs.drop {G : List (D × V)} {vs : List V} {os : List Opd} {N : List Addr} (p : OpPs { C with G := G } O σ ρ H vs os N) : OpPs C O σ ρ H vs os N := by
  induction p with
  | nil => exact .nil
  | val h n _ ih => exact .val h n ih
  | new h n _ ih => exact .new ⟨h.ex, h.h0, h.o, h.no⟩ n ih
theorem ap_cons {e : Expr} {es : List Expr} {f : FE} {g : FA} (ha : PE X e (tF X.K f)) (hr : PA X es (tAp X.K g)) (hs : starEach (e :: es) X.env = (false, eval e X.env) :: starEach es X.env := by rfl) : PA X (e :: es) (tAp X.K (aCons f g)) := (pa_cons ha hr hs).imp fun σ H Q h => by
  obtain ⟨C, O, ρ, o, ρ', ek, F, e, q⟩ := h
  unfold aCons at e
  cases ea : f ρ with
  | none => rw [ea] at e; cases e
  | some p =>
    obtain ⟨o1, ρ1⟩ := p
    rw [ea, Option.bind_some] at e
    cases eb : g ρ1 with
    | none => simp only [eb] at e; cases e
    | some p2 =>
      obtain ⟨os, ρ2⟩ := p2
      simp only [eb, Option.bind_some] at e
      cases e
      refine ⟨C, O, ρ, o1, ρ1, ek, F, ea, fun v H1 O1 F1 w r => ?_⟩
      have wh : Fh O σ ρ H O1 ρ1 H1 := ⟨w.kp, w.own, w.stay⟩
      -- a value: held
      have val : (∀ ds, o1 ≠ .nw ds) → OpW C O1 σ H1 v o1 → ∀ G, (∀ p, p ∈ G → Rep C.K H1 O1 p.1 p.2) → (∀ H2 O2, FR { C with G := G ++ C.G } O2 σ ρ' H2 → OpW C O2 σ H2 v o1) → tAp X.K g σ H1 fun xs H2 => Q (v :: xs) H2 := fun hne hw G hG hk => by
        refine ⟨{ C with G := G ++ C.G }, O1, ρ1, os, ρ', ek, F1.hold (fun p hp => (List.mem_append.mp hp).elim (hG p) (F1.held p)), eb, fun vs H2 O2 N F2 w2 p2 hn => ?_⟩
        refine q (v :: vs) H2 O2 N (F2.hold (G := C.G) fun p hp => F2.held p (List.mem_append_right _ hp)) (wh.trans w2) (.val (hk H2 O2 F2) hne p2.drop) fun a ha oa => ?_
        rcases w.stay a oa with z | z
        · exact w.own a (hn a ha z)
        · exact z
      cases o1 with
      | d x => exact val (fun _ h => nomatch h) r [(x, v)] (fun p hp => by rw [List.mem_singleton] at hp; rw [hp]; exact r) fun H2 O2 F2 => F2.held (x, v) (List.mem_append_left _ (by simp))
      | sl i => exact val (fun _ h => nomatch h) r.w [] (fun p hp => nomatch hp) fun H2 O2 F2 => r.2
      | nw ds =>
        obtain ⟨a, xs, rfl, h1, h0, no, G, rr⟩ := r
        obtain ⟨l, z⟩ := reps_zip.mp rr
        have nown : ¬ OwnA σ ρ1 a := fun z => no (F1.ownO z)
        refine ⟨{ C with G := ds.zip xs ++ C.G }, (fun b => b = a ∨ O1 b), ρ1, os, ρ', ek, G.hold (fun p hp => (List.mem_append.mp hp).elim (z p) (G.held p)), eb, fun vs H2 O2 N F2 w2 p2 hn => ?_⟩
        have wx : Fh O σ ρ H (fun b => b = a ∨ O1 b) ρ1 H1 := ⟨w.kp, w.own, fun b hb => (w.stay b hb).imp .inr id⟩
        refine q (.ref a :: vs) H2 O2 (a :: N) (F2.hold (G := C.G) fun p hp => F2.held p (List.mem_append_right _ hp)) (wx.trans w2) (.new ⟨⟨xs, w2.kp a _ h1 nown, reps_zip.mpr ⟨l, fun p hp => F2.held p (List.mem_append_left _ hp)⟩⟩, h0, ?_, fun z => nown (w2.own a z)⟩ ?_ p2.drop) fun b hb ob => ?_
        · exact (w2.stay a (.inl rfl)).elim id fun z => absurd z nown
        · exact fun z => nown (hn a z (.inl rfl))
        · rcases List.mem_cons.mp hb with rfl | hb
          · exact (w.stay b ob).elim (fun z => absurd z no) id
          · rcases w.stay b ob with z | z
            · exact w.own b (hn b hb (.inr z))
            · exact z
/-- stores, one behind another: (slot, its own list) -/
def stP : List (Nat × Bool) → List Opd → Ev → Option Ev
  | [], [], ρ => some ρ
  | (i, true) :: is, .nw ds :: os, ρ => stP is os (ρ.set i (.own ds))
  | (_, true) :: _, _, _ => none
  | (i, false) :: is, .d x :: os, ρ => stP is os (ρ.set i (.val x))
  | _, _, _ => none
def setsP : List (Nat × Bool) → List V → L2.St → L2.St
  | (i, _) :: is, v :: vs, σ => setsP is vs (σ.set i (some v))
  | _, _, σ => σ
theorem own_setv {i : Nat} {s : Sl} {v : V} {b : Addr} (hs : s.isOwn = false) (hl : ρ.length = σ.length) (h : OwnA (σ.set i (some v)) (ρ.set i s) b) : OwnA σ ρ b := by
  obtain ⟨j, t, a1, a2, a3⟩ := h
  by_cases hj : i = j
  · subst hj
    have hi : i < ρ.length := by
      have := (List.getElem?_eq_some_iff.mp a1).1
      simpa using this
    rw [List.getElem?_set_self hi] at a1
    cases a1; rw [hs] at a2; cases a2
  · rw [List.getElem?_set_ne hj] at a1 a3; exact ⟨j, t, a1, a2, a3⟩
theorem own_seto {i : Nat} {ds : List D} {a b : Addr} (hl : ρ.length = σ.length) (h : OwnA (σ.set i (some (.ref a))) (ρ.set i (.own ds)) b) : b = a ∨ OwnA σ ρ b := by
  obtain ⟨j, t, a1, a2, a3⟩ := h
  by_cases hj : i = j
  · subst hj
    have hi : i < σ.length := by
      have := (List.getElem?_eq_some_iff.mp a3).1
      simpa using this
    rw [List.getElem?_set_self hi] at a3
    cases a3; exact .inl rfl
  · rw [List.getElem?_set_ne hj] at a1 a3; exact .inr ⟨j, t, a1, a2, a3⟩
theorem OpPs.step {vs : List V} {os : List Opd} {N : List Addr} {σ' : L2.St} (p : OpPs C O σ ρ H vs os N) (hno : ∀ o ∈ os, notSl o = true) (h : ∀ b ∈ N, OwnA σ' ρ' b → OwnA σ ρ b) : OpPs C O σ' ρ' H vs os N := by
  induction p with
  | nil => exact .nil
  | val hw n _ ih =>
    rename_i v o vs os N _
    refine .val ?_ n (ih (fun o ho => hno o (List.mem_cons_of_mem _ ho)) h)
    cases o with
    | d x => exact hw
    | nw ds => exact hw
    | sl i => exact absurd (hno (.sl i) List.mem_cons_self) (by simp [notSl])
  | new hp n _ ih => exact .new ⟨hp.ex, hp.h0, hp.o, fun z => hp.no (h _ List.mem_cons_self z)⟩ n (ih (fun o ho => hno o (List.mem_cons_of_mem _ ho)) fun b hb => h b (List.mem_cons_of_mem _ hb))
theorem stP_no : ∀ {is : List (Nat × Bool)} {os : List Opd} {ρ ρ' : Ev}, stP is os ρ = some ρ' → ∀ o ∈ os, notSl o = true
  | [], [], _, _, _ => fun _ h => nomatch h
  | [], _ :: _, _, _, h => by simp [stP] at h
  | (i, true) :: is, [], _, _, h => by simp [stP] at h
  | (i, false) :: is, [], _, _, h => by simp [stP] at h
  | (i, true) :: is, .nw ds :: os, ρ, ρ', h => fun o ho => by
    rcases List.mem_cons.mp ho with rfl | ho
    · rfl
    · exact stP_no (is := is) h o ho
  | (i, true) :: is, .d _ :: os, ρ, ρ', h => by simp [stP] at h
  | (i, true) :: is, .sl _ :: os, ρ, ρ', h => by simp [stP] at h
  | (i, false) :: is, .nw _ :: os, _, _, h => by simp [stP] at h
  | (i, false) :: is, .d _ :: os, ρ, ρ', h => fun o ho => by
    rcases List.mem_cons.mp ho with rfl | ho
    · rfl
    · exact stP_no (is := is) h o ho
  | (i, false) :: is, .sl _ :: os, ρ, ρ', h => by simp [stP] at h
theorem stP_ok : ∀ {is : List (Nat × Bool)} {os : List Opd} {vs : List V} {N : List Addr} {σ : L2.St} {ρ ρ' : Ev}, FR C O σ ρ H → OpPs C O σ ρ H vs os N → stP is os ρ = some ρ' → FR C O (setsP is vs σ) ρ' H
  | [], [], vs, N, σ, ρ, ρ', F, p, e => by cases p; cases e; exact F
  | [], _ :: _, _, _, _, _, _, _, _, h => by simp [stP] at h
  | (i, true) :: is, [], _, _, _, _, _, _, _, h => by simp [stP] at h
  | (i, false) :: is, [], _, _, _, _, _, _, _, h => by simp [stP] at h
  | (i, true) :: is, .nw ds :: os, vs, N, σ, ρ, ρ', F, p, e => by
    have e : stP is os (ρ.set i (.own ds)) = some ρ' := e
    cases p with
    | val _ n _ => exact absurd rfl (n ds)
    | new hp n pr =>
      rename_i a vs N
      obtain ⟨xs, h1, rr⟩ := hp.ex
      refine stP_ok (is := is) (F.setown (i := i) h1 rr hp.o hp.h0 hp.no) (pr.step (stP_no e) fun b hb z => ?_) e
      rcases own_seto F.len z with z | z
      · exact absurd (z ▸ hb) n
      · exact z
  | (i, true) :: is, .d _ :: os, _, _, _, _, _, _, _, h => by simp [stP] at h
  | (i, true) :: is, .sl _ :: os, _, _, _, _, _, _, _, h => by simp [stP] at h
  | (i, false) :: is, .nw _ :: os, _, _, _, _, _, _, _, h => by simp [stP] at h
  | (i, false) :: is, .d x :: os, vs, N, σ, ρ, ρ', F, p, e => by
    have e : stP is os (ρ.set i (.val x)) = some ρ' := e
    cases p with
    | val hw n pr =>
      exact stP_ok (is := is) (F.setv (i := i) hw) (pr.step (stP_no e) fun b hb z => own_setv rfl F.len z) e
  | (i, false) :: is, .sl _ :: os, _, _, _, _, _, _, _, h => by simp [stP] at h

def sPar (is : List (Nat × Bool)) (fa : FA) : FS := fun ρ => (fa ρ).bind fun p => (stP is p.1 p.2).bind fun ρ' => some (.nx ρ')
theorem OpPs.len {vs : List V} {os : List Opd} {N : List Addr} (p : OpPs C O σ ρ H vs os N) : vs.length = os.length := by
  induction p with
  | nil => rfl
  | val _ _ _ ih => exact congrArg (· + 1) ih
  | new _ _ _ ih => exact congrArg (· + 1) ih
theorem stP_len : ∀ {is : List (Nat × Bool)} {os : List Opd} {ρ ρ' : Ev}, stP is os ρ = some ρ' → os.length = is.length
  | [], [], _, _, _ => rfl
  | [], _ :: _, _, _, h => by simp [stP] at h
  | (_, b) :: is, [], _, _, h => by cases b <;> simp [stP] at h
  | (i, b) :: is, o :: os, ρ, ρ', h => by
    cases b <;> cases o <;> first | (simp [stP] at h; done) | exact congrArg (· + 1) (stP_len (is := is) h)
theorem sPar_ok {is : List (Nat × Bool)} {fa : FA} {D : Ends} (h : tS K (sPar is fa) D σ H) : tAp K fa σ H fun vs H1 => vs.length = is.length ∧ D.nx (setsP is vs σ) H1 := by
  obtain ⟨C, O, ρ, o, ek, F, e, p⟩ := h
  unfold sPar at e
  cases ea : fa ρ with
  | none => rw [ea] at e; cases e
  | some q =>
    obtain ⟨os, ρ1⟩ := q
    rw [ea, Option.bind_some] at e
    cases eb : stP is os ρ1 with
    | none => simp [eb] at e
    | some ρ2 =>
      simp only [eb, Option.bind_some] at e
      cases e
      exact ⟨C, O, ρ, os, ρ1, ek, F, ea, fun vs H1 O1 N F1 w p1 hn => ⟨p1.len.trans (stP_len eb), p _ H1 O1 (stP_ok F1 p1 eb)⟩⟩
theorem tAp_mono {fa : FA} {Q Q' : List V → Hp → Prop} (h : tAp K fa σ H Q) (i : ∀ vs H, Q vs H → Q' vs H) : tAp K fa σ H Q' := by
  obtain ⟨C, O, ρ, os, ρ', ek, F, e, q⟩ := h
  exact ⟨C, O, ρ, os, ρ', ek, F, e, fun vs H' O' N F' w p hn => i _ _ (q vs H' O' N F' w p hn)⟩
theorem s_par {i j : Nat} {bi bj : Bool} {x y : Str} {a b : Expr} {fa : FA} {px py pt pos : Pos} {kt k2 pt2} (hc : X.calm = true) (hN : X.N.Nodup) (ha : PA X [a, b] (tAp X.K fa)) (hi : X.N[i]? = some x := by rfl) (hj : X.N[j]? = some y := by rfl) (hij : i ≠ j := by decide)
    (hx : X.env.scope.names.lookup x = some .local := by rfl) (hy : X.env.scope.names.lookup y = some .local := by rfl)
    (hw : swappedStores [.Tuple [.Name x px, .Name y py] kt pt] (.Tuple [a, b] k2 pt2) X.env = pure (some [x, y]) := by rfl)
    (hs : swapsWithSole [.Tuple [.Name x px, .Name y py] kt pt] (.Tuple [a, b] k2 pt2) pos.line X.env = pure false := by rfl) :
    PS X (.Assign [.Tuple [.Name x px, .Name y py] kt pt] (.Tuple [a, b] k2 pt2) pos) (tS X.K (sPar [(i, bi), (j, bj)] fa)) := (ps_par hc hN hi hj hij hx hy ha hw hs).imp fun D σ H h => tAp_mono (sPar_ok h) fun vs H1 ⟨l, q⟩ => match vs, l, q with
      | [v, w], _, q => ⟨v, w, rfl, q⟩
theorem s_par3 {i j l : Nat} {bi bj bl : Bool} {x y z : Str} {a b c : Expr} {fa : FA} {px py pz pt pos : Pos} {kt k2 pt2} (hc : X.calm = true) (hN : X.N.Nodup) (ha : PA X [a, b, c] (tAp X.K fa)) (hi : X.N[i]? = some x := by rfl) (hj : X.N[j]? = some y := by rfl) (hl : X.N[l]? = some z := by rfl) (hij : i ≠ j := by decide) (hil : i ≠ l := by decide) (hjl : j ≠ l := by decide)
    (hx : X.env.scope.names.lookup x = some .local := by rfl) (hy : X.env.scope.names.lookup y = some .local := by rfl) (hz : X.env.scope.names.lookup z = some .local := by rfl)
    (hw : swappedStores [.Tuple [.Name x px, .Name y py, .Name z pz] kt pt] (.Tuple [a, b, c] k2 pt2) X.env = pure (some [x, y, z]) := by rfl)
    (hs : swapsWithSole [.Tuple [.Name x px, .Name y py, .Name z pz] kt pt] (.Tuple [a, b, c] k2 pt2) pos.line X.env = pure false := by rfl) :
    PS X (.Assign [.Tuple [.Name x px, .Name y py, .Name z pz] kt pt] (.Tuple [a, b, c] k2 pt2) pos) (tS X.K (sPar [(i, bi), (j, bj), (l, bl)] fa)) := (ps_par3 hc hN hi hj hl hij hil hjl hx hy hz ha hw hs).imp fun D σ H h => tAp_mono (sPar_ok h) fun vs H1 ⟨l, q⟩ => match vs, l, q with
      | [u, v, w], _, q => ⟨u, v, w, rfl, q⟩
end
end Dv

set_option Elab.async false
set_option linter.all false
set_option maxRecDepth 100000
set_option maxHeartbeats 2000000
/-! lists that are changed, loops, comprehensions -/
namespace Dv
open PySem PySem.Spec PyProof.Rows L2
section
variable {X : Cx} {K : PySem.W.Frag} {C : Fc} {O O' : AP} {σ : L2.St} {ρ ρ' : Ev} {H H' : Hp} {e : Expr} {f : FE} {ft : FT} {g h : FS} {pos : Pos}
theorem ownD_ok {i : Nat} {ds : List D} (F : FR C O σ ρ H) (e : ownD ρ[i]? = some ds) : ∃ s a xs, ρ[i]? = some s ∧ s.isOwn = true ∧ σ[i]? = some (some (.ref a)) ∧ H a = some (.lst xs) ∧ Reps C.K H O ds xs ∧ O a := by
  cases q : ρ[i]? with
  | none => rw [q] at e; cases e
  | some s =>
    rw [q] at e
    have z := F.slot i _ q
    cases s with
    | un => cases e
    | val d => cases e
    | own es => cases e; obtain ⟨a, xs, e1, e2, r, o, _⟩ := z; exact ⟨_, a, xs, rfl, rfl, e1, e2, r, o⟩
    | bor es => cases e; obtain ⟨a, xs, e1, e2, r, o, _⟩ := z; exact ⟨_, a, xs, rfl, rfl, e1, e2, r, o⟩
theorem FR.put {i : Nat} {ds es : List D} {a : Addr} {ys : List V} (F : FR C O σ ρ H) (e : ownD ρ[i]? = some ds) (q : σ[i]? = some (some (.ref a))) (r : Reps C.K H O es ys) : FR C O σ (ρ.set i (putS ρ[i]? es)) (upd H a (.lst ys)) := by
  obtain ⟨s, b, xs, h1, h2, h3, h4, h5, h6⟩ := ownD_ok F e
  rw [q] at h3; cases h3
  have kp : Kep O H (upd H a (.lst ys)) := fun c u h n => by rw [upd_ne (fun z : c = a => n (by rw [z]; exact h6))]; exact h
  rw [h1]
  exact F.write h1 h2 q (r.keep kp F.mu fun _ h => h)
/-- x.append(e) -/
def apD (i : Nat) : D × Ev → Option Out := fun q => (ownD q.2[i]?).bind fun ds => if ds.length < 16777216 then some (.nx (q.2.set i (putS q.2[i]? (ds ++ [q.1])))) else none
def sApp (i : Nat) (f : FE) : FS := fun ρ => (ownD ρ[i]?).bind fun _ => (f ρ).bind fun p => (esc p.1 p.2).bind (apD i)
theorem s_app {i : Nat} {x : Str} {np ap cp : Pos} (he : PE X e (tF X.K f)) (hi : X.N[i]? = some x := by rfl) (hv : Vis X.env.scope x := by first | exact Or.inl rfl | exact Or.inr (Or.inl rfl) | exact Or.inr (Or.inr rfl)) (hd : (x == ("__debug__" : Str)) = false := by decide) (hcd : (x == ("__classdict__" : Str)) = false := by decide)
    (hst : starEach [e] X.env = (false, eval e X.env) :: starEach [] X.env := by rfl)
    (hbase : attributeBase (.Name x np) "append" X.env (eval (.Name x np) X.env) = eval (.Name x np) X.env := by rfl)
    (hfew : ((backTo cp (starEach [e] X.env)).all (fun x => !x.1) && (backToKw cp (keywordEach [] X.env)).all (fun x => x.1.isSome) && decide (([e] : List Expr).length + ([] : List Keyword).length + (if ([] : List Keyword).isEmpty then 0 else 1) < 30)) = true := by rfl)
    (hline : (ap.endLine == cp.line) = true := by rfl) (hplain : (backTo cp (starEach [] X.env)).any (·.1) = false := by rfl) (hsw : swapsWith (.Call (.Attribute (.Name x np) "append" ap) [e] [] cp) none pos.line X.env = pure false := by rfl) :
    PS X (.Expr (.Call (.Attribute (.Name x np) "append" ap) [e] [] cp) pos) (tS X.K (sApp i f)) :=
  (ps_expr (pe_bm PySem.F.plainAttrs_list PySem.F.slot_list_append PySem.F.type_list_append mt_append (pe_var hi hv hd hcd) (pa_cons he pa_nil hst) hbase hfew hline hst hplain) hsw).imp fun D σ H h => by
    obtain ⟨C, O, ρ, o, ek, F, e, p⟩ := h
    unfold sApp at e
    cases e0 : ownD ρ[i]? with
    | none => rw [e0] at e; cases e
    | some ds0 =>
      rw [e0, Option.bind_some] at e
      obtain ⟨s, a, xs, h1, h2, h3, h4, h5, h6⟩ := ownD_ok F e0
      cases ea : f ρ with
      | none => rw [ea] at e; cases e
      | some q =>
        obtain ⟨o1, ρ1⟩ := q
        rw [ea, Option.bind_some] at e
        cases ee : esc o1 ρ1 with
        | none => rw [ee] at e; cases e
        | some q =>
          obtain ⟨d, ρ2⟩ := q
          rw [ee, Option.bind_some] at e
          unfold apD at e
          simp only at e
          cases eo : ownD ρ2[i]? with
          | none => rw [eo] at e; cases e
          | some ds =>
            rw [eo, Option.bind_some] at e
            obtain ⟨hl, ez⟩ := some_if e
            cases ez
            refine ⟨.ref a, h3, .inl ⟨rfl, xs, .inl (.inl h4)⟩, C, O, ρ, o1, ρ1, ek, F, ea, fun v H1 O1 F1 w r => ?_⟩
            obtain ⟨O2, F2, w2, r2⟩ := esc_ok r.w F1 ee
            obtain ⟨s2, b, ys, k1, k2, k3, k4, k5, k6⟩ := ownD_ok F2 eo
            rw [h3] at k3; cases k3
            exact ⟨a, ys, v, rfl, rfl, k4, by rw [sizeLine_eq, ← k5.len]; exact hl, p σ _ O2 (F2.put eo h3 (k5.append (.cons r2 .nil)))⟩
/-- x.extend(e) -/
def exD (i : Nat) : D × Ev → Option Out := fun q => match q.1 with
  | .lst es => (ownD q.2[i]?).bind fun ds => if ds.length + es.length ≤ 16777216 then some (.nx (q.2.set i (putS q.2[i]? (ds ++ es)))) else none
  | _ => none
def sExt (i : Nat) (f : FE) : FS := fun ρ => (ownD ρ[i]?).bind fun _ => (f ρ).bind fun p => (esc p.1 p.2).bind (exD i)
theorem s_ext {i : Nat} {x : Str} {np ap cp : Pos} (he : PE X e (tF X.K f)) (hi : X.N[i]? = some x := by rfl) (hv : Vis X.env.scope x := by first | exact Or.inl rfl | exact Or.inr (Or.inl rfl) | exact Or.inr (Or.inr rfl)) (hd : (x == ("__debug__" : Str)) = false := by decide) (hcd : (x == ("__classdict__" : Str)) = false := by decide)
    (hst : starEach [e] X.env = (false, eval e X.env) :: starEach [] X.env := by rfl)
    (hbase : attributeBase (.Name x np) "extend" X.env (eval (.Name x np) X.env) = eval (.Name x np) X.env := by rfl)
    (hfew : ((backTo cp (starEach [e] X.env)).all (fun x => !x.1) && (backToKw cp (keywordEach [] X.env)).all (fun x => x.1.isSome) && decide (([e] : List Expr).length + ([] : List Keyword).length + (if ([] : List Keyword).isEmpty then 0 else 1) < 30)) = true := by rfl)
    (hline : (ap.endLine == cp.line) = true := by rfl) (hplain : (backTo cp (starEach [] X.env)).any (·.1) = false := by rfl) (hsw : swapsWith (.Call (.Attribute (.Name x np) "extend" ap) [e] [] cp) none pos.line X.env = pure false := by rfl) :
    PS X (.Expr (.Call (.Attribute (.Name x np) "extend" ap) [e] [] cp) pos) (tS X.K (sExt i f)) :=
  (ps_expr (pe_bm PySem.F.plainAttrs_list PySem.F.slot_list_extend PySem.F.type_list_extend mt_extend (pe_var hi hv hd hcd) (pa_cons he pa_nil hst) hbase hfew hline hst hplain) hsw).imp fun D σ H h => by
    obtain ⟨C, O, ρ, o, ek, F, e, p⟩ := h
    unfold sExt at e
    cases e0 : ownD ρ[i]? with
    | none => rw [e0] at e; cases e
    | some ds0 =>
      rw [e0, Option.bind_some] at e
      obtain ⟨s, a, xs, h1, h2, h3, h4, h5, h6⟩ := ownD_ok F e0
      cases ea : f ρ with
      | none => rw [ea] at e; cases e
      | some q =>
        obtain ⟨o1, ρ1⟩ := q
        rw [ea, Option.bind_some] at e
        cases ee : esc o1 ρ1 with
        | none => rw [ee] at e; cases e
        | some q =>
          obtain ⟨d, ρ2⟩ := q
          rw [ee, Option.bind_some] at e
          unfold exD at e
          simp only at e
          cases d <;> try (cases e; done)
          rename_i es
          simp only at e
          cases eo : ownD ρ2[i]? with
          | none => rw [eo] at e; cases e
          | some ds =>
            rw [eo, Option.bind_some] at e
            obtain ⟨hl, ez⟩ := some_if e
            cases ez
            refine ⟨.ref a, h3, .inl ⟨rfl, xs, .inl (.inl h4)⟩, C, O, ρ, o1, ρ1, ek, F, ea, fun v H1 O1 F1 w r => ?_⟩
            obtain ⟨O2, F2, w2, r2⟩ := esc_ok r.w F1 ee
            obtain ⟨s2, b, ys, k1, k2, k3, k4, k5, k6⟩ := ownD_ok F2 eo
            rw [h3] at k3; cases k3
            rw [Rep] at r2
            obtain ⟨c, zs, rfl, l1, l2, l3⟩ := r2
            exact ⟨a, c, ys, zs, rfl, rfl, k4, l1, by rw [sizeLine_eq, ← k5.len, ← l3.len]; exact hl, p σ _ O2 (F2.put eo h3 (k5.append l3))⟩
/-- x[k] = e -/
def stI (i : Nat) (d : D) : Option Int × Ev → Option Out
  | (some k, ρ) => (ownD ρ[i]?).bind fun ds => (ixN ds.length k).bind fun j => some (.nx (ρ.set i (putS ρ[i]? (ds.set j d))))
  | _ => none
def sStI (i : Nat) (fi : FP) (f : FE) : FS := fun ρ => (f ρ).bind fun p => (esc p.1 p.2).bind fun q => (ownD q.2[i]?).bind fun _ => (fi q.2).bind (stI i q.1)
theorem s_sti {i : Nat} {x : Str} {np sp : Pos} {k : Expr} {fk : FE} (he : PE X e (tF X.K f)) (hk : PE X k (tF X.K fk)) (hi : X.N[i]? = some x := by rfl) (hv : Vis X.env.scope x := by first | exact Or.inl rfl | exact Or.inr (Or.inl rfl) | exact Or.inr (Or.inr rfl)) (hd : (x == ("__debug__" : Str)) = false := by decide) (hcd : (x == ("__classdict__" : Str)) = false := by decide)
    (ha : ∀ v, assign (.Subscript (.Name x np) k sp) X.env v = (do
      let ov ← holding [v] (eval (.Name x np) X.env)
      let iv ← holding [v, ov] (eval k X.env)
      standAt sp
      holding [v, ov, iv] (setItem ov iv v)
      release [v, ov, iv] []) := by intro _; rfl)
    (hs : swapsWithSole [.Subscript (.Name x np) k sp] e pos.line X.env = pure false := by rfl) (hw : swappedStores [.Subscript (.Name x np) k sp] e X.env = pure none := by rfl)
    (h1 : (assignEach [.Subscript (.Name x np) k sp] X.env).map (·.2) = [assign (.Subscript (.Name x np) k sp) X.env] := by rfl) :
    PS X (.Assign [.Subscript (.Name x np) k sp] e pos) (tS X.K (sStI i (pInt fk) f)) := (ps_asg he (pg_sub (pe_var hi hv hd hcd) hk set_list ha) hs hw h1).imp fun D σ H h => by
    obtain ⟨C, O, ρ, o, ek, F, e, p⟩ := h
    unfold sStI at e
    cases ea : f ρ with
    | none => rw [ea] at e; cases e
    | some q =>
      obtain ⟨o1, ρ1⟩ := q
      rw [ea, Option.bind_some] at e
      cases ee : esc o1 ρ1 with
      | none => simp [ee] at e
      | some q =>
        obtain ⟨d, ρ2⟩ := q
        simp only [ee, Option.bind_some] at e
        cases e0 : ownD ρ2[i]? with
        | none => simp [e0] at e
        | some ds0 =>
          simp only [e0, Option.bind_some] at e
          cases ep : pInt fk ρ2 with
          | none => simp [ep] at e
          | some q =>
            obtain ⟨ko, ρ3⟩ := q
            simp only [ep, Option.bind_some] at e
            cases ko with
            | none => cases e
            | some kk =>
              unfold stI at e
              simp only at e
              cases eo : ownD ρ3[i]? with
              | none => simp [eo] at e
              | some ds =>
                simp only [eo, Option.bind_some] at e
                cases ej : ixN ds.length kk with
                | none => simp [ej] at e
                | some j =>
                  simp only [ej, Option.bind_some] at e
                  cases e
                  refine ⟨C, O, ρ, o1, ρ1, ek, F, ea, fun v H1 O1 F1 w r => ?_⟩
                  obtain ⟨O2, F2, w2, r2⟩ := esc_ok r.w F1 ee
                  obtain ⟨s, a, xs, h1, h2, h3, h4, h5, h6⟩ := ownD_ok F2 e0
                  refine ⟨.ref a, h3, ?_⟩
                  -- the index
                  unfold pInt at ep
                  cases ef : fk ρ2 with
                  | none => rw [ef] at ep; cases ep
                  | some q =>
                    obtain ⟨o2, ρ4⟩ := q
                    rw [ef, Option.bind_some] at ep
                    unfold asI at ep
                    split at ep
                    · cases ep
                      rename_i ki ρ5 hq
                      cases hq
                      refine ⟨C, O2, ρ2, _, _, ek, F2, ef, fun u H3 O3 F3 w3 r3 => ?_⟩
                      obtain ⟨s2, b, ys, k1, k2, k3, k4, k5, k6⟩ := ownD_ok F3 eo
                      rw [h3] at k3; cases k3
                      exact ⟨a, ys, kk, j, rfl, rp_int (K := C.K) (H := H3) (O := O3) r3, k4, by rw [← k5.len]; exact ej, p σ _ O3 (F3.put eo h3 (k5.set j (w3.rep F2 r2)))⟩
                    · cases ep
/-- x += e, ints -/
def agI (i : Nat) (op : Int → Int → Int) (x : D) : Option Int × Ev → Option Out
  | (some j, ρ) => match x with
    | .int a => some (.nx (ρ.set i (.val (.int (op a j)))))
    | _ => none
  | _ => none
def valD : Option Sl → Option D
  | some (.val d) => some d
  | _ => none
def sAug (i : Nat) (op : Int → Int → Int) (f : FE) : FS := fun ρ => (valD ρ[i]?).bind fun x => (pInt f ρ).bind (agI i op x)
theorem s_aug {op : Operator} {fo : Int → Int → Int} {i : Nat} {x : Str} {pos' : Pos} (hop : PIp X op (ipI fo)) (hN : X.N.Nodup) (he : PE X e (tF X.K f)) (hi : X.N[i]? = some x := by rfl) (hx : Loc X.env.scope x := by first | exact Or.inl rfl | exact Or.inr rfl) (hf : X.fn x = true ∨ X.env.scope.names.lookup x = some .local := by first | exact .inl rfl | exact .inr rfl | assumption) :
    PS X (.AugAssign (.Name x pos') op e pos) (tS X.K (sAug i fo f)) := (ps_aug hN hi hx he hop hf).imp fun D σ H h => by
    obtain ⟨C, O, ρ, o, ek, F, e, p⟩ := h
    unfold sAug at e
    cases e0 : ρ[i]? with
    | none => rw [e0] at e; cases e
    | some s =>
      rw [e0] at e
      cases s <;> try (cases e; done)
      rename_i d
      obtain ⟨v0, h3, r0⟩ := F.slot i _ e0
      have e : (pInt f ρ).bind (agI i fo d) = some o := e
      unfold pInt at e
      cases ef : f ρ with
      | none => rw [ef] at e; cases e
      | some q =>
        obtain ⟨o2, ρ4⟩ := q
        rw [ef, Option.bind_some] at e
        cases ea : asI (o2, ρ4) with
        | none => rw [ea] at e; cases e
        | some z =>
          rw [ea, Option.bind_some] at e
          unfold asI at ea
          split at ea
          · cases ea
            rename_i ki ρ5 hq
            cases hq
            cases d <;> try (cases e; done)
            cases e
            rename_i a
            exact ⟨v0, h3, C, O, ρ, _, _, ek, F, ef, fun u H3 O3 F3 w3 r3 => ⟨a, ki, rp_int r0, rp_int (K := C.K) (H := H3) (O := O3) r3, p _ H3 O3 (F3.setv (by rw [Rep]))⟩⟩
          · cases ea

/-! ### what is walked -/
structure Wk (K : PySem.W.Frag) (J : It) (ds : List D) (hd : List (D × V)) : Prop where
  go : ∀ i H O, i < ds.length → (∀ p ∈ hd, Rep K H O p.1 p.2) → J.go i H
  stop : ∀ H O, (∀ p ∈ hd, Rep K H O p.1 p.2) → J.stop ds.length H
  yld : ∀ i H O x H', i < ds.length → OL O H → (∀ p ∈ hd, Rep K H O p.1 p.2) → J.yld i H x H' → (H' = H ∨ ∃ p o, H p = none ∧ H' = upd H p o) ∧ ∃ d, ds[i]? = some d ∧ Rep K H' O d x
theorem one_of {K : PySem.W.Frag} {H : Hp} {O : AP} {x : D} {v : V} (r : Rep K H O x v) : ∀ p ∈ [(x, v)], Rep K H O p.1 p.2 := fun p h => by rw [List.mem_singleton.mp h]; exact r
abbrev FI := Ev → Option (List D × Ev)
def tI (K : PySem.W.Frag) (f : FI) : TI := fun σ H R => ∃ C O ρ ds ρ', C.K = K ∧ FR C O σ ρ H ∧ f ρ = some (ds, ρ') ∧ ∀ J hd H' O', FR C O' σ ρ' H' → Fw O σ ρ H O' ρ' H' → (∀ p ∈ hd, Rep K H' O' p.1 p.2) → Wk K J ds hd → R J H'
def iSeq (f : FE) : FI := fun ρ => (f ρ).bind fun p => (esc p.1 p.2).bind fun q => (items q.1).bind fun ds => some (ds, q.2)
theorem pi_or {tg : Expr} {t1 t2 : TI} (h1 : PI X tg e t1) (h2 : PI X tg e t2) : PI X tg e (fun σ H R => t1 σ H R ∨ t2 σ H R) := ⟨fun pins s σ H R I q => q.elim (h1.run pins s σ H R I) (h2.run pins s σ H R I)⟩
theorem wk_list {a : Addr} {x : D} {ds : List D} (e : items x = some ds) (h : ∀ H O, Rep K H O x (.ref a) → ∃ xs, SqL K H a xs ∧ Reps K H O ds xs) : Wk K (Itl K a) ds [(x, .ref a)] where
  go := fun i H O hi r => by
    replace r := r _ List.mem_cons_self
    obtain ⟨xs, h1, h2⟩ := h H O r
    obtain ⟨v, hv, _⟩ := h2.get (List.getElem?_eq_getElem hi)
    exact ⟨xs, v, h1, hv⟩
  stop := fun H O r => by
    replace r := r _ List.mem_cons_self
    obtain ⟨xs, h1, h2⟩ := h H O r
    exact ⟨xs, h1, by rw [h2.len]; exact Nat.le_refl _⟩
  yld := fun i H O v H' hi _ r y => by
    replace r := r _ List.mem_cons_self
    obtain ⟨xs, h1, h2⟩ := h H O r
    obtain ⟨e1, y⟩ := y
    subst e1
    refine ⟨.inl rfl, _, List.getElem?_eq_getElem hi, ?_⟩
    obtain ⟨u, hu, ru⟩ := h2.get (List.getElem?_eq_getElem hi)
    have := y xs h1
    rw [hu] at this; cases this
    exact ru
theorem wk_tup {a : Addr} {x : D} {ds : List D} (e : items x = some ds) (h : ∀ H O, Rep K H O x (.ref a) → ∃ xs, SqT K H a xs ∧ Reps K H O ds xs) : Wk K (Itt K a) ds [(x, .ref a)] where
  go := fun i H O hi r => by
    replace r := r _ List.mem_cons_self
    obtain ⟨xs, h1, h2⟩ := h H O r
    obtain ⟨v, hv, _⟩ := h2.get (List.getElem?_eq_getElem hi)
    exact ⟨xs, v, h1, hv⟩
  stop := fun H O r => by
    replace r := r _ List.mem_cons_self
    obtain ⟨xs, h1, h2⟩ := h H O r
    exact ⟨xs, h1, by rw [h2.len]; exact Nat.le_refl _⟩
  yld := fun i H O v H' hi _ r y => by
    replace r := r _ List.mem_cons_self
    obtain ⟨xs, h1, h2⟩ := h H O r
    obtain ⟨e1, y⟩ := y
    subst e1
    refine ⟨.inl rfl, _, List.getElem?_eq_getElem hi, ?_⟩
    obtain ⟨u, hu, ru⟩ := h2.get (List.getElem?_eq_getElem hi)
    have := y xs h1
    rw [hu] at this; cases this
    exact ru
theorem i_seq {tg : Expr} (he : PE X e (tF X.K f)) : PI X tg e (tI X.K (iSeq f)) := (pi_or (pi_list he) (pi_tup he)).imp fun σ H R h => by
  obtain ⟨C, O, ρ, ds, ρ', ek, F, e, q⟩ := h
  unfold iSeq at e
  cases ea : f ρ with
  | none => rw [ea] at e; cases e
  | some p =>
    obtain ⟨o1, ρ1⟩ := p
    rw [ea, Option.bind_some] at e
    cases ee : esc o1 ρ1 with
    | none => simp [ee] at e
    | some p2 =>
      obtain ⟨x, ρ2⟩ := p2
      simp only [ee, Option.bind_some] at e
      cases ei : items x with
      | none => simp [ei] at e
      | some es =>
        simp only [ei, Option.bind_some] at e
        cases e
        have key : ∀ v H1 O1, FR C O1 σ ρ1 H1 → Fw O σ ρ H O1 ρ1 H1 → OpR C O1 σ ρ1 H1 v o1 → ∃ O2, FR C O2 σ ρ' H1 ∧ Fw O σ ρ H O2 ρ' H1 ∧ Rep X.K H1 O2 x v := fun v H1 O1 F1 w r => by
          obtain ⟨O2, F2, w2, r2⟩ := esc_ok r.w F1 ee
          exact ⟨O2, F2, w.trans w2, by rw [← ek]; exact r2⟩
        cases x with
        | lst xs =>
          cases ei
          refine .inl ⟨C, O, ρ, o1, ρ1, ek, F, ea, fun v H1 O1 F1 w r => ?_⟩
          obtain ⟨O2, F2, w2, r2⟩ := key v H1 O1 F1 w r
          have z := r2
          rw [Rep] at z
          obtain ⟨a, vs, rfl, h1, h2, h3⟩ := z
          refine ⟨a, rfl, ⟨vs, .inl (.inl h1)⟩, q _ [(.lst ds, .ref a)] H1 O2 F2 w2 (one_of r2) (wk_list rfl fun H O r => ?_)⟩
          rw [Rep] at r
          obtain ⟨b, ys, eb, k1, _, k3⟩ := r
          cases eb
          exact ⟨ys, .inl (.inl k1), k3⟩
        | frl xs =>
          cases ei
          refine .inl ⟨C, O, ρ, o1, ρ1, ek, F, ea, fun v H1 O1 F1 w r => ?_⟩
          obtain ⟨O2, F2, w2, r2⟩ := key v H1 O1 F1 w r
          have z := r2
          rw [Rep] at z
          obtain ⟨a, vs, rfl, h1, h3⟩ := z
          refine ⟨a, rfl, ⟨vs, h1.sq⟩, q _ [(.frl ds, .ref a)] H1 O2 F2 w2 (one_of r2) (wk_list rfl fun H O r => ?_)⟩
          rw [Rep] at r
          obtain ⟨b, ys, eb, k1, k3⟩ := r
          cases eb
          exact ⟨ys, k1.sq, k3⟩
        | tup xs =>
          cases ei
          refine .inr ⟨C, O, ρ, o1, ρ1, ek, F, ea, fun v H1 O1 F1 w r => ?_⟩
          obtain ⟨O2, F2, w2, r2⟩ := key v H1 O1 F1 w r
          have z := r2
          rw [Rep] at z
          obtain ⟨a, vs, rfl, h1, h3⟩ := z
          refine ⟨a, rfl, ⟨vs, h1⟩, q _ [(.tup ds, .ref a)] H1 O2 F2 w2 (one_of r2) (wk_tup rfl fun H O r => ?_)⟩
          rw [Rep] at r
          obtain ⟨b, ys, eb, k1, k3⟩ := r
          cases eb
          exact ⟨ys, k1, k3⟩
        | _ => cases ei
/-- range -/
def rgD (lo : Int) (n : Nat) : List D := (List.range n).map fun i => .int (lo + (i : Nat))
theorem wk_range {lo : Int} {n : Nat} : Wk K (Itr lo n) (rgD lo n) [] where
  go := fun i H O hi _ => (by simpa [rgD] using hi : i < n)
  stop := fun H O _ => by simp [rgD, Itr]
  yld := fun i H O x H' hi _ _ y => by
    obtain ⟨e1, e2⟩ := y
    subst e1
    have hi' : i < n := by simpa [rgD] using hi
    refine ⟨.inl rfl, .int (lo + (i : Nat)), ?_, ?_⟩
    · unfold rgD; rw [List.getElem?_map, List.getElem?_range hi']; rfl
    · rw [Rep]; exact e2
def iRg1 (f : FP) : FI := fun ρ => (f ρ).bind fun p => p.1.bind fun j => if -(2 ^ 62) ≤ j ∧ j < 2 ^ 62 then some (rgD 0 j.toNat, p.2) else none
def iRg2 (f g : FP) : FI := fun ρ => (f ρ).bind fun p => (g p.2).bind fun q => p.1.bind fun i => q.1.bind fun j => if -(2 ^ 62) ≤ i ∧ i < 2 ^ 62 ∧ -(2 ^ 62) ≤ j ∧ j < 2 ^ 62 then some (rgD i (j - i).toNat, q.2) else none
theorem tPInt {Q : Option Int → Hp → Prop} (h : tP K (pInt f) σ H Q) : tF K f σ H fun v H1 => ∃ i, v = .int i ∧ Q (some i) H1 := by
  obtain ⟨C, O, ρ, i, ρ', ek, F, e, q⟩ := h
  unfold pInt at e
  cases ea : f ρ with
  | none => rw [ea] at e; cases e
  | some p =>
    rw [ea, Option.bind_some] at e
    unfold asI at e
    split at e
    · rename_i j ρ2
      cases e
      exact ⟨C, O, ρ, _, _, ek, F, ea, fun v H1 O1 F1 w r => ⟨j, rp_int (K := C.K) (H := H1) (O := O1) r, q H1 O1 F1 w⟩⟩
    · cases e
theorem i_rg1 {tg a : Expr} {p : Pos} (hm : X.mg "range" = none) (ha : PE X a (tF X.K f)) (hg : Gl X "range" := by rfl) (hs : starEach [a] X.env = [(false, eval a X.env)] := by rfl) : PI X tg (.Call (.Name "range" p) [a] [] pos) (tI X.K (iRg1 (pInt f))) :=
  (pi_range1 hg hm (pa_cons ha pa_nil hs) hs).imp fun σ H R h => by
    obtain ⟨C, O, ρ, ds, ρ', ek, F, e, q⟩ := h
    unfold iRg1 at e
    cases ea : pInt f ρ with
    | none => rw [ea] at e; cases e
    | some p =>
      obtain ⟨jo, ρ1⟩ := p
      rw [ea, Option.bind_some] at e
      cases jo with
      | none => cases e
      | some j =>
        simp only [Option.bind_some] at e
        obtain ⟨hl, ez⟩ := some_if e
        cases ez
        obtain ⟨C2, O2, ρ2, o2, ρ3, ek2, F2, ef, q2⟩ := tPInt (K := X.K) (Q := fun io H1 => ∀ j, io = some j → ∃ O1, FR C O1 σ ρ' H1 ∧ Fw O σ ρ H O1 ρ' H1 ∧ j = j) ⟨C, O, ρ, some j, ρ', ek, F, ea, fun H1 O1 F1 w => fun k hk => ⟨O1, F1, w, rfl⟩⟩
        unfold pInt at ea
        cases ef2 : f ρ with
        | none => rw [ef2] at ea; cases ea
        | some p3 =>
          rw [ef2, Option.bind_some] at ea
          unfold asI at ea
          split at ea
          · cases ea
            refine ⟨C, O, ρ, _, _, ek, F, ef2, fun v H1 O1 F1 w r => ?_⟩
            refine ⟨j, by rw [rp_int (K := C.K) (H := H1) (O := O1) r], hl.1, hl.2, q _ [] H1 O1 F1 w (fun _ h => nomatch h) wk_range⟩
          · cases ea
theorem i_rg2 {tg a b : Expr} {fb : FE} {p : Pos} (hm : X.mg "range" = none) (ha : PE X a (tF X.K f)) (hb : PE X b (tF X.K fb)) (hg : Gl X "range" := by rfl) (hs : starEach [a, b] X.env = [(false, eval a X.env), (false, eval b X.env)] := by rfl) (hs2 : starEach [b] X.env = [(false, eval b X.env)] := by rfl) :
    PI X tg (.Call (.Name "range" p) [a, b] [] pos) (tI X.K (iRg2 (pInt f) (pInt fb))) :=
  (pi_range2 hg hm (pa_cons ha (pa_cons hb pa_nil hs2) (by rw [hs, hs2])) hs hs2).imp fun σ H R h => by
    obtain ⟨C, O, ρ, ds, ρ', ek, F, e, q⟩ := h
    unfold iRg2 pInt at e
    cases ea : f ρ with
    | none => simp [ea] at e
    | some p =>
      obtain ⟨o1, ρ1⟩ := p
      simp only [ea, Option.bind_some] at e
      cases e1 : asI (o1, ρ1) with
      | none => simp [e1] at e
      | some z =>
        obtain ⟨io, ρ1'⟩ := z
        simp only [e1, Option.bind_some] at e
        unfold asI at e1
        split at e1
        · cases e1
          rename_i ii ρ9 hq
          cases hq
          cases eb : fb ρ1 with
          | none => simp [eb] at e
          | some p2 =>
            obtain ⟨o2, ρ2⟩ := p2
            simp only [eb, Option.bind_some] at e
            cases e2 : asI (o2, ρ2) with
            | none => simp [e2] at e
            | some z2 =>
              obtain ⟨jo, ρ2'⟩ := z2
              simp only [e2, Option.bind_some] at e
              unfold asI at e2
              split at e2
              · cases e2
                rename_i jj ρ8 hq2
                cases hq2
                simp only [Option.bind_some] at e
                obtain ⟨hl, ez⟩ := some_if e
                cases ez
                refine ⟨C, O, ρ, _, _, ek, F, ea, fun v H1 O1 F1 w1 r1 => ⟨C, O1, _, _, _, ek, F1, eb, fun u H2 O2 F2 w2 r2 => ?_⟩⟩
                refine ⟨ρ9, ρ8, by rw [rp_int (K := C.K) (H := H1) (O := O1) r1, rp_int (K := C.K) (H := H2) (O := O2) r2], hl, q _ [] H2 O2 F2 (w1.trans w2) (fun _ h => nomatch h) wk_range⟩
              · cases e2
        · cases e1

/-! ### for, while -/
def loopD (t : Tg) (g : FS) : List D → Ev → Option Out
  | [], ρ => some (.nx ρ)
  | d :: ds, ρ => (bindT t d ρ).bind fun ρ1 => (g ρ1).bind fun o => match o with
    | .nx ρ2 => loopD t g ds ρ2
    | .ct ρ2 => loopD t g ds ρ2
    | .bk ρ2 => some (.nx ρ2)
    | .rt o ρ2 => some (.rt o ρ2)
def sFor (fi : FI) (t : Tg) (g : FS) : FS := fun ρ => (fi ρ).bind fun p => loopD t g p.1 p.2
theorem s_for {tg iter : Expr} {body : List Stmt} {fi : FI} {t : Tg} (hc : X.calm = true) (hi : PI X tg iter (tI X.K fi)) (hg : PG X tg (tG X.K t)) (hb : PSs X body (tS X.K g)) (hp : PassesOwn (model X.prog X.w) X.A X.env X.xe := by exact PassesOwn.never)
    (hs : ∀ x, foldedSetIterable iter X.env x = pure x := by intro _; rfl) : PS X (.For tg iter body [] pos) (tS X.K (sFor fi t g)) := (ps_for hp hc hi hg hb hs).imp fun D σ H h => by
  obtain ⟨C, O, ρ, out, ek, F, e, p⟩ := h
  unfold sFor at e
  cases ei : fi ρ with
  | none => rw [ei] at e; cases e
  | some q =>
    obtain ⟨ds, ρ1⟩ := q
    rw [ei, Option.bind_some] at e
    refine ⟨C, O, ρ, ds, ρ1, ek, F, ei, fun J hd H1 O1 F1 w rh wk => ?_⟩
    have ld : ∀ {O2 σ2 ρ2 H2}, FR { C with G := hd ++ C.G } O2 σ2 ρ2 H2 → FR C O2 σ2 ρ2 H2 := fun F => F.hold (G := C.G) fun p hp => F.held p (List.mem_append_right _ hp)
    refine ⟨fun i m σ2 H2 => m = ds.length - i ∧ i ≤ ds.length ∧ ∃ O2 ρ2, FR { C with G := hd ++ C.G } O2 σ2 ρ2 H2 ∧ loopD t g (ds.drop i) ρ2 = some out, ⟨_, rfl, Nat.zero_le _, O1, ρ1, F1.hold (fun p hp => (List.mem_append.mp hp).elim (fun z => by rw [ek]; exact rh p z) (F1.held p)), e⟩, ?_⟩
    rintro i m σ2 H2 ⟨rfl, hi2, O2, ρ2, F2, e2⟩
    have rh2 : ∀ p ∈ hd, Rep X.K H2 O2 p.1 p.2 := fun p hp => by rw [← ek]; exact F2.held p (List.mem_append_left _ hp)
    by_cases hlt : i < ds.length
    · refine .inr ⟨wk.go i H2 O2 hlt rh2, fun σ3 H3 => i + 1 ≤ ds.length ∧ ∃ O3 ρ3, FR { C with G := hd ++ C.G } O3 σ3 ρ3 H3 ∧ loopD t g (ds.drop (i + 1)) ρ3 = some out, fun σ3 H3 ⟨h1, h2⟩ => ⟨ds.length - (i + 1), by omega, rfl, h1, h2⟩, fun x H3 y => ?_⟩
      obtain ⟨hH, d, hdd, rd⟩ := wk.yld i H2 O2 x H3 hlt F2.mu rh2 y
      have F3 : FR { C with G := hd ++ C.G } O2 σ2 ρ2 H3 := by
        rcases hH with rfl | ⟨p, o, hp, rfl⟩
        · exact F2
        · exact F2.laid hp
      have hdrop : ds.drop i = d :: ds.drop (i + 1) := by
        rw [List.drop_eq_getElem_cons hlt]
        congr 1
        rw [List.getElem?_eq_getElem hlt] at hdd
        exact Option.some.inj hdd
      rw [hdrop] at e2
      unfold loopD at e2
      cases eb : bindT t d ρ2 with
      | none => rw [eb] at e2; cases e2
      | some ρ3 =>
        rw [eb, Option.bind_some] at e2
        cases eg : g ρ3 with
        | none => rw [eg] at e2; cases e2
        | some o =>
          rw [eg, Option.bind_some] at e2
          refine ⟨{ C with G := hd ++ C.G }, O2, ρ2, d, ρ3, ek, F3, rd, eb, fun σ4 F4 _ => ⟨{ C with G := hd ++ C.G }, O2, ρ3, o, ek, F4, eg, ?_⟩⟩
          cases o with
          | nx ρ5 => exact fun σ5 H5 O5 F5 => ⟨hlt, O5, ρ5, F5, e2⟩
          | ct ρ5 => exact fun σ5 H5 O5 F5 => ⟨hlt, O5, ρ5, F5, e2⟩
          | bk ρ5 =>
            cases e2
            exact fun σ5 H5 O5 F5 => p σ5 H5 O5 (ld F5)
          | rt o5 ρ5 =>
            cases e2
            refine fun v σ5 H5 O5 F5 r5 => p v σ5 H5 O5 (ld F5) ?_
            cases o5 with
            | d x => exact r5
            | sl i => exact r5
            | nw es =>
              obtain ⟨a, xs, e1, e2, e3, e4, G5, e6⟩ := r5
              exact ⟨a, xs, e1, e2, e3, e4, ld G5, e6⟩
    · have : i = ds.length := by omega
      subst this
      rw [List.drop_length] at e2
      cases e2
      exact .inl ⟨wk.stop H2 O2 rh2, p σ2 H2 O2 (ld F2)⟩
def whileD (ft : FT) (g : FS) : Nat → Ev → Option Out
  | 0, _ => none
  | n + 1, ρ => (ft ρ).bind fun p => if p.1 then (g p.2).bind fun o => match o with
      | .nx ρ2 => whileD ft g n ρ2
      | .ct ρ2 => whileD ft g n ρ2
      | .bk ρ2 => some (.nx ρ2)
      | .rt o ρ2 => some (.rt o ρ2)
    else some (.nx p.2)
/-- at most so many turns as the slots tell -/
def sWhile (n : Ev → Nat) (ft : FT) (g : FS) : FS := fun ρ => whileD ft g (n ρ) ρ
theorem s_while {c : Expr} {body : List Stmt} {n : Ev → Nat} (hc : PT X c (tT X.K ft)) (hb : PSs X body (tS X.K g)) (hp : PassesOwn (model X.prog X.w) X.A X.env X.xe := by exact PassesOwn.never) : PS X (.While c body [] pos) (tS X.K (sWhile n ft g)) := (ps_while hp hc hb).imp fun D σ H h => by
  obtain ⟨C, O, ρ, out, ek, F, e, p⟩ := h
  unfold sWhile at e
  refine ⟨fun m σ2 H2 => ∃ O2 ρ2, FR C O2 σ2 ρ2 H2 ∧ whileD ft g m ρ2 = some out, ⟨n ρ, O, ρ, F, e⟩, ?_⟩
  rintro m σ2 H2 ⟨O2, ρ2, F2, e2⟩
  cases m with
  | zero => cases e2
  | succ m =>
    unfold whileD at e2
    cases ea : ft ρ2 with
    | none => rw [ea] at e2; cases e2
    | some q =>
      obtain ⟨b, ρ3⟩ := q
      rw [ea, Option.bind_some] at e2
      refine ⟨C, O2, ρ2, b, ρ3, ek, F2, ea, fun H3 O3 F3 w3 => ?_⟩
      cases b with
      | false =>
        cases e2
        exact p σ2 H3 O3 F3
      | true =>
        simp only [if_true] at e2 ⊢
        cases eg : g ρ3 with
        | none => rw [eg] at e2; cases e2
        | some o =>
          rw [eg, Option.bind_some] at e2
          refine ⟨fun σ4 H4 => ∃ O4 ρ4, FR C O4 σ4 ρ4 H4 ∧ whileD ft g m ρ4 = some out, fun σ4 H4 h => ⟨m, Nat.lt_succ_self _, h⟩, C, O3, ρ3, o, ek, F3, eg, ?_⟩
          cases o with
          | nx ρ5 => exact fun σ5 H5 O5 F5 => ⟨O5, ρ5, F5, e2⟩
          | ct ρ5 => exact fun σ5 H5 O5 F5 => ⟨O5, ρ5, F5, e2⟩
          | bk ρ5 =>
            cases e2
            exact fun σ5 H5 O5 F5 => p σ5 H5 O5 F5
          | rt o5 ρ5 =>
            cases e2
            exact fun v σ5 H5 O5 F5 r5 => p v σ5 H5 O5 F5 r5
end
end Dv

set_option Elab.async false
set_option linter.all false
set_option maxRecDepth 100000
set_option maxHeartbeats 2000000
/-! built-ins, keywords, comprehensions -/
namespace Dv
open PySem PySem.Spec PyProof.Rows L2

/-! ### built-ins of one argument, of two -/
def fB1 (g : D → Option Opd) (f : FE) : FE := fun ρ => (f ρ).bind fun p => (der p.2 p.1).bind fun x => (g x).bind fun z => some (z, p.2)
def rC1 (K : PySem.W.Frag) (g : D → Option Opd) : List V → Hp → VK → Prop := fun us H Q => ∃ u C O σ ρ x z, us = [u] ∧ C.K = K ∧ FR C O σ ρ H ∧ Vw K H O x u ∧ g x = some z ∧ ∀ w H' O', FR C O' σ ρ H' → Fw O σ ρ H O' ρ H' → OpR C O' σ ρ H' w z → Q w H'
def rC2 (K : PySem.W.Frag) (g : D → D → Option Opd) : List V → Hp → VK → Prop := fun us H Q => ∃ u v C O σ ρ x y z, us = [u, v] ∧ C.K = K ∧ FR C O σ ρ H ∧ Vw K H O x u ∧ Vw K H O y v ∧ g x y = some z ∧ ∀ w H' O', FR C O' σ ρ H' → Fw O σ ρ H O' ρ H' → OpR C O' σ ρ H' w z → Q w H'
section
variable {X : Cx} {K : PySem.W.Frag} {C : Fc} {O O' : AP} {σ : L2.St} {ρ ρ' : Ev} {H H' : Hp} {e a b : Expr} {f fa fb : FE} {pos p : Pos} {x : Str} {id T : String}
theorem tC1 {g : D → Option Opd} {Q : VK} (h : tF K (fB1 g f) σ H Q) : tCB (rC1 K g) (tCons (tF K f) tNil) σ H Q := by
  obtain ⟨C, O, ρ, o, ρ', ek, F, e, q⟩ := h
  unfold fB1 at e
  cases ea : f ρ with
  | none => rw [ea] at e; cases e
  | some p =>
    obtain ⟨o1, ρ1⟩ := p
    rw [ea, Option.bind_some] at e
    cases ex : der ρ1 o1 with
    | none => simp [ex] at e
    | some x =>
      simp only [ex, Option.bind_some] at e
      cases ez : g x with
      | none => simp [ez] at e
      | some z =>
        simp only [ez, Option.bind_some] at e
        cases e
        exact ⟨C, O, ρ, o1, _, ek, F, ea, fun u H1 O1 F1 w1 r1 => ⟨u, C, O1, σ, _, x, _, rfl, ek, F1, by rw [← ek]; exact r1.w.vw F1 ex, ez, fun w H2 O2 F2 w2 r2 => q w H2 O2 F2 (w1.trans w2) r2⟩⟩
theorem tC2 {g : D → D → Option Opd} {Q : VK} (h : tF K (fBin g fa fb) σ H Q) : tCB (rC2 K g) (tCons (tF K fa) (tCons (tF K fb) tNil)) σ H Q := by
  obtain ⟨C, O, ρ, o, ρ', ek, F, e, q⟩ := tBin h
  exact ⟨C, O, ρ, o, ρ', ek, F, e, fun u H1 O1 F1 w1 r1 => by
    obtain ⟨C2, O2, ρ2, o2, ρ3, ek2, F2, e2, q2⟩ := q u H1 O1 F1 w1 r1
    exact ⟨C2, O2, ρ2, o2, ρ3, ek2, F2, e2, fun v H2 O3 F3 w3 r3 => by
      obtain ⟨C4, O4, σ4, ρ4, x, y, z, ek4, F4, vx, vy, ez, q4⟩ := q2 v H2 O3 F3 w3 r3
      exact ⟨u, v, C4, O4, σ4, ρ4, x, y, z, rfl, ek4, F4, vx, vy, ez, q4⟩⟩⟩
theorem d_b1 {g : D → Option Opd} (hc : CallR X (.builtin id) (rC1 X.K g)) (hm : X.mg x = none) (hv : bootBuiltins x = some (.builtin id)) (ha : PE X e (tF X.K f)) (hg : Gl X x := by rfl) (hn : x ≠ "__name__" := by decide) (hdb : (x == ("__debug__" : Str)) = false := by decide)
    (he : starEach [e] X.env = (false, eval e X.env) :: starEach [] X.env := by rfl) (hpl : (backTo pos (starEach [] X.env)).any (·.1) = false := by rfl) : PE X (.Call (.Name x p) [e] [] pos) (tF X.K (fB1 g f)) :=
  (pe_callB hc hg hm hv (pa_cons ha pa_nil he) hn hdb he hpl).imp fun σ H Q h => tC1 h
theorem d_t1 {g : D → Option Opd} (hc : CallR X (.type T) (rC1 X.K g)) (hm : X.mg x = none) (hv : bootBuiltins x = some (.type T)) (ha : PE X e (tF X.K f)) (hg : Gl X x := by rfl) (hn : x ≠ "__name__" := by decide) (hdb : (x == ("__debug__" : Str)) = false := by decide)
    (he : starEach [e] X.env = (false, eval e X.env) :: starEach [] X.env := by rfl) (hpl : (backTo pos (starEach [] X.env)).any (·.1) = false := by rfl) : PE X (.Call (.Name x p) [e] [] pos) (tF X.K (fB1 g f)) :=
  (pe_callTy hc hg hm hv (pa_cons ha pa_nil he) hn hdb he hpl).imp fun σ H Q h => tC1 h
theorem d_b2 {g : D → D → Option Opd} (hc : CallR X (.builtin id) (rC2 X.K g)) (hm : X.mg x = none) (hv : bootBuiltins x = some (.builtin id)) (ha : PE X a (tF X.K fa)) (hb : PE X b (tF X.K fb)) (hg : Gl X x := by rfl) (hn : x ≠ "__name__" := by decide) (hdb : (x == ("__debug__" : Str)) = false := by decide)
    (he : starEach [a, b] X.env = (false, eval a X.env) :: starEach [b] X.env := by rfl) (he2 : starEach [b] X.env = (false, eval b X.env) :: starEach [] X.env := by rfl) (hpl : (backTo pos (starEach [b] X.env)).any (·.1) = false := by rfl) : PE X (.Call (.Name x p) [a, b] [] pos) (tF X.K (fBin g fa fb)) :=
  (pe_callB hc hg hm hv (pa_cons ha (pa_cons hb pa_nil he2) he) hn hdb he hpl).imp fun σ H Q h => tC2 h
def gLen : D → Option Opd
  | .str z => if z.length ≤ 16777216 then some (.d (.int z.length)) else none
  | x => (items x).bind fun ds => some (.d (.int ds.length))
theorem c_len : CallR X (.builtin "len") (rC1 X.K gLen) := by
  intro pins s σ' H us vs Q I r h
  obtain ⟨u, C, O, σ, ρ, x, z, rfl, ek, F, vx, ez, q⟩ := h
  unfold gLen at ez
  split at ez
  · obtain ⟨hl, e⟩ := some_if ez
    cases e
    exact call_len pins s σ' H [u] vs Q I r ⟨u, _, rfl, by rw [vw_str vx]; exact ⟨by rw [sizeLine_eq]; exact hl, rfl⟩, q _ H O F .refl or_int⟩
  · cases ei : items x with
    | none => rw [ei] at ez; cases ez
    | some ds =>
      rw [ei, Option.bind_some] at ez
      cases ez
      obtain ⟨a, xs, rfl, h1, r1⟩ := vw_items vx ei
      exact call_len_seq pins s σ' H [.ref a] vs Q I r ⟨a, xs, rfl, h1, by rw [← r1.len]; exact q _ H O F .refl or_int⟩
def gInt : D → Option Opd
  | .int i => some (.d (.int i))
  | .bl b => some (.d (.int (if b then 1 else 0)))
  | _ => none
theorem c_int : CallR X (.type "int") (rC1 X.K gInt) := by
  intro pins s σ' H us vs Q I r h
  obtain ⟨u, C, O, σ, ρ, x, z, rfl, ek, F, vx, ez, q⟩ := h
  cases x <;> try (simp [gInt] at ez; done)
  · cases ez
    exact call_int1 pins s σ' H [u] vs Q I r (.inr ⟨_, by rw [vw_bl vx], q _ H O F .refl or_int⟩)
  · cases ez
    exact call_int1 pins s σ' H [u] vs Q I r (.inl ⟨_, by rw [vw_int vx], q _ H O F .refl or_int⟩)
def gAbs : D → Option Opd
  | .int i => some (.d (.int (if i < 0 then -i else i)))
  | _ => none
theorem c_abs : CallR X (.builtin "abs") (rC1 X.K gAbs) := by
  intro pins s σ' H us vs Q I r h
  obtain ⟨u, C, O, σ, ρ, x, z, rfl, ek, F, vx, ez, q⟩ := h
  cases x <;> try (simp [gAbs] at ez; done)
  cases ez
  exact call_abs pins s σ' H [u] vs Q I r ⟨_, by rw [vw_int vx], q _ H O F .refl or_int⟩
def gMax : D → D → Option Opd
  | .int i, .int j => some (.d (.int (if j > i then j else i)))
  | _, _ => none
def gMin : D → D → Option Opd
  | .int i, .int j => some (.d (.int (if j < i then j else i)))
  | _, _ => none
theorem c_max (hc : X.calm = true) : CallR X (.builtin "max") (rC2 X.K gMax) := by
  intro pins s σ' H us vs Q I r h
  obtain ⟨u, v, C, O, σ, ρ, x, y, z, rfl, ek, F, vx, vy, ez, q⟩ := h
  cases x <;> cases y <;> try (simp [gMax] at ez; done)
  cases ez
  exact call_max2 hc pins s σ' H [u, v] vs Q I r ⟨_, _, by rw [vw_int vx, vw_int vy], q _ H O F .refl or_int⟩
theorem c_min (hc : X.calm = true) : CallR X (.builtin "min") (rC2 X.K gMin) := by
  intro pins s σ' H us vs Q I r h
  obtain ⟨u, v, C, O, σ, ρ, x, y, z, rfl, ek, F, vx, vy, ez, q⟩ := h
  cases x <;> cases y <;> try (simp [gMin] at ez; done)
  cases ez
  exact call_min2 hc pins s σ' H [u, v] vs Q I r ⟨_, _, by rw [vw_int vx, vw_int vy], q _ H O F .refl or_int⟩
def gTuple : D → Option Opd
  | .tup ds => some (.d (.tup ds))
  | .lst ds => some (.d (.tup ds))
  | .frl ds => some (.d (.tup ds))
  | _ => none
theorem c_tuple : CallR X (.type "tuple") (rC1 X.K gTuple) := by
  intro pins s σ' H us vs Q I r h
  obtain ⟨u, C, O, σ, ρ, x, z, rfl, ek, F, vx, ez, q⟩ := h
  have lst : ∀ {ds : List D}, z = .d (.tup ds) → ∀ {a : Addr} {xs : List V}, u = .ref a → SqL X.K H a xs → Reps X.K H O ds xs → wpAny (model X.prog X.w) X.A (call (.type "tuple") vs) (EP X pins σ' Q) X.xe s := fun {ds} ed {a xs} eu h1 r1 => by
    subst eu ed
    exact call_tuple_of pins s σ' H [.ref a] vs Q I r ⟨a, xs, rfl, .inl ⟨h1, fun l hl => q _ _ O (F.laid hl) (Fw.laid hl) (or_tup (.inl (.inl upd_same)) (by rw [ek]; exact r1.keep (fun b u e _ => updK hl b u e) F.mu fun _ h => h))⟩⟩
  cases x <;> try (simp [gTuple] at ez; done)
  · cases ez
    obtain ⟨a, xs, e1, h1, r1⟩ := vx
    exact lst rfl e1 (.inl (.inl h1)) r1
  · cases ez
    obtain ⟨a, xs, rfl, h1, r1⟩ := vw_tup vx
    exact call_tuple_of pins s σ' H [.ref a] vs Q I r ⟨a, xs, rfl, .inr ⟨h1, q _ H O F .refl (or_tup (by rw [ek]; exact h1) (by rw [ek]; exact r1))⟩⟩
  · cases ez
    obtain ⟨a, xs, e1, h1, r1⟩ := vw_frl vx
    exact lst rfl e1 h1.sq r1
def gList : D → Option Opd := fun x => (items x).bind fun ds => some (.nw ds)
theorem c_list : CallR X (.type "list") (rC1 X.K gList) := by
  intro pins s σ' H us vs Q I r h
  obtain ⟨u, C, O, σ, ρ, x, z, rfl, ek, F, vx, ez, q⟩ := h
  unfold gList at ez
  cases ei : items x with
  | none => rw [ei] at ez; cases ez
  | some ds =>
    rw [ei, Option.bind_some] at ez
    cases ez
    obtain ⟨a, xs, rfl, h1, r1⟩ := vw_items vx ei
    exact call_list_of pins s σ' H [.ref a] vs Q I r ⟨a, xs, rfl, h1, fun l hl => q _ _ O (F.laid hl) (Fw.laid hl) (OpR.new F hl (by rw [ek]; exact r1))⟩
def intsD : List D → Option (List Int)
  | [] => some []
  | .int i :: ds => (intsD ds).bind fun is => some (i :: is)
  | _ => none
theorem intsD_ok : ∀ {ds : List D} {ns : List Int} {us : List V}, Reps K H O ds us → intsD ds = some ns → us = ns.map V.int
  | [], ns, us, r, e => by rw [Reps] at r; cases e; exact r
  | d :: ds, ns, us, r, e => by
    rw [Reps] at r
    obtain ⟨v, rs, rfl, h1, h2⟩ := r
    cases d <;> try (simp [intsD] at e; done)
    rename_i i
    unfold intsD at e
    cases ei : intsD ds with
    | none => rw [ei] at e; cases e
    | some is =>
      rw [ei, Option.bind_some] at e
      cases e
      rw [List.map_cons, rp_int h1, intsD_ok h2 ei]
def gSum : D → Option Opd := fun x => (items x).bind fun ds => (intsD ds).bind fun ns => some (.d (.int ns.sum))
theorem c_sum (hc : X.calm = true) : CallR X (.builtin "sum") (rC1 X.K gSum) := by
  intro pins s σ' H us vs Q I r h
  obtain ⟨u, C, O, σ, ρ, x, z, rfl, ek, F, vx, ez, q⟩ := h
  unfold gSum at ez
  cases ei : items x with
  | none => rw [ei] at ez; cases ez
  | some ds =>
    rw [ei, Option.bind_some] at ez
    cases en : intsD ds with
    | none => rw [en] at ez; cases ez
    | some ns =>
      rw [en, Option.bind_some] at ez
      cases ez
      obtain ⟨a, xs, rfl, h1, r1⟩ := vw_items vx ei
      have ex := intsD_ok r1 en
      subst ex
      rcases h1 with h1 | h1
      · exact cr_sum hc pins s σ' H [.ref a] vs Q I r ⟨a, ns, rfl, h1, q _ H O F .refl or_int⟩
      · obtain ⟨its, rv, hl, _⟩ := I.tuple h1
        rw [Vals.ref1 r]
        have hi := rv.ints
        obtain ⟨ys, e⟩ := hi.allInts.items
        have hn : numsOf (intItems ys).toList = ns := by rw [← e]; exact hi.numsOf
        rw [nums_intItems] at hn
        have hl' : s.heap.IsTuple a its.toArray := hl
        rw [e] at hl'
        refine PySem.W.ktm_sumG (I.ok.hd hc) hl' fun h' tk t' hk => ?_
        rw [preSum_eq, List.take_of_length_le (by simp), hn]
        exact ⟨.int _, H, I.kept hk, ⟨_, rfl⟩, q _ H O F .refl or_int⟩
def blsD : List D → Option (List Bool)
  | [] => some []
  | .bl i :: ds => (blsD ds).bind fun is => some (i :: is)
  | _ => none
theorem blsD_ok : ∀ {ds : List D} {ns : List Bool} {us : List V}, Reps K H O ds us → blsD ds = some ns → us = ns.map V.bl
  | [], ns, us, r, e => by rw [Reps] at r; cases e; exact r
  | d :: ds, ns, us, r, e => by
    rw [Reps] at r
    obtain ⟨v, rs, rfl, h1, h2⟩ := r
    cases d <;> try (simp [blsD] at e; done)
    rename_i i
    unfold blsD at e
    cases ei : blsD ds with
    | none => rw [ei] at e; cases e
    | some is =>
      rw [ei, Option.bind_some] at e
      cases e
      rw [List.map_cons, rp_bl h1, blsD_ok h2 ei]
def gAll : D → Option Opd
  | .lst ds => (blsD ds).bind fun ns => some (.d (.bl (ns.all _root_.id)))
  | _ => none
theorem c_all (hc : X.calm = true) : CallR X (.builtin "all") (rC1 X.K gAll) := by
  intro pins s σ' H us vs Q I r h
  obtain ⟨u, C, O, σ, ρ, x, z, rfl, ek, F, vx, ez, q⟩ := h
  cases x <;> try (simp [gAll] at ez; done)
  rename_i ds
  have ez : ((blsD ds).bind fun ns => some (Opd.d (.bl (ns.all _root_.id)))) = some z := ez
  cases en : blsD ds with
  | none => rw [en] at ez; cases ez
  | some ns =>
    rw [en, Option.bind_some] at ez
    cases ez
    obtain ⟨a, xs, rfl, h1, r1⟩ := vx
    have ex := blsD_ok r1 en
    subst ex
    exact cr_all hc pins s σ' H [.ref a] vs Q I r ⟨a, ns, rfl, .inl (.inl h1), q _ H O F .refl or_bl⟩
/-! isinstance -/
def tyN : D → Option String
  | .non => some "NoneType"
  | .bl _ => some "bool"
  | .int _ => some "int"
  | .str _ => some "str"
  | .lst _ => some "list"
  | .frl _ => some "list"
  | .tup _ => some "tuple"
  | .dct _ _ => none
  | .op _ => none
/-- which of the types int, bool, str, list, tuple it is -/
def isiT (a b : String) : Option Bool :=
  if b = "int" then some (a == "int" || a == "bool") else if b = "bool" then some (a == "bool") else if b = "str" then some (a == "str") else if b = "list" then some (a == "list") else if b = "tuple" then some (a == "tuple") else none
theorem isiT_ok {a b : String} {r : Bool} (ha : a = "NoneType" ∨ a = "bool" ∨ a = "int" ∨ a = "str" ∨ a = "list" ∨ a = "tuple") (h : isiT a b = some r) : kitB a b = some r := by
  unfold isiT at h
  repeat' split at h
  all_goals first
    | (cases h; done)
    | (subst_vars; rcases ha with rfl | rfl | rfl | rfl | rfl | rfl <;> (rw [← h]; decide +kernel))
theorem tyX_of {x : D} {u : V} {n : String} (h : Vw K H O x u) (e : tyN x = some n) : TyX K H u (.type n) ∧ (n = "NoneType" ∨ n = "bool" ∨ n = "int" ∨ n = "str" ∨ n = "list" ∨ n = "tuple") := by
  cases x with
  | non => cases e; rw [vw_non h]; exact ⟨.base .non, by simp⟩
  | bl b => cases e; rw [vw_bl h]; exact ⟨.base (.bl b), by simp⟩
  | int b => cases e; rw [vw_int h]; exact ⟨.base (.int b), by simp⟩
  | str b => cases e; rw [vw_str h]; exact ⟨.base (.str b), by simp⟩
  | lst ds => cases e; obtain ⟨a, xs, rfl, h1, _⟩ := h; exact ⟨.base (.lst h1), by simp⟩
  | frl ds =>
    cases e
    obtain ⟨a, xs, rfl, h1, _⟩ := vw_frl h
    rcases h1 with ⟨o, h1⟩ | ⟨o, its, n, h1, h2, _⟩
    · exact ⟨.base (.frz h1), by simp⟩
    · exact ⟨.kList h1 h2, by simp⟩
  | tup ds =>
    cases e
    obtain ⟨a, xs, rfl, h1, _⟩ := vw_tup h
    rcases h1 with (h1 | ⟨o, h1⟩) | ⟨o, its, n, h1, h2, _⟩
    · exact ⟨.base (.tup h1), by simp⟩
    · exact ⟨.fTuple h1, by simp⟩
    · exact ⟨.kTuple h1 h2, by simp⟩
  | op v => cases e
  | dct _ _ => cases e
def gIsi : D → D → Option Opd
  | x, .op (.ty n) => (tyN x).bind fun a => (isiT a n).bind fun r => some (.d (.bl r))
  | _, _ => none
theorem c_isi : CallR X (.builtin "isinstance") (rC2 X.K gIsi) := by
  intro pins s σ' H us vs Q I r h
  obtain ⟨u, v, C, O, σ, ρ, x, y, z, rfl, ek, F, vx, vy, ez, q⟩ := h
  unfold gIsi at ez
  split at ez
  · rename_i n
    cases et : tyN x with
    | none => rw [et] at ez; cases ez
    | some a =>
      rw [et, Option.bind_some] at ez
      cases ei : isiT a n with
      | none => rw [ei] at ez; cases ez
      | some b =>
        rw [ei, Option.bind_some] at ez
        cases ez
        obtain ⟨ty, hm⟩ := tyX_of vx et
        have ev : v = .ty n := rp_op (K := X.K) (H := H) (O := O) vy
        subst ev
        exact call_isi pins s σ' H _ vs Q I r ⟨u, .ty n, .type a, .type n, b, rfl, .ty n, ty, kit_ty (isiT_ok hm ei), q _ H O F .refl or_bl⟩
  · cases ez
/-- isinstance(x, (T, U)), a written pair of types -/
def gIsi2 (n m : String) : D → Option Opd := fun x => (tyN x).bind fun a => (isiT a n).bind fun r => (isiT a m).bind fun r2 => some (.d (.bl (r || r2)))
theorem kit_ctx {K K' : PySem.W.Frag} {a b : String} {r : Bool} (h : kitB a b = some r) : PySem.W.kitOne K (.type a) (.type b) = some r := h
theorem d_isi2 {n m : String} {t u : Expr} {k : Nat} {tp : Pos} (hm : X.mg "isinstance" = none) (ha : PE X a (tF X.K fa)) (ht : PE X t (tC (.ty n))) (hu : PE X u (tC (.ty m))) (hg : Gl X "isinstance" := by rfl)
    (hs1 : starEach [t, u] X.env = (false, eval t X.env) :: starEach [u] X.env := by rfl) (hs2 : starEach [u] X.env = (false, eval u X.env) :: starEach [] X.env := by rfl)
    (he : starEach [a, .Tuple [t, u] k tp] X.env = (false, eval a X.env) :: starEach [.Tuple [t, u] k tp] X.env := by rfl) (he2 : starEach [.Tuple [t, u] k tp] X.env = (false, eval (.Tuple [t, u] k tp) X.env) :: starEach [] X.env := by rfl) (hpl : (backTo pos (starEach [.Tuple [t, u] k tp] X.env)).any (·.1) = false := by rfl) :
    PE X (.Call (.Name "isinstance" p) [a, .Tuple [t, u] k tp] [] pos) (tF X.K (fB1 (gIsi2 n m) fa)) :=
  (pe_callB call_isiT hg hm PyProof.Rows.boot_isinstance (pa_cons ha (pa_cons (pe_tup (pa_cons ht (pa_cons hu pa_nil hs2) hs1)) pa_nil he2) he) (by decide) (by decide) he hpl).imp fun σ H Q h => by
    obtain ⟨C, O, ρ, o, ρ', ek, F, e, q⟩ := tC1 h
    refine ⟨C, O, ρ, o, ρ', ek, F, e, fun u H1 O1 F1 w1 r1 => ?_⟩
    obtain ⟨u', C2, O2, σ2, ρ2, x, z, eu, ek2, F2, vx, ez, q2⟩ := q u H1 O1 F1 w1 r1
    cases eu
    unfold gIsi2 at ez
    cases et : tyN x with
    | none => rw [et] at ez; cases ez
    | some a =>
      rw [et, Option.bind_some] at ez
      cases ei : isiT a n with
      | none => rw [ei] at ez; cases ez
      | some b =>
        rw [ei, Option.bind_some] at ez
        cases ej : isiT a m with
        | none => rw [ej] at ez; cases ez
        | some c =>
          rw [ej, Option.bind_some] at ez
          cases ez
          obtain ⟨ty, hm⟩ := tyX_of vx et
          refine ⟨by rw [sizeLine_eq]; exact (show 2 ≤ 16777216 by decide), fun tpa htp => ?_⟩
          have G := F2.laid (o := .tup [.ty n, .ty m]) htp
          refine ⟨u, tpa, [.ty n, .ty m], .type a, [.type n, .type m], (b || c), rfl, upd_same, .cons (.ty n) (.cons (.ty m) .nil), ?_, ?_, q2 _ _ O2 G (Fw.laid htp) or_bl⟩
          · obtain ⟨ty', _⟩ := tyX_of (K := X.K) (H := upd H1 tpa (.tup [.ty n, .ty m])) (O := O2) (x := x) (u := u) (by
              cases x with
              | lst ds => obtain ⟨a', xs, e1, h1, r1⟩ := vx; exact ⟨a', xs, e1, updK htp _ _ h1, r1.keep (fun b u e _ => updK htp b u e) F2.mu fun _ h => h⟩
              | _ => exact Rep.keep (O := O2) (fun b u e _ => updK htp b u e) F2.mu (fun _ h => h) vx) et
            exact ty'
          · refine kitAny_cons (kit_ty (isiT_ok hm ei)) (fun hb => ?_) (fun hb => by rw [hb]; rfl)
            rw [hb, Bool.false_or]
            exact kitAny_cons (kit_ty (isiT_ok hm ej)) (fun hc => by rw [hc]; exact kitAny_nil) fun hc => hc
/-! list(range(..)), tuple(range(..)) -/
def fLRg (f g : FP) : FE := fun ρ => (f ρ).bind fun p => (g p.2).bind fun q => p.1.bind fun i => q.1.bind fun j => if -(2 ^ 62) ≤ i ∧ i < 2 ^ 62 ∧ -(2 ^ 62) ≤ j ∧ j < 2 ^ 62 ∧ (j - i).toNat ≤ 16777216 then some (.nw (rgD i (j - i).toNat), q.2) else none
def pZero : FP := fun ρ => some (some 0, ρ)
theorem rg_rep {i j : Int} : Reps K H O (rgD i (j - i).toNat) (rgV i j) := by
  refine Reps.of (by simp [rgD, rgV]) fun k d v h1 h2 => ?_
  unfold rgD at h1
  unfold rgV at h2
  rw [List.getElem?_map] at h1 h2
  cases hk : (List.range (j - i).toNat)[k]? with
  | none => rw [hk] at h1; cases h1
  | some n =>
    rw [hk] at h1 h2
    cases h1; cases h2
    rw [Rep]
theorem d_lrg1 {p2 pos2 : Pos} (hc : X.calm = true) (hm : X.mg "list" = none) (hr : X.mg "range" = none) (ha : PE X a (tF X.K fa)) (hg : Gl X "list" := by rfl) (hgr : Gl X "range" := by rfl) (na : starEach [a] X.env = (false, eval a X.env) :: starEach [] X.env := by rfl)
    (ne : starEach [.Call (.Name "range" p) [a] [] pos] X.env = (false, eval (.Call (.Name "range" p) [a] [] pos) X.env) :: starEach [] X.env := by rfl) : PE X (.Call (.Name "list" p2) [.Call (.Name "range" p) [a] [] pos] [] pos2) (tF X.K (fLRg pZero (pInt fa))) :=
  (pe_listRg hc hg hm (prg_1 hgr hr ha na) ne).imp fun σ H Q h => by
    obtain ⟨C, O, ρ, o, ρ', ek, F, e, q⟩ := h
    unfold fLRg pZero pInt at e
    simp only [Option.bind_some] at e
    cases ea : fa ρ with
    | none => simp [ea] at e
    | some q1 =>
      obtain ⟨o1, ρ1⟩ := q1
      simp only [ea, Option.bind_some] at e
      cases e1 : asI (o1, ρ1) with
      | none => simp [e1] at e
      | some z =>
        simp only [e1, Option.bind_some] at e
        unfold asI at e1
        split at e1
        · cases e1
          rename_i jj ρ8 hq
          cases hq
          simp only [Option.bind_some] at e
          obtain ⟨hl, ez⟩ := some_if e
          cases ez
          refine ⟨C, O, ρ, _, _, ek, F, ea, fun v H1 O1 F1 w1 r1 => ⟨_, rp_int (K := C.K) (H := H1) (O := O1) r1, ⟨hl.1, hl.2.1, hl.2.2.1, hl.2.2.2.1, hl.2.2.2.2⟩, fun l hlv => q _ _ O1 (F1.laid hlv) (w1.trans (Fw.laid hlv)) (OpR.new F1 hlv rg_rep)⟩⟩
        · cases e1
theorem d_lrg2 {p2 pos2 : Pos} (hc : X.calm = true) (hm : X.mg "list" = none) (hr : X.mg "range" = none) (ha : PE X a (tF X.K fa)) (hb : PE X b (tF X.K fb)) (hg : Gl X "list" := by rfl) (hgr : Gl X "range" := by rfl) (na : starEach [a, b] X.env = (false, eval a X.env) :: starEach [b] X.env := by rfl) (nb : starEach [b] X.env = (false, eval b X.env) :: starEach [] X.env := by rfl)
    (hpl : (backTo pos (starEach [b] X.env)).any (·.1) = false := by rfl)
    (ne : starEach [.Call (.Name "range" p) [a, b] [] pos] X.env = (false, eval (.Call (.Name "range" p) [a, b] [] pos) X.env) :: starEach [] X.env := by rfl) : PE X (.Call (.Name "list" p2) [.Call (.Name "range" p) [a, b] [] pos] [] pos2) (tF X.K (fLRg (pInt fa) (pInt fb))) :=
  (pe_listRg hc hg hm (prg_2 hgr hr ha hb na nb hpl) ne).imp fun σ H Q h => by
    obtain ⟨C, O, ρ, o, ρ', ek, F, e, q⟩ := h
    unfold fLRg pInt at e
    cases ea : fa ρ with
    | none => simp [ea] at e
    | some q1 =>
      obtain ⟨o1, ρ1⟩ := q1
      simp only [ea, Option.bind_some] at e
      cases e1 : asI (o1, ρ1) with
      | none => simp [e1] at e
      | some z =>
        simp only [e1, Option.bind_some] at e
        unfold asI at e1
        split at e1
        · cases e1
          rename_i jj ρ8 hq
          cases hq
          cases eb : fb ρ1 with
          | none => simp [eb] at e
          | some p2 =>
            obtain ⟨o2, ρ2⟩ := p2
            simp only [eb, Option.bind_some] at e
            cases e2 : asI (o2, ρ2) with
            | none => simp [e2] at e
            | some z2 =>
              simp only [e2, Option.bind_some] at e
              unfold asI at e2
              split at e2
              · cases e2
                rename_i kk ρ9 hq2
                cases hq2
                simp only [Option.bind_some] at e
                obtain ⟨hl, ez⟩ := some_if e
                cases ez
                refine ⟨C, O, ρ, _, _, ek, F, ea, fun v H1 O1 F1 w1 r1 => ⟨C, O1, _, _, _, ek, F1, eb, fun u H2 O2 F2 w2 r2 => ⟨_, _, rp_int (K := C.K) (H := H1) (O := O1) r1, rp_int (K := C.K) (H := H2) (O := O2) r2, hl, fun l hlv => q _ _ O2 (F2.laid hlv) ((w1.trans w2).trans (Fw.laid hlv)) (OpR.new F2 hlv rg_rep)⟩⟩⟩
              · cases e2
        · cases e1
end
end Dv

set_option Elab.async false
set_option linter.all false
set_option maxRecDepth 100000
set_option maxHeartbeats 2000000
/-! comprehensions, keywords, the law's end -/
namespace Dv
open PySem PySem.Spec PyProof.Rows L2

/-! ### slots of a comprehension's own -/
def wipeE (ρ : Ev) : List Nat → Ev
  | [] => ρ
  | v :: vs => (wipeE ρ vs).set v .un
section
variable {X : Cx} {K : PySem.W.Frag} {C : Fc} {O O' : AP} {σ σ' : L2.St} {ρ ρ' : Ev} {H H' : Hp}
theorem FR.wip : ∀ {vs : List Nat}, FR C O σ ρ H → FR C O (L2.wipe σ vs) (wipeE ρ vs) H
  | [], F => F
  | v :: vs, F => by unfold L2.wipe wipeE; exact (F.wip (vs := vs)).setun
theorem wipeE_len : ∀ {vs : List Nat}, (wipeE ρ vs).length = ρ.length
  | [] => rfl
  | v :: vs => by unfold wipeE; rw [List.length_set, wipeE_len]
theorem wipeE_in {i : Nat} {s : Sl} : ∀ {vs : List Nat}, i ∈ vs → (wipeE ρ vs)[i]? = some s → s = .un
  | v :: vs, h, e => by
    unfold wipeE at e
    by_cases hv : v = i
    · subst hv
      have hi := (List.getElem?_eq_some_iff.mp e).1
      rw [List.length_set] at hi
      rw [List.getElem?_set_self hi] at e
      exact (Option.some.inj e).symm
    · rw [List.getElem?_set_ne hv] at e
      exact wipeE_in ((List.mem_cons.mp h).resolve_left fun z => hv z.symm) e
theorem wipeE_out {i : Nat} : ∀ {vs : List Nat}, i ∉ vs → (wipeE ρ vs)[i]? = ρ[i]?
  | [], _ => rfl
  | v :: vs, h => by
    simp only [List.mem_cons, not_or] at h
    unfold wipeE
    rw [List.getElem?_set_ne fun z => h.1 z.symm, wipeE_out h.2]
/-- the slots of the comprehension's own hold nothing that is known: so the frame stands with any values there -/
theorem FR.unwipe {vs : List Nat} (F : FR C O (wipe σ vs) ρ H) (h : ∀ i s, i ∈ vs → ρ[i]? = some s → s = .un) : FR C O σ ρ H := by
  have out : ∀ {i : Nat} {s : Sl}, ρ[i]? = some s → s ≠ .un → (wipe σ vs)[i]? = σ[i]? := fun {i s} e n => wipe_out fun z => n (h i s z e)
  refine ⟨by rw [F.len, wipe_length], F.keep, F.mu, F.sub, F.sdom, F.bs, fun i s e => ?_, fun i j si sj a ei oi ej oj qi qj => ?_, F.held⟩
  · have z := F.slot i s e
    cases s with
    | un => trivial
    | val d => rw [out e (by simp)] at z; exact z
    | own d => rw [out e (by simp)] at z; exact z
    | bor d => rw [out e (by simp)] at z; exact z
  · refine F.inj i j si sj a ei oi ej oj ?_ ?_
    · rw [out ei (by rintro rfl; cases oi)]; exact qi
    · rw [out ej (by rintro rfl; cases oj)]; exact qj
/-- the outer values are back -/
def backS : Option Sl → Sl
  | some (.val d) => .val d
  | _ => .un
def backE (ρ0 : Ev) (ρ : Ev) : List Nat → Ev
  | [] => ρ
  | v :: vs => (backE ρ0 ρ vs).set v (backS ρ0[v]?)
/-- what stood at these slots, held -/
def outS (ρ0 : Ev) (σ : L2.St) : List Nat → List (D × V)
  | [] => []
  | v :: vs => (match ρ0[v]?, σ[v]? with
    | some (.val d), some (some x) => [(d, x)]
    | _, _ => []) ++ outS ρ0 σ vs
theorem outS_held (F : FR C O σ ρ H) : ∀ {vs : List Nat} {p : D × V}, p ∈ outS ρ σ vs → Rep C.K H O p.1 p.2
  | [], p, h => by cases h
  | v :: vs, p, h => by
    unfold outS at h
    rcases List.mem_append.mp h with h | h
    · split at h
      · rename_i d x e1 e2
        rw [List.mem_singleton] at h
        subst h
        obtain ⟨u, e3, r⟩ := F.slot v _ e1
        rw [e2] at e3; cases e3
        exact r
      · cases h
    · exact outS_held F h
theorem mem_outS {ρ0 : Ev} {v : Nat} {d : D} {x : V} (e : ρ0[v]? = some (.val d)) (hx : σ[v]? = some (some x)) : ∀ {vs : List Nat}, v ∈ vs → (d, x) ∈ outS ρ0 σ vs
  | w :: vs, h => by
    unfold outS
    rcases List.mem_cons.mp h with rfl | h
    · rw [e, hx]; exact List.mem_append_left _ (by simp)
    · exact List.mem_append_right _ (mem_outS e hx h)
theorem FR.back {ρ0 : Ev} : ∀ {vs : List Nat}, FR C O σ ρ H → (∀ v d, v ∈ vs → ρ0[v]? = some (.val d) → ∃ x, σ[v]? = some (some x) ∧ Rep C.K H O d x) → FR C O σ (backE ρ0 ρ vs) H
  | [], F, _ => F
  | v :: vs, F, h => by
    have G := F.back (vs := vs) fun w d hw e => h w d (List.mem_cons_of_mem _ hw) e
    unfold backE
    cases e : ρ0[v]? with
    | none =>
      have z := G.setun (i := v) (x := (σ[v]?).getD none)
      have : σ.set v ((σ[v]?).getD none) = σ := by
        apply List.ext_getElem?
        intro j
        by_cases hj : v = j
        · subst hj
          by_cases hv : v < σ.length
          · rw [List.getElem?_set_self hv, List.getElem?_eq_getElem hv]; rfl
          · rw [List.getElem?_eq_none (by simpa using hv), List.getElem?_eq_none (by simpa using hv)]
        · rw [List.getElem?_set_ne hj]
      rw [this] at z; exact z
    | some s =>
      have un : FR C O σ ((backE ρ0 ρ vs).set v .un) H := by
        have z := G.setun (i := v) (x := (σ[v]?).getD none)
        have : σ.set v ((σ[v]?).getD none) = σ := by
          apply List.ext_getElem?
          intro j
          by_cases hj : v = j
          · subst hj
            by_cases hv : v < σ.length
            · rw [List.getElem?_set_self hv, List.getElem?_eq_getElem hv]; rfl
            · rw [List.getElem?_eq_none (by simpa using hv), List.getElem?_eq_none (by simpa using hv)]
          · rw [List.getElem?_set_ne hj]
        rw [this] at z; exact z
      cases s with
      | val d =>
        obtain ⟨x, hx, rx⟩ := h v d List.mem_cons_self e
        have z := G.setv (i := v) rx
        have : σ.set v (some x) = σ := by
          apply List.ext_getElem?
          intro j
          by_cases hj : v = j
          · subst hj
            rw [hx, List.getElem?_set_self (List.getElem?_eq_some_iff.mp hx).1]
          · rw [List.getElem?_set_ne hj]
        rw [this] at z; exact z
      | un => exact un
      | own d => exact un
      | bor d => exact un
theorem backE_own {ρ0 : Ev} {b : Addr} : ∀ {vs : List Nat}, OwnA σ (backE ρ0 ρ vs) b → OwnA σ ρ b
  | [], h => h
  | v :: vs, h => by
    refine backE_own (ρ0 := ρ0) (vs := vs) ?_
    unfold backE at h
    obtain ⟨j, t, a1, a2, a3⟩ := h
    by_cases hj : v = j
    · subst hj
      have hi := (List.getElem?_eq_some_iff.mp a1).1
      rw [List.length_set] at hi
      rw [List.getElem?_set_self hi] at a1
      cases a1
      exfalso
      revert a2
      cases ρ0[v]? with
      | none => exact fun h => nomatch h
      | some s => cases s <;> exact fun h => nomatch h
    · rw [List.getElem?_set_ne hj] at a1; exact ⟨j, t, a1, a2, a3⟩

/-! ### the comprehension -/
def lcD (t : Tg) (ft : FT) (fe : FE) (vs : List Nat) : List D → Ev → List D → Option (List D × Ev)
  | [], ρ, acc => some (acc, ρ)
  | d :: ds, ρ, acc => (bindT t d ρ).bind fun ρ1 => (ft ρ1).bind fun p => if p.1 then (fe p.2).bind fun q => (esc q.1 q.2).bind fun r => if acc.length < 16777216 then lcD t ft fe vs ds (wipeE r.2 vs) (acc ++ [r.1]) else none
      else lcD t ft fe vs ds (wipeE p.2 vs) acc
def fLc (fi : FI) (t : Tg) (ft : FT) (fe : FE) (vs : List Nat) : FE := fun ρ => (fi ρ).bind fun p => (lcD t ft fe vs p.1 (wipeE p.2 vs) []).bind fun q => some (.nw q.1, backE p.2 q.2 vs)
def fYes : FT := fun ρ => some (true, ρ)
theorem ts_nil : PTs X [] (tT X.K fYes) := ⟨fun pins s σ H Q I h => pts_nil.run pins s σ H Q I (by
  obtain ⟨C, O, ρ, b, ρ', ek, F, e, q⟩ := h
  cases e
  exact q H O F .refl)⟩
theorem ts_one {c : Expr} {ft : FT} (h : PT X c (tT X.K ft)) : PTs X [c] (tT X.K ft) := pts_one h
theorem wipeE_own {vs : List Nat} {b : Addr} (h : OwnA (wipe σ vs) (wipeE ρ vs) b) : OwnA σ ρ b := by
  obtain ⟨j, t, a1, a2, a3⟩ := h
  by_cases hj : j ∈ vs
  · rw [wipeE_in hj a1] at a2; cases a2
  · rw [wipeE_out hj] at a1; rw [wipe_out hj] at a3; exact ⟨j, t, a1, a2, a3⟩
/-- behind the target: an own slot is one of before -/
theorem setAll_own {b : Addr} : ∀ {is : List Nat} {ds : List D} {ρ ρ' : Ev}, setAll is ds ρ = some ρ' → ∀ j (t : Sl), ρ'[j]? = some t → t.isOwn = true → ρ[j]? = some t ∧ j ∉ is
  | [], [], ρ, ρ', e, j, t, a, o => by cases e; exact ⟨a, by simp⟩
  | [], _ :: _, _, _, e, _, _, _, _ => by cases e
  | _ :: _, [], _, _, e, _, _, _, _ => by cases e
  | i :: is, d :: ds, ρ, ρ', e, j, t, a, o => by
    obtain ⟨h1, h2⟩ := setAll_own (b := b) (is := is) (ds := ds) (ρ := ρ.set i (.val d)) e j t a o
    by_cases hj : i = j
    · subst hj
      have hi := (List.getElem?_eq_some_iff.mp h1).1
      rw [List.length_set] at hi
      rw [List.getElem?_set_self hi] at h1
      cases h1; cases o
    · rw [List.getElem?_set_ne hj] at h1
      exact ⟨h1, by simp only [List.mem_cons, not_or]; exact ⟨fun z => hj z.symm, h2⟩⟩
theorem bindT_own {t : Tg} {d : D} (e : bindT t d ρ = some ρ') (o : Only t.sl σ σ') {b : Addr} (h : OwnA σ' ρ' b) : OwnA σ ρ b := by
  obtain ⟨j, s, a1, a2, a3⟩ := h
  have key : ρ[j]? = some s ∧ j ∉ t.sl := by
    cases t with
    | nm i =>
      cases e
      by_cases hj : i = j
      · subst hj
        have hi := (List.getElem?_eq_some_iff.mp a1).1
        rw [List.length_set] at hi
        rw [List.getElem?_set_self hi] at a1
        cases a1; cases a2
      · rw [List.getElem?_set_ne hj] at a1
        exact ⟨a1, by simpa [Tg.sl] using fun z => hj z.symm⟩
    | tp is =>
      cases d <;> try (cases e; done)
      exact setAll_own (b := b) e j s a1 a2
  exact ⟨j, s, key.1, a2, by rw [← o.2 j key.2]; exact a3⟩
theorem wipe_only {is vs : List Nat} (o : Only is σ σ') (h : ∀ i ∈ is, i ∈ vs) : wipe σ' vs = wipe σ vs := by
  apply List.ext_getElem?
  intro j
  by_cases hj : j ∈ vs
  · have none_of : ∀ (τ : L2.St), τ.length = σ.length → (wipe τ vs)[j]? = if j < σ.length then some none else none := fun τ hl => by
      by_cases hl2 : j < σ.length
      · rw [if_pos hl2]
        cases q : (wipe τ vs)[j]? with
        | none => rw [List.getElem?_eq_none_iff, wipe_length, hl] at q; omega
        | some x =>
          cases x with
          | none => rfl
          | some y => exact absurd hj (wipe_some q).2
      · rw [if_neg hl2, List.getElem?_eq_none (by rw [wipe_length, hl]; omega)]
    rw [none_of σ' o.1, none_of σ rfl]
  · rw [wipe_out hj, wipe_out hj, o.2 j fun z => hj (h j z)]
theorem tLcD {fi : FI} {t : Tg} {ft : FT} {fe : FE} {vs : List Nat} {Q : VK} (hv : ∀ i ∈ t.sl, i ∈ vs) (h : tF K (fLc fi t ft fe vs) σ H Q) : tLc (tI K fi) (tG K t) (tT K ft) (tF K fe) vs σ H Q := by
  obtain ⟨C, O, ρ, o, ρ', ek, F, e, q⟩ := h
  unfold fLc at e
  cases ei : fi ρ with
  | none => rw [ei] at e; cases e
  | some p =>
    obtain ⟨ds, ρ1⟩ := p
    rw [ei, Option.bind_some] at e
    cases el : lcD t ft fe vs ds (wipeE ρ1 vs) [] with
    | none => simp [el] at e
    | some p2 =>
      obtain ⟨acc, ρ2⟩ := p2
      simp only [el, Option.bind_some] at e
      cases e
      refine ⟨C, O, ρ, ds, ρ1, ek, F, ei, fun J hd H1 O1 F1 w1 rh wk D hD => ?_⟩
      -- the invariant
      let C' : Fc := { C with G := hd ++ (outS ρ1 σ vs ++ C.G) }
      let O0 : AP := fun b => b = D ∨ O1 b
      have nO1 : ¬ O1 D := fun z => by obtain ⟨ys, y⟩ := F1.mu D z; rw [hD] at y; cases y
      have nOwn : ¬ OwnA σ ρ1 D := fun z => nO1 (F1.ownO z)
      have G0 : FR C' O0 (wipe σ vs) (wipeE ρ1 vs) (upd H1 D (.lst [])) := by
        refine ((F1.more (xs := []) hD).wip (vs := vs)).hold fun p hp => ?_
        have cr : ∀ {d v}, Rep C.K H1 O1 d v → Rep C.K (upd H1 D (.lst [])) O0 d v := fun r => r.fresh (N := fun a => a = D) (updK hD) fun q h => by rw [h]; exact hD
        rcases List.mem_append.mp hp with hp | hp
        · exact cr (by rw [ek]; exact rh p hp)
        · rcases List.mem_append.mp hp with hp | hp
          · exact cr (outS_held F1 hp)
          · exact cr (F1.held p hp)
      let Pv : Nat → Hp → Prop := fun i Hi => i ≤ ds.length ∧ ∃ Oi ρi acci accV, FR C' Oi (wipe σ vs) ρi Hi ∧ lcD t ft fe vs (ds.drop i) ρi acci = some (acc, ρ2) ∧ (∀ i s, i ∈ vs → ρi[i]? = some s → s = .un) ∧
        Hi D = some (.lst accV) ∧ Reps C.K Hi Oi acci accV ∧ Oi D ∧ ¬ OwnA (wipe σ vs) ρi D ∧ ((∀ b o, H1 b = some o → ¬ OwnA σ ρ1 b → Hi b = some o) ∧ (∀ b, OwnA (wipe σ vs) ρi b → OwnA σ ρ1 b) ∧ (∀ a, Oi a → a = D ∨ O1 a) ∧ ∀ a, O1 a → Oi a ∨ OwnA σ ρ1 a)
      have h0 : Pv 0 (upd H1 D (.lst [])) := ⟨Nat.zero_le _, O0, wipeE ρ1 vs, [], [], G0, el, fun i s hi e => wipeE_in hi e, upd_same, .nil, .inl rfl, fun z => nOwn (wipeE_own z), fun b o hb _ => updK hD b o hb, fun b hb => wipeE_own hb, fun a ha => ha, fun a ha => .inl (.inr ha)⟩
      have rep_of : ∀ {i Hi}, Pv i Hi → ∃ Oi, ∀ p ∈ hd, Rep K Hi Oi p.1 p.2 := fun {i Hi} ⟨_, Oi, ρi, _, _, Fi, _⟩ => ⟨Oi, fun p hp => by rw [← ek]; exact Fi.held p (List.mem_append_left _ hp)⟩
      refine ⟨fun i m Hi => m = ds.length - i ∧ Pv i Hi, ⟨_, rfl, h0⟩, ?_⟩
      rintro i m Hi ⟨rfl, pv⟩
      obtain ⟨Ox, rx⟩ := rep_of pv
      by_cases hlt : i < ds.length
      · refine .inr ⟨wk.go i Hi Ox hlt rx, Pv (i + 1), fun H' h' => ⟨ds.length - (i + 1), by omega, rfl, h'⟩, fun x H' y => ?_⟩
        obtain ⟨hle, Oi, ρi, acci, accV, Fi, eli, hun, hDi, rai, oDi, nDi, wi⟩ := pv
        obtain ⟨hH, d, hdd, rd⟩ := wk.yld i Hi Oi x H' hlt Fi.mu (fun p hp => by rw [← ek]; exact Fi.held p (List.mem_append_left _ hp)) y
        have up : ∀ b o, Hi b = some o → H' b = some o := by
          rcases hH with rfl | ⟨p, o, hp, rfl⟩
          · exact fun b o h => h
          · exact updK hp
        have ol0 := Fi.mu
        replace Fi : FR C' Oi (wipe σ vs) ρi H' := by
          rcases hH with rfl | ⟨p, o, hp, rfl⟩
          · exact Fi
          · exact Fi.laid hp
        replace rai : Reps C.K H' Oi acci accV := Reps.keep (fun b o h _ => up b o h) ol0 (fun _ h => h) rai
        replace hDi := up _ _ hDi
        replace wi := (⟨fun b o h n => up b o (wi.1 b o h n), wi.2⟩ : (∀ b o, H1 b = some o → ¬ OwnA σ ρ1 b → H' b = some o) ∧ _)
        have hdrop : ds.drop i = d :: ds.drop (i + 1) := by
          rw [List.drop_eq_getElem_cons hlt]
          congr 1
          rw [List.getElem?_eq_getElem hlt] at hdd
          exact Option.some.inj hdd
        rw [hdrop] at eli
        unfold lcD at eli
        cases eb : bindT t d ρi with
        | none => rw [eb] at eli; cases eli
        | some ρ3 =>
          rw [eb, Option.bind_some] at eli
          refine ⟨C', Oi, ρi, d, ρ3, ek, Fi, rd, eb, fun σ2 F2 on => ⟨?_, ?_⟩⟩
          · have z := wipe_only on (vs := vs) hv
            rw [z]
            apply List.ext_getElem?
            intro j
            by_cases hj : j ∈ vs
            · cases q1 : (wipe σ vs)[j]? with
              | none =>
                rw [List.getElem?_eq_none_iff, wipe_length] at q1
                rw [List.getElem?_eq_none (by rw [wipe_length, wipe_length]; exact q1)]
              | some y =>
                have hl : j < σ.length := by have := (List.getElem?_eq_some_iff.mp q1).1; rwa [wipe_length] at this
                cases y with
                | some u => exact absurd hj (wipe_some q1).2
                | none =>
                  cases q2 : (wipe (wipe σ vs) vs)[j]? with
                  | none => rw [List.getElem?_eq_none_iff, wipe_length, wipe_length] at q2; omega
                  | some y =>
                    cases y with
                    | none => rfl
                    | some u => exact absurd hj (wipe_some q2).2
            · rw [wipe_out hj]
          · have wsig : wipe σ2 vs = wipe σ vs := by
              rw [wipe_only on (vs := vs) hv]
              apply List.ext_getElem?
              intro j
              by_cases hj : j ∈ vs
              · cases q1 : (wipe σ vs)[j]? with
                | none =>
                  rw [List.getElem?_eq_none_iff, wipe_length] at q1
                  rw [List.getElem?_eq_none (by rw [wipe_length, wipe_length]; exact q1)]
                | some y =>
                  have hl : j < σ.length := by have := (List.getElem?_eq_some_iff.mp q1).1; rwa [wipe_length] at this
                  cases y with
                  | some u => exact absurd hj (wipe_some q1).2
                  | none =>
                    cases q2 : (wipe (wipe σ vs) vs)[j]? with
                    | none => rw [List.getElem?_eq_none_iff, wipe_length, wipe_length] at q2; omega
                    | some y =>
                      cases y with
                      | none => rfl
                      | some u => exact absurd hj (wipe_some q2).2
              · rw [wipe_out hj]
            have own2 : ∀ {b}, OwnA σ2 ρ3 b → OwnA (wipe σ vs) ρi b := fun z => bindT_own eb on z
            cases ec : ft ρ3 with
            | none => rw [ec] at eli; cases eli
            | some p =>
              obtain ⟨b, ρ4⟩ := p
              rw [ec, Option.bind_some] at eli
              refine ⟨C', Oi, ρ3, b, ρ4, ek, F2, ec, fun H4 O4 F4 w4 => ?_⟩
              -- the end of a turn
              have fin : ∀ {O5 ρ5 H5 acc5 accV5}, FR C' O5 σ2 ρ5 H5 → (∀ b o, b ≠ D → H' b = some o → ¬ OwnA σ2 ρ3 b → H5 b = some o) → (∀ b, OwnA σ2 ρ5 b → OwnA σ2 ρ3 b) → (∀ a, O5 a → Oi a) → (∀ a, Oi a → O5 a ∨ OwnA σ2 ρ3 a) →
                  lcD t ft fe vs (ds.drop (i + 1)) (wipeE ρ5 vs) acc5 = some (acc, ρ2) → H5 D = some (.lst accV5) → Reps C.K H5 O5 acc5 accV5 → Pv (i + 1) H5 := fun {O5 ρ5 H5 acc5 accV5} F5 k5 ow5 sub5 stay5 e5 h5 r5 => by
                have o5 : O5 D := (stay5 D oDi).elim _root_.id fun z => absurd (own2 z) nDi
                have ow : ∀ {b}, OwnA (wipe σ vs) (wipeE ρ5 vs) b → OwnA (wipe σ vs) ρi b := fun {b} z => by
                  rw [← wsig] at z
                  exact own2 (ow5 b (wipeE_own z))
                obtain ⟨wk1, wk2, wk3, wk4⟩ := wi
                refine ⟨hlt, O5, wipeE ρ5 vs, acc5, accV5, by have z := F5.wip (vs := vs); rw [wsig] at z; exact z, e5, fun i s hi e => wipeE_in hi e, h5, r5, o5, fun z => nDi (ow z), fun b o hb n => ?_, fun b z => wk2 b (ow z), fun a ha => wk3 a (sub5 a ha), fun a ha => ?_⟩
                · exact k5 b o (fun z => by rw [z, hD] at hb; cases hb) (wk1 b o hb n) fun z => n (wk2 b (own2 z))
                · rcases wk4 a ha with z | z
                  · exact (stay5 a z).imp _root_.id fun y => wk2 a (own2 y)
                  · exact .inr z
              cases b with
              | false => exact fin F4 (fun b o _ hb n => w4.kp b o hb n) w4.own w4.sub w4.stay eli (w4.kp D _ hDi fun z => nDi (own2 z)) (w4.reps F2 rai)
              | true =>
                simp only [if_true] at eli ⊢
                cases ee : fe ρ4 with
                | none => rw [ee] at eli; cases eli
                | some p =>
                  obtain ⟨o5, ρ5⟩ := p
                  rw [ee, Option.bind_some] at eli
                  simp only at eli
                  cases ex : esc o5 ρ5 with
                  | none => rw [ex] at eli; cases eli
                  | some p =>
                    obtain ⟨x5, ρ6⟩ := p
                    rw [ex, Option.bind_some] at eli
                    simp only at eli
                    split at eli
                    · rename_i hlen
                      refine ⟨C', O4, ρ4, o5, ρ5, ek, F4, ee, fun yv H5 O5 F5 w5 r5 => ?_⟩
                      obtain ⟨O6, F6, w6, r6⟩ := esc_ok r5.w F5 ex
                      have w46 := w4.trans (w5.trans w6)
                      have hD5 : H5 D = some (.lst accV) := w46.kp D _ hDi fun z => nDi (own2 z)
                      have ra5 := w46.reps F2 rai
                      have oD6 : O6 D := (w46.stay D oDi).elim _root_.id fun z => absurd (own2 z) nDi
                      have nD6 : ¬ OwnA σ2 ρ6 D := fun z => nDi (own2 (w46.own D z))
                      refine ⟨accV, hD5, by rw [sizeLine_eq, ← ra5.len]; exact hlen, ?_⟩
                      -- the write at D: no slot's own, kept out of all trees
                      have kp : Kep O6 H5 (upd H5 D (.lst (accV ++ [yv]))) := fun b u hb n => by rw [upd_ne (fun z : b = D => n (by rw [z]; exact oD6))]; exact hb
                      have F7 : FR C' O6 σ2 ρ6 (upd H5 D (.lst (accV ++ [yv]))) := by
                        have h0D : C.H0 D = none := F1.h0 hD
                        refine ⟨F6.len, fun b u hb n => ?_, fun a ha => ?_, F6.sub, F6.sdom, F6.bs, fun j s es => ?_, F6.inj, fun p hp => (F6.held p hp).keep kp F6.mu fun _ h => h⟩
                        · have : b ≠ D := fun z => by
                            have hb : C.H0 b = some u := hb
                            rw [z, h0D] at hb; cases hb
                          rw [upd_ne this]; exact F6.keep b u hb n
                        · by_cases ha' : a = D
                          · subst ha'; exact ⟨_, upd_same⟩
                          · rw [upd_ne ha']; exact F6.mu a ha
                        · have z := F6.slot j s es
                          cases s with
                          | un => trivial
                          | val d => obtain ⟨v, e1, r⟩ := z; exact ⟨v, e1, r.keep kp F6.mu fun _ h => h⟩
                          | own es' =>
                            obtain ⟨a, xs, e1, e2, r, oa, hh⟩ := z
                            have : a ≠ D := fun z => nD6 ⟨j, _, es, rfl, z ▸ e1⟩
                            exact ⟨a, xs, e1, by rw [upd_ne this]; exact e2, r.keep kp F6.mu fun _ h => h, oa, hh⟩
                          | bor es' =>
                            obtain ⟨a, xs, e1, e2, r, oa, hh⟩ := z
                            have : a ≠ D := fun z => nD6 ⟨j, _, es, rfl, z ▸ e1⟩
                            exact ⟨a, xs, e1, by rw [upd_ne this]; exact e2, r.keep kp F6.mu fun _ h => h, oa, hh⟩
                      exact fin F7 (fun b o hne hb n => by rw [upd_ne hne]; exact w46.kp b o hb n) w46.own w46.sub w46.stay eli upd_same ((ra5.append (.cons r6 .nil)).keep kp F6.mu fun _ h => h)
                    · cases eli
      · have : i = ds.length := by
          obtain ⟨hle, _⟩ := pv
          omega
        subst this
        obtain ⟨hle, Oi, ρi, acci, accV, Fi, eli, hun, hDi, rai, oDi, nDi, wi⟩ := pv
        rw [List.drop_length] at eli
        cases eli
        obtain ⟨wk1, wk2, wk3, wk4⟩ := wi
        have ownu : ∀ {b}, OwnA σ ρ2 b → OwnA (wipe σ vs) ρ2 b := fun {b} z => by
          obtain ⟨j, s, a1, a2, a3⟩ := z
          have hj : j ∉ vs := fun hj => by rw [hun j s hj a1] at a2; cases a2
          exact ⟨j, s, a1, a2, by rw [wipe_out hj]; exact a3⟩
        have G1 : FR C Oi σ ρ2 Hi := (Fi.unwipe hun).hold (G := C.G) fun p hp => Fi.held p (List.mem_append_right _ (List.mem_append_right _ hp))
        have G2 : FR C Oi σ (backE ρ1 ρ2 vs) Hi := G1.back fun v d hv e => by
          obtain ⟨x, hx, _⟩ := F1.slot v _ e
          exact ⟨x, hx, Fi.held (d, x) (List.mem_append_right _ (List.mem_append_left _ (mem_outS e hx hv)))⟩
        have h0D : C.H0 D = none := F1.h0 hD
        have nS : ¬ C.S D := fun z => by obtain ⟨ys, y⟩ := F1.sdom D z; rw [h0D] at y; cases y
        have nB : ¬ OwnA σ (backE ρ1 ρ2 vs) D := fun z => nDi (ownu (backE_own (ρ0 := ρ1) z))
        have G3 : FR C (fun a => Oi a ∧ a ≠ D) σ (backE ρ1 ρ2 vs) Hi := G2.less (fun a h => h.1) fun a h => by
          by_cases ha : a = D
          · subst ha; exact .inr ⟨nS, nB⟩
          · exact .inl ⟨h, ha⟩
        have cg : ∀ a, Oi a ↔ (a = D ∨ (Oi a ∧ a ≠ D)) := fun a => ⟨fun h => by
          by_cases ha : a = D
          · exact .inl ha
          · exact .inr ⟨h, ha⟩, fun h => h.elim (fun z => by rw [z]; exact oDi) fun z => z.1⟩
        refine .inl ⟨wk.stop Hi Ox rx, q _ Hi _ G3 (w1.trans ⟨wk1, fun b z => wk2 b (ownu (backE_own (ρ0 := ρ1) z)), fun a ha => (wk3 a ha.1).resolve_left ha.2, fun a ha => ?_⟩) ⟨D, accV, rfl, hDi, h0D, fun z => z.2 rfl, G2.congr cg, rai.less fun a h => (cg a).mpr h⟩⟩
        rcases wk4 a ha with z | z
        · exact .inl ⟨z, fun y => nO1 (y ▸ ha)⟩
        · exact .inr z
theorem d_lc {elt tg iter : Expr} {ifs : List Expr} {scope : Scope} {own : List (Str × Nat)} {pos : Pos} {fi : FI} {t : Tg} {ft : FT} {fe : FE} (hc : X.calm = true) (hN : X.N.Nodup) (ok : BlkOk X.N X.env.scope scope own) (hi : PI X tg iter (tI X.K fi))
    (hg : ∀ (s : Shared) (H : Hp) (C : Addr) (cl : List (Str × Addr)) (fp : List Addr), PG (X.blk s H scope (compEnvC scope cl C X.env) fp) tg (tG X.K t)) (ht : ∀ (s : Shared) (H : Hp) (C : Addr) (cl : List (Str × Addr)) (fp : List Addr), PTs (X.blk s H scope (compEnvC scope cl C X.env) fp) ifs (tT X.K ft))
    (he : ∀ (s : Shared) (H : Hp) (C : Addr) (cl : List (Str × Addr)) (fp : List Addr), PE (X.blk s H scope (compEnvC scope cl C X.env) fp) elt (tF X.K fe)) (hv : ∀ i ∈ t.sl, i ∈ own.map (·.2) := by decide) (hs : ∀ x, foldedSetIterable iter X.env x = pure x := by intro _; rfl) :
    PE X (.ListComp elt [⟨tg, iter, ifs, 0⟩] scope pos) (tF X.K (fLc fi t ft fe (own.map (·.2)))) := (pe_lc hc hN hi ok hg ht he hs).imp fun σ H Q h => tLcD hv h
/-- name = [..] on one line, the name a local of its own -/
theorem s_setLc {i : Nat} {y : Str} {py : Pos} {elt tg iter : Expr} {ifs : List Expr} {scope : Scope} {own : List (Str × Nat)} {pos spos : Pos} {fi : FI} {t : Tg} {ft : FT} {fe : FE} (hc : X.calm = true) (hN : X.N.Nodup) (ok : BlkOk X.N X.env.scope scope own) (hi : PI X tg iter (tI X.K fi))
    (hg : ∀ (s : Shared) (H : Hp) (C : Addr) (cl : List (Str × Addr)) (fp : List Addr), PG (X.blk s H scope (compEnvC scope cl C X.env) fp) tg (tG X.K t)) (ht : ∀ (s : Shared) (H : Hp) (C : Addr) (cl : List (Str × Addr)) (fp : List Addr), PTs (X.blk s H scope (compEnvC scope cl C X.env) fp) ifs (tT X.K ft))
    (he : ∀ (s : Shared) (H : Hp) (C : Addr) (cl : List (Str × Addr)) (fp : List Addr), PE (X.blk s H scope (compEnvC scope cl C X.env) fp) elt (tF X.K fe)) (hy : X.N[i]? = some y := by rfl) (hyl : X.env.scope.names.lookup y = some .local := by rfl)
    (hsw : swapsWith (.ListComp elt [⟨tg, iter, ifs, 0⟩] scope pos) (some (.Name y py)) spos.line X.env = pure true := by exact sw_true rfl rfl rfl (by decide +kernel)) (hv : ∀ i ∈ t.sl, i ∈ own.map (·.2) := by decide) (hs : ∀ x, foldedSetIterable iter X.env x = pure x := by intro _; rfl) :
    PS X (.Assign [.Name y py] (.ListComp elt [⟨tg, iter, ifs, 0⟩] scope pos) spos) (tS X.K (sSet i (fLc fi t ft fe (own.map (·.2))))) := (ps_setLc hc hN hy hyl hsw hi ok hg ht he hs).imp fun D σ H h => by
  obtain ⟨C, O, ρ, o, ρ', ek, F, e, q⟩ := (tSetV h : tF X.K _ σ H fun x H1 => gName i x σ H1 D.nx)
  exact tLcD hv ⟨C, O, ρ, o, ρ', ek, F, e, q⟩
theorem s_ownLc {i : Nat} {y : Str} {py : Pos} {elt tg iter : Expr} {ifs : List Expr} {scope : Scope} {own : List (Str × Nat)} {pos spos : Pos} {fi : FI} {t : Tg} {ft : FT} {fe : FE} (hc : X.calm = true) (hN : X.N.Nodup) (ok : BlkOk X.N X.env.scope scope own) (hi : PI X tg iter (tI X.K fi))
    (hg : ∀ (s : Shared) (H : Hp) (C : Addr) (cl : List (Str × Addr)) (fp : List Addr), PG (X.blk s H scope (compEnvC scope cl C X.env) fp) tg (tG X.K t)) (ht : ∀ (s : Shared) (H : Hp) (C : Addr) (cl : List (Str × Addr)) (fp : List Addr), PTs (X.blk s H scope (compEnvC scope cl C X.env) fp) ifs (tT X.K ft))
    (he : ∀ (s : Shared) (H : Hp) (C : Addr) (cl : List (Str × Addr)) (fp : List Addr), PE (X.blk s H scope (compEnvC scope cl C X.env) fp) elt (tF X.K fe)) (hy : X.N[i]? = some y := by rfl) (hyl : X.env.scope.names.lookup y = some .local := by rfl)
    (hsw : swapsWith (.ListComp elt [⟨tg, iter, ifs, 0⟩] scope pos) (some (.Name y py)) spos.line X.env = pure true := by exact sw_true rfl rfl rfl (by decide +kernel)) (hv : ∀ i ∈ t.sl, i ∈ own.map (·.2) := by decide) (hs : ∀ x, foldedSetIterable iter X.env x = pure x := by intro _; rfl) :
    PS X (.Assign [.Name y py] (.ListComp elt [⟨tg, iter, ifs, 0⟩] scope pos) spos) (tS X.K (sOwn i (fLc fi t ft fe (own.map (·.2))))) := (ps_setLc hc hN hy hyl hsw hi ok hg ht he hs).imp fun D σ H h => by
  obtain ⟨C, O, ρ, o, ρ', ek, F, e, q⟩ := (tSetO h : tF X.K _ σ H fun x H1 => gName i x σ H1 D.nx)
  exact tLcD hv ⟨C, O, ρ, o, ρ', ek, F, e, q⟩
/-! ### chains of two comparisons -/
def fCh (g g' : D → D → Option Opd) (fa fb fc : FE) : FE := fun ρ => (fa ρ).bind fun p => (fb p.2).bind fun q => (der q.2 p.1).bind fun x => (der q.2 q.1).bind fun y => (g x y).bind fun z => match z with
  | .d (.bl true) => (fc q.2).bind fun r => (der r.2 q.1).bind fun y' => (der r.2 r.1).bind fun w => (g' y' w).bind fun z => some (z, r.2)
  | .d (.bl false) => some (.d (.bl false), q.2)
  | _ => none
theorem tChD {g g' : D → D → Option Opd} {fa fb fc : FE} {Q : VK} (h : tF K (fCh g g' fa fb fc) σ H Q) : tChain (rD K g) (rD K g') (tF K fa) (tF K fb) (tF K fc) σ H Q := by
  obtain ⟨C, O, ρ, o, ρ', ek, F, e, q⟩ := h
  unfold fCh at e
  cases ea : fa ρ with
  | none => rw [ea] at e; cases e
  | some p =>
    obtain ⟨o1, ρ1⟩ := p
    rw [ea, Option.bind_some] at e
    cases eb : fb ρ1 with
    | none => simp [eb] at e
    | some p2 =>
      obtain ⟨o2, ρ2⟩ := p2
      simp only [eb, Option.bind_some] at e
      cases ex : der ρ2 o1 with
      | none => simp [ex] at e
      | some x =>
        simp only [ex, Option.bind_some] at e
        cases ey : der ρ2 o2 with
        | none => simp [ey] at e
        | some y =>
          simp only [ey, Option.bind_some] at e
          cases ez : g x y with
          | none => simp [ez] at e
          | some z =>
            simp only [ez, Option.bind_some] at e
            refine ⟨C, O, ρ, o1, ρ1, ek, F, ea, fun u H1 O1 F1 w1 r1 => ⟨C, O1, ρ1, o2, ρ2, ek, F1, eb, fun v H2 O2 F2 w2 r2 => ⟨C, O2, σ, ρ2, x, y, z, ek, F2, by rw [← ek]; exact (r1.w.fw F1 w2).vw F2 ex, by rw [← ek]; exact r2.w.vw F2 ey, ez, fun w H3 O3 F3 w3 r3 => ?_⟩⟩⟩
            split at e
            · have r3 : w = .bl true := rp_bl (K := C.K) (H := H3) (O := O3) r3
              subst r3
              refine ⟨true, rfl, ?_⟩
              simp only [if_true]
              cases ec : fc ρ2 with
              | none => rw [ec] at e; cases e
              | some p3 =>
                obtain ⟨o3, ρ3⟩ := p3
                simp only [ec, Option.bind_some] at e
                cases ey' : der ρ3 o2 with
                | none => simp [ey'] at e
                | some y' =>
                  simp only [ey', Option.bind_some] at e
                  cases ew : der ρ3 o3 with
                  | none => simp [ew] at e
                  | some w' =>
                    simp only [ew, Option.bind_some] at e
                    cases ez' : g' y' w' with
                    | none => simp [ez'] at e
                    | some z' =>
                      simp only [ez', Option.bind_some] at e
                      cases e
                      exact ⟨C, O3, ρ2, o3, _, ek, F3, ec, fun t H4 O4 F4 w4 r4 => ⟨C, O4, σ, _, y', w', _, ek, F4, by rw [← ek]; exact ((r2.w.fw F2 w3).fw F3 w4).vw F4 ey', by rw [← ek]; exact r4.w.vw F4 ew, ez', fun t2 H5 O5 F5 w5 r5 => q t2 H5 O5 F5 ((((w1.trans w2).trans w3).trans w4).trans w5) r5⟩⟩
            · have r3 : w = .bl false := rp_bl (K := C.K) (H := H3) (O := O3) r3
              subst r3
              cases e
              exact ⟨false, rfl, by rw [if_neg Bool.false_ne_true]; exact q _ H3 O3 F3 ((w1.trans w2).trans w3) or_bl⟩
            · cases e
theorem d_chain {op op' : CmpOp} {g g' : D → D → Option Opd} {fa fb fc : FE} {a b c : Expr} {pos : Pos} (ho : OpD X (compareOp op) g) (ho' : OpD X (compareOp op') g') (ha : PE X a (tF X.K fa)) (hb : PE X b (tF X.K fb)) (hc : PE X c (tF X.K fc)) (hm : lastMarks [op, op'] [b, c] = false := by with_unfolding_all rfl) :
    PE X (.Compare a [op, op'] [b, c] pos) (tF X.K (fCh g g' fa fb fc)) := (pe_chain ho ho' ha hb hc hm).imp fun σ H Q h => tChD h
theorem t_chain {op op' : CmpOp} {g g' : D → D → Option Opd} {fa fb fc : FE} {a b c : Expr} {pos : Pos} (ho : OpD X (compareOp op) g) (ho' : OpD X (compareOp op') g') (ha : PE X a (tF X.K fa)) (hb : PE X b (tF X.K fb)) (hc : PE X c (tF X.K fc)) (hm : lastMarks [op, op'] [b, c] = false := by with_unfolding_all rfl) :
    PT X (.Compare a [op, op'] [b, c] pos) (tT X.K (fTest (fCh g g' fa fb fc))) := (pt_chain ho ho' ha hb hc hm).imp fun σ H Q h => by
  obtain ⟨C, O, ρ, o, ρ', ek, F, e, q⟩ := tTst h
  exact tChD ⟨C, O, ρ, o, ρ', ek, F, e, q⟩
/-! ### a call by keywords alone, in the reverse order -/
def aRev (fa : FA) : FA := fun ρ => (fa ρ).bind fun p => some (p.1.reverse, p.2)
theorem OpWs.rev : ∀ {vs : List V} {os : List Opd}, OpWs C O σ H vs os → OpWs C O σ H vs.reverse os.reverse := fun {vs os} h => by
  have app : ∀ {vs os vs' os'}, OpWs C O σ H vs os → OpWs C O σ H vs' os' → OpWs C O σ H (vs ++ vs') (os ++ os') := fun {vs os vs' os'} h h' => by
    induction h with
    | nil => exact h'
    | cons a _ ih => exact .cons a ih
  induction h with
  | nil => exact .nil
  | cons a _ ih => rw [List.reverse_cons, List.reverse_cons]; exact app ih (.cons a .nil)
theorem _root_.L2.PK.imp {kws : List Keyword} {t t' : TA} (h : PK X kws t) (i : ∀ σ H Q, t' σ H Q → t σ H Q) : PK X kws t' := ⟨fun pos pins s σ H Q I q => h.run pos pins s σ H Q I (i σ H Q q)⟩
theorem k_nil : PK X [] (tAr X.K aNil) := pk_nil.imp fun σ H Q h => by
  obtain ⟨C, O, ρ, o, ρ', ek, F, e, q⟩ := h
  cases e
  exact q [] H O F .refl .nil
theorem k_cons {nm : Option Str} {e : Expr} {kpos : Pos} {kws : List Keyword} {f : FE} {g : FA} (ha : PE X e (tF X.K f)) (hr : PK X kws (tAr X.K g)) : PK X (⟨nm, e, kpos⟩ :: kws) (tAr X.K (aCons f g)) := (pk_cons ha hr).imp fun σ H Q h => by
  obtain ⟨C, O, ρ, o, ρ', ek, F, e, q⟩ := h
  unfold aCons at e
  cases ea : f ρ with
  | none => rw [ea] at e; cases e
  | some p =>
    obtain ⟨o1, ρ1⟩ := p
    rw [ea, Option.bind_some] at e
    cases eb : g ρ1 with
    | none => simp only [eb] at e; cases e
    | some p2 =>
      obtain ⟨os, ρ2⟩ := p2
      simp only [eb, Option.bind_some] at e
      cases e
      refine ⟨C, O, ρ, o1, ρ1, ek, F, ea, fun v H1 O1 F1 w r => ?_⟩
      exact ⟨C, O1, ρ1, os, _, ek, F1, eb, fun vs H2 O2 F2 w2 r2 => q (v :: vs) H2 O2 F2 (w.trans w2) (.cons (r.w.fw F1 w2) r2)⟩
theorem tArRev {fa : FA} {R : List V → Hp → Prop} (h : tAr K (aRev fa) σ H R) : tAr K fa σ H fun vs H1 => R vs.reverse H1 := by
  obtain ⟨C, O, ρ, os, ρ', ek, F, e, q⟩ := h
  unfold aRev at e
  cases ea : fa ρ with
  | none => rw [ea] at e; cases e
  | some p =>
    rw [ea, Option.bind_some] at e
    cases e
    exact ⟨C, O, ρ, p.1, p.2, ek, F, ea, fun vs H1 O1 F1 w r => q _ H1 O1 F1 w r.rev⟩
theorem d_callR {k n j : Nat} {x : Str} {ps : List Str} {φ : F0} {kws : List Keyword} {fa : FA} {p pos : Pos} (c : Cal X.prog X.w X.K X.mg X.base k x ps (spF0 X.K n φ)) (hn : ∀ ds r, φ ds = some r → ds.length = n) (hr : Room j X.A) (hk : k ≤ j) (ha : PK X kws (tAr X.K fa)) (hg : Gl X x := by rfl)
    (hall : (backToKw pos (keywordEach kws X.env)).all (·.1.isSome) = true := by rfl) (hks : (backToKw pos (keywordEach kws X.env)).filterMap (·.1) = ps.reverse := by rfl) (hdb : (x == ("__debug__" : Str)) = false := by decide)
    (hpl : ((backTo pos (starEach [] X.env)).any (·.1) || (backToKw pos (keywordEach kws X.env)).any (·.1.isNone)) = false := by rfl) : PE X (.Call (.Name x p) [] kws pos) (tF X.K (fCall φ (aRev fa))) := by
  obtain ⟨f, fd, hm, kp, F, b, kr⟩ := c.ex
  refine ⟨fun pins s σ H Q I h => ?_⟩
  have h2 := tArRev (tCallD (E := E0) hn h : tAr X.K (aRev fa) σ H fun vs H1 => spF0 X.K n φ (vs ++ []) H1 Q E0)
  refine wpAny_Call_Name_kw (ld_glob I hg hm ?_ hdb)
  refine PySem.W.callWith_KW0 (h₀ := X.base) I.ok.mod.kin kp hall (thn (ha.run pos pins s σ H _ I h2) fun ws s2 ⟨zs, H2, I2, rz, q2⟩ => ⟨I2.kIn, ?_⟩) hpl
  rw [hks]
  have q2 : spF0 X.K n φ (zs.reverse ++ []) H2 Q E0 := q2
  rw [List.append_nil] at q2
  have hl : ws.length = ps.length := by
    have := F.len _ _ _ _ q2
    rw [List.length_reverse] at this
    rw [← rz.length]; exact this
  refine wpAny_call (codeAny_mono (F.run X.A X.stack s2 H2 ⟨[], ps.reverse.zip ws⟩ ws.reverse zs.reverse Q E0 (hr.mono hk) I2.env0 (kr s2 ws I2.kIn hl) rz.reverse q2) fun r s' hq => ?_)
  cases r with
  | error e => exact False.elim hq
  | ok fl =>
    cases fl with
    | ret u => exact I2.after hq
    | next => exact False.elim hq
    | brk => exact False.elim hq
    | cont => exact False.elim hq
/-! ### the law's end -/
/-- what the law asks: the script is told True -/
theorem law_sp {K : PySem.W.Frag} {H : Hp} {a : Addr} {ns : List Int} {φ : F0} (hO : L2.Only H) (hS : SqL K H a (ns.map V.int)) (h : φ [.frl (ns.map D.int)] = some (.d (.bl true))) : spF0 K 1 φ [.ref a] H (fun v _ => v = .bl true) fun _ _ _ => False := by
  refine ⟨rfl, fun _ => False, [.frl (ns.map D.int)], .d (.bl true), h, fun a h => h.elim, .cons ?_ .nil, fun v H' _ hr => rp_bl (K := K) (H := H') (O := fun _ => False) hr⟩
  rw [Rep]
  refine ⟨a, ns.map V.int, rfl, ?_, Reps.of (by simp) fun i d v h1 h2 => ?_⟩
  · rcases hS with (hS | ⟨o, hS⟩) | hS
    · rcases hO a with z | ⟨o, xs, z⟩
      · rw [hS] at z; cases z
      · rw [hS] at z; cases z
    · exact .inl ⟨o, hS⟩
    · exact .inr hS
  · rw [List.getElem?_map] at h1 h2
    cases e : ns[i]? with
    | none => rw [e] at h1; cases h1
    | some n =>
      rw [e] at h1 h2
      cases h1; cases h2
      rw [Rep]
/-! ### a, b, .. = x, y, .. where the pair is made -/
def gsN : List Nat → TGs
  | [] => gNil
  | i :: is => gCons (gName i) (gsN is)
theorem n_nil : PGs X [] (gsN []) := pgs_nil
theorem n_cons {i : Nat} {is : List Nat} {x : Str} {es : List Expr} {pos : Pos} (hN : X.N.Nodup) (h2 : PGs X es (gsN is)) (hi : X.N[i]? = some x := by rfl) (hx : Loc X.env.scope x := by first | exact Or.inl rfl | exact Or.inr rfl) (hf : X.fn x = true ∨ X.env.scope.names.lookup x = some .local := by first | exact .inl rfl | exact .inr rfl | assumption)
    (hs : (assignEach (.Name x pos :: es) X.env).map (·.2) = assign (.Name x pos) X.env :: (assignEach es X.env).map (·.2) := by rfl) : PGs X (.Name x pos :: es) (gsN (i :: is)) := pgs_cons (pg_name hN hi hx hf) h2 hs
theorem gsN_ok : ∀ {is : List (Nat × Bool)} {vs : List V} {σ : L2.St} {Q : L2.St → Hp → Prop}, vs.length = is.length → Q (setsP is vs σ) H → gsN (is.map (·.1)) vs σ H Q
  | [], [], _, _, _, q => ⟨rfl, q⟩
  | [], _ :: _, _, _, h, _ => by cases h
  | _ :: _, [], _, _, h, _ => by cases h
  | (i, b) :: is, v :: vs, σ, Q, h, q => ⟨v, vs, rfl, gsN_ok (is := is) (by simpa using h) q⟩
theorem OpPs.laid {vs : List V} {os : List Opd} {N : List Addr} {p : Addr} {u : HO} (F : FR C O σ ρ H) (hp : H p = none) (h : OpPs C O σ ρ H vs os N) : OpPs C O σ ρ (upd H p u) vs os N := by
  have rk : ∀ {d v}, Rep C.K H O d v → Rep C.K (upd H p u) O d v := fun r => r.keep (fun b u e _ => updK hp b u e) F.mu fun _ h => h
  induction h with
  | nil => exact .nil
  | val hw n _ ih =>
    rename_i v o _ _ _ _
    refine .val ?_ n ih
    cases o with
    | d x => exact rk hw
    | nw ds => exact rk (show Rep C.K H O (.lst ds) v from hw)
    | sl i => exact hw
  | new hp' n _ ih =>
    obtain ⟨⟨xs, h1, r⟩, h0, o, no⟩ := hp'
    exact .new ⟨⟨xs, updK hp _ _ h1, r.keep (fun b u e _ => updK hp b u e) F.mu fun _ h => h⟩, h0, o, no⟩ n ih
theorem s_parT {is : List (Nat × Bool)} {ts es : List Expr} {fa : FA} {pos pt pt2 : Pos} {kt k2 : Nat} (hc : X.calm = true) (ha : PA X es (tAp X.K fa)) (hg : PGs X ts (gsN (is.map (·.1)))) (hl : is.length ≤ 16777216 := by decide) (hn : (assignEach ts X.env).length = is.length := by rfl) (hst : (assignEach ts X.env).findIdx? (·.1) = none := by rfl)
    (hs : swapsWithSole [.Tuple ts kt pt] (.Tuple es k2 pt2) pos.line X.env = pure false := by rfl) (hw : swappedStores [.Tuple ts kt pt] (.Tuple es k2 pt2) X.env = pure none := by rfl)
    (h1 : (assignEach [.Tuple ts kt pt] X.env).map (·.2) = [assign (.Tuple ts kt pt) X.env] := by rfl) : PS X (.Assign [.Tuple ts kt pt] (.Tuple es k2 pt2) pos) (tS X.K (sPar is fa)) :=
  (ps_asg (pe_tup ha) (pg_tup hc hg hn hst) hs hw h1).imp fun D σ H h => by
    obtain ⟨C, O, ρ, o, ek, F, e, p⟩ := h
    unfold sPar at e
    cases ea : fa ρ with
    | none => rw [ea] at e; cases e
    | some q =>
      obtain ⟨os, ρ1⟩ := q
      rw [ea, Option.bind_some] at e
      cases eb : stP is os ρ1 with
      | none => simp [eb] at e
      | some ρ2 =>
        simp only [eb, Option.bind_some] at e
        cases e
        refine ⟨C, O, ρ, os, ρ1, ek, F, ea, fun vs H1 O1 N F1 w p1 hn => ?_⟩
        have l := p1.len.trans (stP_len eb)
        refine ⟨by rw [sizeLine_eq, l]; exact hl, fun a hp => ⟨a, vs, rfl, .inl (.inl upd_same), l, gsN_ok l (p _ _ O1 (stP_ok (F1.laid hp) (p1.laid F1 hp) eb))⟩⟩
/-! ### constants of the top -/
theorem glo_int {mg : Str → Option Value} {h : Heap} {x : Str} {i : Int} {t : Tok} (X : K.In h) (G : h.Ns mainGlobals mg) (a : PySem.W.nsIn K mainGlobals x = some (some (.int i t))) : Glo K mg x (.int i) := ⟨_, .int i, PySem.W.mg_of X G a, ⟨t, rfl⟩, fun _ _ => by rw [Rep]⟩
theorem glo_str {mg : Str → Option Value} {h : Heap} {x : Str} {i : Str} {t : Tok} (X : K.In h) (G : h.Ns mainGlobals mg) (a : PySem.W.nsIn K mainGlobals x = some (some (.str i t))) : Glo K mg x (.str i) := ⟨_, .str i, PySem.W.mg_of X G a, ⟨t, rfl⟩, fun _ _ => by rw [Rep]⟩
theorem flat_rep {O : AP} : ∀ {ds : List D}, ds.all flatD = true → Reps K H O ds (ds.map toV)
  | [], _ => .nil
  | d :: ds, f => by
    rw [List.all_cons, Bool.and_eq_true] at f
    refine .cons ?_ (flat_rep f.2)
    cases d <;> first | (rw [Rep]; rfl) | exact absurd f.1 (by simp [flatD])
theorem glo_tup {mg : Str → Option Value} {h : Heap} {x : Str} {ds : List D} {p : Addr} {dd : Option Addr} {its : Array Value} {n : Nat} {sl : Array (Option Value)} (X : K.In h) (G : h.Ns mainGlobals mg) (a : PySem.W.nsIn K mainGlobals x = some (some (.ref p)))
    (l : K.lookup p = some ⟨.type "tuple", dd, .seq its n, sl⟩) (r : Vals (ds.map toV) its.toList) (f : ds.all flatD = true) (z : its.size ≤ 16777216) : Glo K mg x (.tup ds) :=
  ⟨_, .ref p, PySem.W.mg_of X G a, rfl, fun H O => by
    rw [Rep]
    exact ⟨p, ds.map toV, rfl, .inr ⟨_, its, n, l, rfl, rfl, by rw [sizeLine_eq]; exact z, r⟩, flat_rep f⟩⟩
end
end Dv

set_option Elab.async false
set_option linter.all false
set_option maxRecDepth 100000
set_option maxHeartbeats 4000000
/-! evaluation of readings, step by step: no rewriting under a binder -/
namespace Dv
open PySem PySem.Spec PyProof.Rows L2
-- expressions
def kRet (ρ : Ev) (x : Option Opd) : Option (Opd × Ev) := x.bind fun z => some (z, ρ)
theorem kRet_s {ρ : Ev} {z : Opd} : kRet ρ (some z) = some (z, ρ) := (rfl)
theorem ev_name {i : Nat} {ρ : Ev} : fName i ρ = kRet ρ (nmS i ρ[i]?) := (rfl)
theorem ev_c {x : D} {ρ : Ev} : fC x ρ = some (.d x, ρ) := (rfl)
theorem nm_val {i : Nat} {d : D} : nmS i (some (.val d)) = some (.d d) := (rfl)
theorem nm_own {i : Nat} {d : List D} : nmS i (some (.own d)) = some (.sl i) := (rfl)
theorem nm_bor {i : Nat} {d : List D} : nmS i (some (.bor d)) = some (.sl i) := (rfl)
theorem der_d {ρ : Ev} {x : D} : der ρ (.d x) = some x := (rfl)
theorem der_nw {ρ : Ev} {x : List D} : der ρ (.nw x) = some (.lst x) := (rfl)
theorem der_sl {ρ : Ev} {i : Nat} : der ρ (.sl i) = slD ρ[i]? := (rfl)
theorem sl_own {d : List D} : slD (some (.own d)) = some (.lst d) := (rfl)
theorem sl_bor {d : List D} : slD (some (.bor d)) = some (.lst d) := (rfl)
theorem sl_val {d : D} : slD (some (.val d)) = some d := (rfl)
def kBin (g : D → D → Option Opd) (fb : FE) (x : Option (Opd × Ev)) : Option (Opd × Ev) := x.bind fun p => (fb p.2).bind fun q => (der q.2 p.1).bind fun x => (der q.2 q.1).bind fun y => (g x y).bind fun z => some (z, q.2)
def kBin2 (g : D → D → Option Opd) (o : Opd) (x : Option (Opd × Ev)) : Option (Opd × Ev) := x.bind fun q => (der q.2 o).bind fun x => (der q.2 q.1).bind fun y => (g x y).bind fun z => some (z, q.2)
def kBin3 (g : D → D → Option Opd) (o2 : Opd) (ρ : Ev) (x : Option D) : Option (Opd × Ev) := x.bind fun x => (der ρ o2).bind fun y => (g x y).bind fun z => some (z, ρ)
def kBin4 (g : D → D → Option Opd) (x : D) (ρ : Ev) (y : Option D) : Option (Opd × Ev) := y.bind fun y => (g x y).bind fun z => some (z, ρ)
theorem ev_bin {g : D → D → Option Opd} {fa fb : FE} {ρ : Ev} : fBin g fa fb ρ = kBin g fb (fa ρ) := (rfl)
theorem kBin_s {g : D → D → Option Opd} {fb : FE} {o : Opd} {ρ : Ev} : kBin g fb (some (o, ρ)) = kBin2 g o (fb ρ) := (rfl)
theorem kBin2_s {g : D → D → Option Opd} {o o2 : Opd} {ρ : Ev} : kBin2 g o (some (o2, ρ)) = kBin3 g o2 ρ (der ρ o) := (rfl)
theorem kBin3_s {g : D → D → Option Opd} {o2 : Opd} {x : D} {ρ : Ev} : kBin3 g o2 ρ (some x) = kBin4 g x ρ (der ρ o2) := (rfl)
theorem kBin4_s {g : D → D → Option Opd} {x y : D} {ρ : Ev} : kBin4 g x ρ (some y) = kRet ρ (g x y) := (rfl)
def kOne (g : D → Option Opd) (x : Option (Opd × Ev)) : Option (Opd × Ev) := x.bind fun p => (der p.2 p.1).bind fun x => (g x).bind fun z => some (z, p.2)
def kOne2 (g : D → Option Opd) (ρ : Ev) (x : Option D) : Option (Opd × Ev) := x.bind fun x => (g x).bind fun z => some (z, ρ)
theorem ev_b1 {g : D → Option Opd} {f : FE} {ρ : Ev} : fB1 g f ρ = kOne g (f ρ) := (rfl)
theorem kOne_s {g : D → Option Opd} {o : Opd} {ρ : Ev} : kOne g (some (o, ρ)) = kOne2 g ρ (der ρ o) := (rfl)
theorem kOne2_s {g : D → Option Opd} {x : D} {ρ : Ev} : kOne2 g ρ (some x) = kRet ρ (g x) := (rfl)
def kRetD (ρ : Ev) (x : Option D) : Option (Opd × Ev) := x.bind fun z => some (.d z, ρ)
theorem kRetD_s {ρ : Ev} {z : D} : kRetD ρ (some z) = some (.d z, ρ) := (rfl)
def kUn1 (g : D → Option D) (x : Option (Opd × Ev)) : Option (Opd × Ev) := x.bind fun p => (der p.2 p.1).bind fun x => (g x).bind fun z => some (.d z, p.2)
def kUn12 (g : D → Option D) (ρ : Ev) (x : Option D) : Option (Opd × Ev) := x.bind fun x => (g x).bind fun z => some (.d z, ρ)
theorem ev_un {g : D → Option D} {f : FE} {ρ : Ev} : fUn g f ρ = kUn1 g (f ρ) := (rfl)
theorem kUn1_s {g : D → Option D} {o : Opd} {ρ : Ev} : kUn1 g (some (o, ρ)) = kUn12 g ρ (der ρ o) := (rfl)
theorem kUn12_s {g : D → Option D} {x : D} {ρ : Ev} : kUn12 g ρ (some x) = kRetD ρ (g x) := (rfl)
theorem gNeg_i {i : Int} : gNeg (.int i) = some (.int (-i)) := (rfl)
-- tests
def kTst (x : Option (Opd × Ev)) : Option (Bool × Ev) := x.bind asB
theorem ev_test {f : FE} {ρ : Ev} : fTest f ρ = kTst (f ρ) := (rfl)
theorem kTst_s {b : Bool} {ρ : Ev} : kTst (some (.d (.bl b), ρ)) = some (b, ρ) := (rfl)
def kAnd (fu : FT) (x : Option (Bool × Ev)) : Option (Bool × Ev) := x.bind fun p => if p.1 then fu p.2 else some (false, p.2)
def kOr (fu : FT) (x : Option (Bool × Ev)) : Option (Bool × Ev) := x.bind fun p => if p.1 then some (true, p.2) else fu p.2
def kNot (x : Option (Bool × Ev)) : Option (Bool × Ev) := x.bind fun p => some (!p.1, p.2)
theorem ev_and {ft fu : FT} {ρ : Ev} : fAnd ft fu ρ = kAnd fu (ft ρ) := (rfl)
theorem ev_or {ft fu : FT} {ρ : Ev} : fOr ft fu ρ = kOr fu (ft ρ) := (rfl)
theorem ev_not {ft : FT} {ρ : Ev} : fNot ft ρ = kNot (ft ρ) := (rfl)
theorem kAnd_t {fu : FT} {ρ : Ev} : kAnd fu (some (true, ρ)) = fu ρ := (rfl)
theorem kAnd_f {fu : FT} {ρ : Ev} : kAnd fu (some (false, ρ)) = some (false, ρ) := (rfl)
theorem kOr_t {fu : FT} {ρ : Ev} : kOr fu (some (true, ρ)) = some (true, ρ) := (rfl)
theorem kOr_f {fu : FT} {ρ : Ev} : kOr fu (some (false, ρ)) = fu ρ := (rfl)
theorem kNot_s {b : Bool} {ρ : Ev} : kNot (some (b, ρ)) = some (!b, ρ) := (rfl)
def kBl (x : Option (Bool × Ev)) : Option (Opd × Ev) := x.bind fun p => some (.d (.bl p.1), p.2)
theorem ev_notV {f : FE} {ρ : Ev} : fNotV f ρ = kBl (kNot (kTst (f ρ))) := (rfl)
theorem kBl_s {b : Bool} {ρ : Ev} : kBl (some (b, ρ)) = some (.d (.bl b), ρ) := (rfl)
def kAndV (g : FE) (x : Option (Bool × Ev)) : Option (Opd × Ev) := x.bind fun p => if p.1 then g p.2 else some (.d (.bl false), p.2)
def kOrV (g : FE) (x : Option (Bool × Ev)) : Option (Opd × Ev) := x.bind fun p => if p.1 then some (.d (.bl true), p.2) else g p.2
theorem ev_andV {f g : FE} {ρ : Ev} : fAndV f g ρ = kAndV g (kTst (f ρ)) := (rfl)
theorem ev_orV {f g : FE} {ρ : Ev} : fOrV f g ρ = kOrV g (kTst (f ρ)) := (rfl)
theorem kAndV_t {g : FE} {ρ : Ev} : kAndV g (some (true, ρ)) = g ρ := (rfl)
theorem kAndV_f {g : FE} {ρ : Ev} : kAndV g (some (false, ρ)) = some (.d (.bl false), ρ) := (rfl)
theorem kOrV_t {g : FE} {ρ : Ev} : kOrV g (some (true, ρ)) = some (.d (.bl true), ρ) := (rfl)
theorem kOrV_f {g : FE} {ρ : Ev} : kOrV g (some (false, ρ)) = g ρ := (rfl)
def kIfE (fa fb : FE) (x : Option (Bool × Ev)) : Option (Opd × Ev) := x.bind fun p => if p.1 then fa p.2 else fb p.2
theorem ev_if {ft : FT} {fa fb : FE} {ρ : Ev} : fIf ft fa fb ρ = kIfE fa fb (ft ρ) := (rfl)
theorem kIfE_t {fa fb : FE} {ρ : Ev} : kIfE fa fb (some (true, ρ)) = fa ρ := (rfl)
theorem kIfE_f {fa fb : FE} {ρ : Ev} : kIfE fa fb (some (false, ρ)) = fb ρ := (rfl)
theorem ev_yes {ρ : Ev} : fYes ρ = some (true, ρ) := (rfl)
-- chains
def kCh (g g' : D → D → Option Opd) (fb fc : FE) (x : Option (Opd × Ev)) : Option (Opd × Ev) := fCh g g' (fun _ => x) fb fc []
def kCh2 (g g' : D → D → Option Opd) (fc : FE) (o : Opd) (x : Option (Opd × Ev)) : Option (Opd × Ev) := x.bind fun q => (der q.2 o).bind fun x => (der q.2 q.1).bind fun y => (g x y).bind fun z => match z with
  | .d (.bl true) => (fc q.2).bind fun r => (der r.2 q.1).bind fun y' => (der r.2 r.1).bind fun w => (g' y' w).bind fun z => some (z, r.2)
  | .d (.bl false) => some (.d (.bl false), q.2)
  | _ => none
def kCh3 (g g' : D → D → Option Opd) (fc : FE) (o2 : Opd) (ρ : Ev) (x : Option D) : Option (Opd × Ev) := x.bind fun x => (der ρ o2).bind fun y => (g x y).bind fun z => match z with
  | .d (.bl true) => (fc ρ).bind fun r => (der r.2 o2).bind fun y' => (der r.2 r.1).bind fun w => (g' y' w).bind fun z => some (z, r.2)
  | .d (.bl false) => some (.d (.bl false), ρ)
  | _ => none
def kCh4 (g g' : D → D → Option Opd) (fc : FE) (o2 : Opd) (x : D) (ρ : Ev) (y : Option D) : Option (Opd × Ev) := y.bind fun y => (g x y).bind fun z => match z with
  | .d (.bl true) => (fc ρ).bind fun r => (der r.2 o2).bind fun y' => (der r.2 r.1).bind fun w => (g' y' w).bind fun z => some (z, r.2)
  | .d (.bl false) => some (.d (.bl false), ρ)
  | _ => none
def kCh5 (g' : D → D → Option Opd) (fc : FE) (o2 : Opd) (ρ : Ev) (z : Option Opd) : Option (Opd × Ev) := z.bind fun z => match z with
  | .d (.bl true) => (fc ρ).bind fun r => (der r.2 o2).bind fun y' => (der r.2 r.1).bind fun w => (g' y' w).bind fun z => some (z, r.2)
  | .d (.bl false) => some (.d (.bl false), ρ)
  | _ => none
theorem ev_ch {g g' : D → D → Option Opd} {fa fb fc : FE} {ρ : Ev} : fCh g g' fa fb fc ρ = kCh g g' fb fc (fa ρ) := (rfl)
theorem kCh_s {g g' : D → D → Option Opd} {fb fc : FE} {o : Opd} {ρ : Ev} : kCh g g' fb fc (some (o, ρ)) = kCh2 g g' fc o (fb ρ) := (rfl)
theorem kCh2_s {g g' : D → D → Option Opd} {fc : FE} {o o2 : Opd} {ρ : Ev} : kCh2 g g' fc o (some (o2, ρ)) = kCh3 g g' fc o2 ρ (der ρ o) := (rfl)
theorem kCh3_s {g g' : D → D → Option Opd} {fc : FE} {o2 : Opd} {ρ : Ev} {x : D} : kCh3 g g' fc o2 ρ (some x) = kCh4 g g' fc o2 x ρ (der ρ o2) := (rfl)
theorem kCh4_s {g g' : D → D → Option Opd} {fc : FE} {o2 : Opd} {ρ : Ev} {x y : D} : kCh4 g g' fc o2 x ρ (some y) = kCh5 g' fc o2 ρ (g x y) := (rfl)
theorem kCh5_t {g' : D → D → Option Opd} {fc : FE} {o2 : Opd} {ρ : Ev} : kCh5 g' fc o2 ρ (some (.d (.bl true))) = kBin2 g' o2 (fc ρ) := (rfl)
theorem kCh5_f {g' : D → D → Option Opd} {fc : FE} {o2 : Opd} {ρ : Ev} : kCh5 g' fc o2 ρ (some (.d (.bl false))) = some (.d (.bl false), ρ) := (rfl)
-- arguments, displays
def kC1 (g : FA) (x : Option (Opd × Ev)) : Option (List Opd × Ev) := x.bind fun p => (g p.2).bind fun q => some (p.1 :: q.1, q.2)
def kC2 (o : Opd) (x : Option (List Opd × Ev)) : Option (List Opd × Ev) := x.bind fun q => some (o :: q.1, q.2)
theorem ev_nil {ρ : Ev} : aNil ρ = some ([], ρ) := (rfl)
theorem ev_cons {f : FE} {g : FA} {ρ : Ev} : aCons f g ρ = kC1 g (f ρ) := (rfl)
theorem kC1_s {g : FA} {o : Opd} {ρ : Ev} : kC1 g (some (o, ρ)) = kC2 o (g ρ) := (rfl)
theorem kC2_s {o : Opd} {os : List Opd} {ρ : Ev} : kC2 o (some (os, ρ)) = some (o :: os, ρ) := (rfl)
def kRv (x : Option (List Opd × Ev)) : Option (List Opd × Ev) := x.bind fun p => some (p.1.reverse, p.2)
theorem ev_rev {fa : FA} {ρ : Ev} : aRev fa ρ = kRv (fa ρ) := (rfl)
theorem kRv_s {os : List Opd} {ρ : Ev} : kRv (some (os, ρ)) = some (os.reverse, ρ) := (rfl)
def kX1 (os : List Opd) (x : Option (D × Ev)) : Option (List D × Ev) := x.bind fun p => (escs os p.2).bind fun q => some (p.1 :: q.1, q.2)
def kX2 (d : D) (x : Option (List D × Ev)) : Option (List D × Ev) := x.bind fun q => some (d :: q.1, q.2)
theorem escs_nil {ρ : Ev} : escs [] ρ = some ([], ρ) := (rfl)
theorem escs_cons {o : Opd} {os : List Opd} {ρ : Ev} : escs (o :: os) ρ = kX1 os (esc o ρ) := (rfl)
theorem kX1_s {os : List Opd} {d : D} {ρ : Ev} : kX1 os (some (d, ρ)) = kX2 d (escs os ρ) := (rfl)
theorem kX2_s {d : D} {ds : List D} {ρ : Ev} : kX2 d (some (ds, ρ)) = some (d :: ds, ρ) := (rfl)
theorem esc_d {x : D} {ρ : Ev} : esc (.d x) ρ = some (x, ρ) := (rfl)
theorem esc_nw {x : List D} {ρ : Ev} : esc (.nw x) ρ = some (.lst x, ρ) := (rfl)
theorem esc_sl {i : Nat} {ρ : Ev} : esc (.sl i) ρ = escS i ρ ρ[i]? := (rfl)
theorem escS_own {i : Nat} {ρ : Ev} {ds : List D} : escS i ρ (some (.own ds)) = some (.lst ds, ρ.set i (.val (.lst ds))) := (rfl)
theorem escS_val {i : Nat} {ρ : Ev} {d : D} : escS i ρ (some (.val d)) = some (d, ρ) := (rfl)
def kT1 (x : Option (List Opd × Ev)) : Option (Opd × Ev) := x.bind fun p => (escs p.1 p.2).bind fun q => if q.1.length ≤ 16777216 then some (.d (.tup q.1), q.2) else none
def kT2 (x : Option (List D × Ev)) : Option (Opd × Ev) := x.bind fun q => if q.1.length ≤ 16777216 then some (.d (.tup q.1), q.2) else none
theorem ev_tup {g : FA} {ρ : Ev} : fTup g ρ = kT1 (g ρ) := (rfl)
theorem kT1_s {os : List Opd} {ρ : Ev} : kT1 (some (os, ρ)) = kT2 (escs os ρ) := (rfl)
theorem kT2_s {ds : List D} {ρ : Ev} (h : ds.length ≤ 16777216) : kT2 (some (ds, ρ)) = some (.d (.tup ds), ρ) := if_pos h
def kL1 (x : Option (List Opd × Ev)) : Option (Opd × Ev) := x.bind fun p => (escs p.1 p.2).bind fun q => if q.1.length ≤ 16777216 then some (.nw q.1, q.2) else none
def kL2 (x : Option (List D × Ev)) : Option (Opd × Ev) := x.bind fun q => if q.1.length ≤ 16777216 then some (.nw q.1, q.2) else none
theorem ev_lst {g : FA} {ρ : Ev} : fLst g ρ = kL1 (g ρ) := (rfl)
theorem kL1_s {os : List Opd} {ρ : Ev} : kL1 (some (os, ρ)) = kL2 (escs os ρ) := (rfl)
theorem kL2_s {ds : List D} {ρ : Ev} (h : ds.length ≤ 16777216) : kL2 (some (ds, ρ)) = some (.nw ds, ρ) := if_pos h
-- slices
def kPI (x : Option (Opd × Ev)) : Option (Option Int × Ev) := x.bind asI
theorem ev_pno {ρ : Ev} : pNo ρ = some (none, ρ) := (rfl)
theorem ev_pzero {ρ : Ev} : pZero ρ = some (some 0, ρ) := (rfl)
theorem ev_pint {f : FE} {ρ : Ev} : pInt f ρ = kPI (f ρ) := (rfl)
theorem kPI_s {i : Int} {ρ : Ev} : kPI (some (.d (.int i), ρ)) = some (some i, ρ) := (rfl)
def kS1 (fl fh : FP) (x : Option (Opd × Ev)) : Option (Opd × Ev) := x.bind fun p => (fl p.2).bind fun l => (fh l.2).bind fun h => (der h.2 p.1).bind fun x => (gSl x l.1 h.1).bind fun z => some (z, h.2)
def kS2 (fh : FP) (o : Opd) (x : Option (Option Int × Ev)) : Option (Opd × Ev) := x.bind fun l => (fh l.2).bind fun h => (der h.2 o).bind fun x => (gSl x l.1 h.1).bind fun z => some (z, h.2)
def kS3 (o : Opd) (l : Option Int) (x : Option (Option Int × Ev)) : Option (Opd × Ev) := x.bind fun h => (der h.2 o).bind fun x => (gSl x l h.1).bind fun z => some (z, h.2)
def kS4 (l h : Option Int) (ρ : Ev) (x : Option D) : Option (Opd × Ev) := x.bind fun x => (gSl x l h).bind fun z => some (z, ρ)
theorem ev_sl {f : FE} {fl fh : FP} {ρ : Ev} : fSl f fl fh ρ = kS1 fl fh (f ρ) := (rfl)
theorem kS1_s {fl fh : FP} {o : Opd} {ρ : Ev} : kS1 fl fh (some (o, ρ)) = kS2 fh o (fl ρ) := (rfl)
theorem kS2_s {fh : FP} {o : Opd} {l : Option Int} {ρ : Ev} : kS2 fh o (some (l, ρ)) = kS3 o l (fh ρ) := (rfl)
theorem kS3_s {o : Opd} {l h : Option Int} {ρ : Ev} : kS3 o l (some (h, ρ)) = kS4 l h ρ (der ρ o) := (rfl)
theorem kS4_s {l h : Option Int} {ρ : Ev} {x : D} : kS4 l h ρ (some x) = kRet ρ (gSl x l h) := (rfl)
def kR1 (g : FP) (x : Option (Option Int × Ev)) : Option (Opd × Ev) := x.bind fun p => (g p.2).bind fun q => p.1.bind fun i => q.1.bind fun j => if -(2 ^ 62) ≤ i ∧ i < 2 ^ 62 ∧ -(2 ^ 62) ≤ j ∧ j < 2 ^ 62 ∧ (j - i).toNat ≤ 16777216 then some (.nw (rgD i (j - i).toNat), q.2) else none
def kR2 (i : Option Int) (x : Option (Option Int × Ev)) : Option (Opd × Ev) := x.bind fun q => i.bind fun i => q.1.bind fun j => if -(2 ^ 62) ≤ i ∧ i < 2 ^ 62 ∧ -(2 ^ 62) ≤ j ∧ j < 2 ^ 62 ∧ (j - i).toNat ≤ 16777216 then some (.nw (rgD i (j - i).toNat), q.2) else none
theorem ev_lrg {f g : FP} {ρ : Ev} : fLRg f g ρ = kR1 g (f ρ) := (rfl)
theorem kR1_s {g : FP} {i : Option Int} {ρ : Ev} : kR1 g (some (i, ρ)) = kR2 i (g ρ) := (rfl)
theorem kR2_s {i j : Int} {ρ : Ev} (h : -(2 ^ 62) ≤ i ∧ i < 2 ^ 62 ∧ -(2 ^ 62) ≤ j ∧ j < 2 ^ 62 ∧ (j - i).toNat ≤ 16777216) : kR2 (some i) (some (some j, ρ)) = some (.nw (rgD i (j - i).toNat), ρ) := if_pos h
-- calls
def kF1 (φ : F0) (x : Option (List Opd × Ev)) : Option (Opd × Ev) := x.bind fun p => (ders p.2 p.1).bind fun ds => (φ ds).bind fun r => if p.1.all notSl = true ∨ noLr r = true then some (r.o, p.2) else none
def kF2 (φ : F0) (os : List Opd) (ρ : Ev) (x : Option (List D)) : Option (Opd × Ev) := x.bind fun ds => (φ ds).bind fun r => if os.all notSl = true ∨ noLr r = true then some (r.o, ρ) else none
def kF3 (os : List Opd) (ρ : Ev) (x : Option Rt) : Option (Opd × Ev) := x.bind fun r => if os.all notSl = true ∨ noLr r = true then some (r.o, ρ) else none
theorem ev_call {φ : F0} {fa : FA} {ρ : Ev} : fCall φ fa ρ = kF1 φ (fa ρ) := (rfl)
theorem kF1_s {φ : F0} {os : List Opd} {ρ : Ev} : kF1 φ (some (os, ρ)) = kF2 φ os ρ (ders ρ os) := (rfl)
theorem kF2_s {φ : F0} {os : List Opd} {ρ : Ev} {ds : List D} : kF2 φ os ρ (some ds) = kF3 os ρ (φ ds) := (rfl)
theorem kF3_s {os : List Opd} {ρ : Ev} {r : Rt} (h : (os.all notSl || noLr r) = true) : kF3 os ρ (some r) = some (r.o, ρ) := if_pos (by simpa using h)
theorem ders_nil {ρ : Ev} : ders ρ [] = some [] := (rfl)
def kD1 (os : List Opd) (ρ : Ev) (x : Option D) : Option (List D) := x.bind fun x => (ders ρ os).bind fun xs => some (x :: xs)
def kD2 (x : D) (xs : Option (List D)) : Option (List D) := xs.bind fun xs => some (x :: xs)
theorem ders_cons {o : Opd} {os : List Opd} {ρ : Ev} : ders ρ (o :: os) = kD1 os ρ (der ρ o) := (rfl)
theorem kD1_s {os : List Opd} {ρ : Ev} {x : D} : kD1 os ρ (some x) = kD2 x (ders ρ os) := (rfl)
theorem kD2_s {x : D} {xs : List D} : kD2 x (some xs) = some (x :: xs) := (rfl)
theorem rt_d {x : D} : Rt.o (.d x) = .d x := (rfl)
theorem rt_nw {x : List D} : Rt.o (.nw x) = .nw x := (rfl)
def kG1 (φ : F1) (x : Option (List Opd × Ev)) : Option (Opd × Ev) := x.bind fun p => (slotOf p.1).bind fun q => (ownD p.2[q.1]?).bind fun ds0 => (ders p.2 q.2).bind fun ds =>
  if q.2.all notSl = true then (φ (.lst ds0 :: ds)).bind fun r => some (r.1.o, p.2.set q.1 (putS p.2[q.1]? r.2)) else none
def kG2 (φ : F1) (i : Nat) (os : List Opd) (ρ : Ev) (x : Option (List D)) : Option (Opd × Ev) := x.bind fun ds0 => (ders ρ os).bind fun ds => if os.all notSl = true then (φ (.lst ds0 :: ds)).bind fun r => some (r.1.o, ρ.set i (putS ρ[i]? r.2)) else none
def kG3 (φ : F1) (i : Nat) (os : List Opd) (ρ : Ev) (ds0 : List D) (x : Option (List D)) : Option (Opd × Ev) := x.bind fun ds => if os.all notSl = true then (φ (.lst ds0 :: ds)).bind fun r => some (r.1.o, ρ.set i (putS ρ[i]? r.2)) else none
def kG4 (i : Nat) (ρ : Ev) (x : Option (Rt × List D)) : Option (Opd × Ev) := x.bind fun r => some (r.1.o, ρ.set i (putS ρ[i]? r.2))
theorem ev_call1 {φ : F1} {fa : FA} {ρ : Ev} : fCall1 φ fa ρ = kG1 φ (fa ρ) := (rfl)
theorem kG1_s {φ : F1} {i : Nat} {os : List Opd} {ρ : Ev} : kG1 φ (some (.sl i :: os, ρ)) = kG2 φ i os ρ (ownD ρ[i]?) := (rfl)
theorem kG2_s {φ : F1} {i : Nat} {os : List Opd} {ρ : Ev} {ds0 : List D} : kG2 φ i os ρ (some ds0) = kG3 φ i os ρ ds0 (ders ρ os) := (rfl)
theorem kG3_s {φ : F1} {i : Nat} {os : List Opd} {ρ : Ev} {ds0 ds : List D} (h : os.all notSl = true) : kG3 φ i os ρ ds0 (some ds) = kG4 i ρ (φ (.lst ds0 :: ds)) := if_pos h
theorem kG4_s {i : Nat} {ρ : Ev} {r : Rt} {out : List D} : kG4 i ρ (some (r, out)) = some (r.o, ρ.set i (putS ρ[i]? out)) := (rfl)
theorem ow_own {ds : List D} : ownD (some (.own ds)) = some ds := (rfl)
theorem ow_bor {ds : List D} : ownD (some (.bor ds)) = some ds := (rfl)
theorem put_own {ds es : List D} : putS (some (.own ds)) es = .own es := (rfl)
theorem put_bor {ds es : List D} : putS (some (.bor ds)) es = .bor es := (rfl)
-- what is walked
def kI1 (x : Option (Opd × Ev)) : Option (List D × Ev) := x.bind fun p => (esc p.1 p.2).bind fun q => (items q.1).bind fun ds => some (ds, q.2)
def kI2 (x : Option (D × Ev)) : Option (List D × Ev) := x.bind fun q => (items q.1).bind fun ds => some (ds, q.2)
theorem ev_iseq {f : FE} {ρ : Ev} : iSeq f ρ = kI1 (f ρ) := (rfl)
theorem kI1_s {o : Opd} {ρ : Ev} : kI1 (some (o, ρ)) = kI2 (esc o ρ) := (rfl)
theorem kI2_t {ds : List D} {ρ : Ev} : kI2 (some (.tup ds, ρ)) = some (ds, ρ) := (rfl)
theorem kI2_l {ds : List D} {ρ : Ev} : kI2 (some (.lst ds, ρ)) = some (ds, ρ) := (rfl)
theorem kI2_f {ds : List D} {ρ : Ev} : kI2 (some (.frl ds, ρ)) = some (ds, ρ) := (rfl)
def kN1 (x : Option (Option Int × Ev)) : Option (List D × Ev) := x.bind fun p => p.1.bind fun j => if -(2 ^ 62) ≤ j ∧ j < 2 ^ 62 then some (rgD 0 j.toNat, p.2) else none
theorem ev_irg1 {f : FP} {ρ : Ev} : iRg1 f ρ = kN1 (f ρ) := (rfl)
theorem kN1_s {j : Int} {ρ : Ev} (h : -(2 ^ 62) ≤ j ∧ j < 2 ^ 62) : kN1 (some (some j, ρ)) = some (rgD 0 j.toNat, ρ) := if_pos h
def kN2 (g : FP) (x : Option (Option Int × Ev)) : Option (List D × Ev) := x.bind fun p => (g p.2).bind fun q => p.1.bind fun i => q.1.bind fun j => if -(2 ^ 62) ≤ i ∧ i < 2 ^ 62 ∧ -(2 ^ 62) ≤ j ∧ j < 2 ^ 62 then some (rgD i (j - i).toNat, q.2) else none
def kN3 (i : Option Int) (x : Option (Option Int × Ev)) : Option (List D × Ev) := x.bind fun q => i.bind fun i => q.1.bind fun j => if -(2 ^ 62) ≤ i ∧ i < 2 ^ 62 ∧ -(2 ^ 62) ≤ j ∧ j < 2 ^ 62 then some (rgD i (j - i).toNat, q.2) else none
theorem ev_irg2 {f g : FP} {ρ : Ev} : iRg2 f g ρ = kN2 g (f ρ) := (rfl)
theorem kN2_s {g : FP} {i : Option Int} {ρ : Ev} : kN2 g (some (i, ρ)) = kN3 i (g ρ) := (rfl)
theorem kN3_s {i j : Int} {ρ : Ev} (h : -(2 ^ 62) ≤ i ∧ i < 2 ^ 62 ∧ -(2 ^ 62) ≤ j ∧ j < 2 ^ 62) : kN3 (some i) (some (some j, ρ)) = some (rgD i (j - i).toNat, ρ) := if_pos h
-- comprehensions
def kV1 (t : Tg) (ft : FT) (fe : FE) (vs : List Nat) (x : Option (List D × Ev)) : Option (Opd × Ev) := x.bind fun p => (lcD t ft fe vs p.1 (wipeE p.2 vs) []).bind fun q => some (.nw q.1, backE p.2 q.2 vs)
def kV2 (ρ : Ev) (vs : List Nat) (x : Option (List D × Ev)) : Option (Opd × Ev) := x.bind fun q => some (.nw q.1, backE ρ q.2 vs)
theorem ev_lc {fi : FI} {t : Tg} {ft : FT} {fe : FE} {vs : List Nat} {ρ : Ev} : fLc fi t ft fe vs ρ = kV1 t ft fe vs (fi ρ) := (rfl)
theorem kV1_s {t : Tg} {ft : FT} {fe : FE} {vs : List Nat} {ds : List D} {ρ : Ev} : kV1 t ft fe vs (some (ds, ρ)) = kV2 ρ vs (lcD t ft fe vs ds (wipeE ρ vs) []) := (rfl)
theorem kV2_s {ρ ρ2 : Ev} {vs : List Nat} {acc : List D} : kV2 ρ vs (some (acc, ρ2)) = some (.nw acc, backE ρ ρ2 vs) := (rfl)
-- statements
def kSeq (h : FS) (x : Option Out) : Option Out := x.bind fun o => match o with
  | .nx ρ' => h ρ'
  | o => some o
theorem ev_seq {g h : FS} {ρ : Ev} : sSeq g h ρ = kSeq h (g ρ) := (rfl)
theorem kSeq_n {h : FS} {ρ : Ev} : kSeq h (some (.nx ρ)) = h ρ := (rfl)
theorem kSeq_r {h : FS} {o : Opd} {ρ : Ev} : kSeq h (some (.rt o ρ)) = some (.rt o ρ) := (rfl)
theorem kSeq_b {h : FS} {ρ : Ev} : kSeq h (some (.bk ρ)) = some (.bk ρ) := (rfl)
theorem kSeq_c {h : FS} {ρ : Ev} : kSeq h (some (.ct ρ)) = some (.ct ρ) := (rfl)
theorem ev_skip {ρ : Ev} : sSkip ρ = some (.nx ρ) := (rfl)
theorem ev_break {ρ : Ev} : sBreak ρ = some (.bk ρ) := (rfl)
theorem ev_cont {ρ : Ev} : sCont ρ = some (.ct ρ) := (rfl)
theorem ev_retN {ρ : Ev} : sRetN ρ = some (.rt (.d .non) ρ) := (rfl)
def kRt (x : Option (Opd × Ev)) : Option Out := x.bind fun p => some (.rt p.1 p.2)
theorem ev_ret {f : FE} {ρ : Ev} : sRet f ρ = kRt (f ρ) := (rfl)
theorem kRt_s {o : Opd} {ρ : Ev} : kRt (some (o, ρ)) = some (.rt o ρ) := (rfl)
def kIf (g h : FS) (x : Option (Bool × Ev)) : Option Out := x.bind fun p => if p.1 then g p.2 else h p.2
theorem ev_sif {ft : FT} {g h : FS} {ρ : Ev} : sIf ft g h ρ = kIf g h (ft ρ) := (rfl)
theorem kIf_t {g h : FS} {ρ : Ev} : kIf g h (some (true, ρ)) = g ρ := (rfl)
theorem kIf_f {g h : FS} {ρ : Ev} : kIf g h (some (false, ρ)) = h ρ := (rfl)
def kDr (x : Option (Opd × Ev)) : Option Out := x.bind fun p => some (.nx p.2)
theorem ev_drop {f : FE} {ρ : Ev} : sDrop f ρ = kDr (f ρ) := (rfl)
theorem kDr_s {o : Opd} {ρ : Ev} : kDr (some (o, ρ)) = some (.nx ρ) := (rfl)
def kSt (i : Nat) (x : Option (Opd × Ev)) : Option Out := x.bind (stV i)
def kSt2 (i : Nat) (x : Option (D × Ev)) : Option Out := x.bind fun q => some (.nx (q.2.set i (.val q.1)))
theorem ev_set {i : Nat} {f : FE} {ρ : Ev} : sSet i f ρ = kSt i (f ρ) := (rfl)
theorem kSt_s {i : Nat} {o : Opd} {ρ : Ev} : kSt i (some (o, ρ)) = kSt2 i (esc o ρ) := (rfl)
theorem kSt2_s {i : Nat} {d : D} {ρ : Ev} : kSt2 i (some (d, ρ)) = some (.nx (ρ.set i (.val d))) := (rfl)
def kOw (i : Nat) (x : Option (Opd × Ev)) : Option Out := x.bind (stO i)
theorem ev_own {i : Nat} {f : FE} {ρ : Ev} : sOwn i f ρ = kOw i (f ρ) := (rfl)
theorem kOw_s {i : Nat} {ds : List D} {ρ : Ev} : kOw i (some (.nw ds, ρ)) = some (.nx (ρ.set i (.own ds))) := (rfl)
def kUn (t : Tg) (x : Option (Opd × Ev)) : Option Out := x.bind (stT t)
def kUn2 (t : Tg) (x : Option (D × Ev)) : Option Out := x.bind fun q => (bindT t q.1 q.2).bind fun ρ => some (.nx ρ)
def kNx (x : Option Ev) : Option Out := x.bind fun ρ => some (.nx ρ)
theorem ev_unp {t : Tg} {f : FE} {ρ : Ev} : sUnp t f ρ = kUn t (f ρ) := (rfl)
theorem kUn_s {t : Tg} {o : Opd} {ρ : Ev} : kUn t (some (o, ρ)) = kUn2 t (esc o ρ) := (rfl)
theorem kUn2_s {t : Tg} {d : D} {ρ : Ev} : kUn2 t (some (d, ρ)) = kNx (bindT t d ρ) := (rfl)
theorem kNx_s {ρ : Ev} : kNx (some ρ) = some (.nx ρ) := (rfl)
theorem bt_nm {i : Nat} {d : D} {ρ : Ev} : bindT (.nm i) d ρ = some (ρ.set i (.val d)) := (rfl)
theorem bt_tp {is : List Nat} {ds : List D} {ρ : Ev} : bindT (.tp is) (.tup ds) ρ = setAll is ds ρ := (rfl)
theorem sa_nil {ρ : Ev} : setAll [] [] ρ = some ρ := (rfl)
theorem sa_cons {i : Nat} {is : List Nat} {d : D} {ds : List D} {ρ : Ev} : setAll (i :: is) (d :: ds) ρ = setAll is ds (ρ.set i (.val d)) := (rfl)
def kPa (is : List (Nat × Bool)) (x : Option (List Opd × Ev)) : Option Out := x.bind fun p => (stP is p.1 p.2).bind fun ρ' => some (.nx ρ')
theorem ev_par {is : List (Nat × Bool)} {fa : FA} {ρ : Ev} : sPar is fa ρ = kPa is (fa ρ) := (rfl)
theorem kPa_s {is : List (Nat × Bool)} {os : List Opd} {ρ : Ev} : kPa is (some (os, ρ)) = kNx (stP is os ρ) := (rfl)
theorem sp_nil {ρ : Ev} : stP [] [] ρ = some ρ := (rfl)
theorem sp_own {i : Nat} {is : List (Nat × Bool)} {ds : List D} {os : List Opd} {ρ : Ev} : stP ((i, true) :: is) (.nw ds :: os) ρ = stP is os (ρ.set i (.own ds)) := (rfl)
theorem sp_val {i : Nat} {is : List (Nat × Bool)} {d : D} {os : List Opd} {ρ : Ev} : stP ((i, false) :: is) (.d d :: os) ρ = stP is os (ρ.set i (.val d)) := (rfl)
def kAp (i : Nat) (f : FE) (ρ : Ev) (x : Option (List D)) : Option Out := x.bind fun _ => (f ρ).bind fun p => (esc p.1 p.2).bind (apD i)
def kAp2 (i : Nat) (x : Option (Opd × Ev)) : Option Out := x.bind fun p => (esc p.1 p.2).bind (apD i)
def kAp3 (i : Nat) (x : Option (D × Ev)) : Option Out := x.bind (apD i)
def kAp4 (i : Nat) (d : D) (ρ : Ev) (x : Option (List D)) : Option Out := x.bind fun ds => if ds.length < 16777216 then some (.nx (ρ.set i (putS ρ[i]? (ds ++ [d])))) else none
theorem ev_app {i : Nat} {f : FE} {ρ : Ev} : sApp i f ρ = kAp i f ρ (ownD ρ[i]?) := (rfl)
theorem kAp_s {i : Nat} {f : FE} {ρ : Ev} {ds : List D} : kAp i f ρ (some ds) = kAp2 i (f ρ) := (rfl)
theorem kAp2_s {i : Nat} {o : Opd} {ρ : Ev} : kAp2 i (some (o, ρ)) = kAp3 i (esc o ρ) := (rfl)
theorem kAp3_s {i : Nat} {d : D} {ρ : Ev} : kAp3 i (some (d, ρ)) = kAp4 i d ρ (ownD ρ[i]?) := (rfl)
theorem kAp4_s {i : Nat} {d : D} {ρ : Ev} {ds : List D} (h : ds.length < 16777216) : kAp4 i d ρ (some ds) = some (.nx (ρ.set i (putS ρ[i]? (ds ++ [d])))) := if_pos h
def kSi (i : Nat) (fi : FP) (x : Option (Opd × Ev)) : Option Out := x.bind fun p => (esc p.1 p.2).bind fun q => (ownD q.2[i]?).bind fun _ => (fi q.2).bind (stI i q.1)
def kSi2 (i : Nat) (fi : FP) (x : Option (D × Ev)) : Option Out := x.bind fun q => (ownD q.2[i]?).bind fun _ => (fi q.2).bind (stI i q.1)
def kSi3 (i : Nat) (fi : FP) (d : D) (ρ : Ev) (x : Option (List D)) : Option Out := x.bind fun _ => (fi ρ).bind (stI i d)
def kSi4 (i : Nat) (d : D) (x : Option (Option Int × Ev)) : Option Out := x.bind (stI i d)
def kSi5 (i : Nat) (d : D) (k : Int) (ρ : Ev) (x : Option (List D)) : Option Out := x.bind fun ds => (ixN ds.length k).bind fun j => some (.nx (ρ.set i (putS ρ[i]? (ds.set j d))))
def kSi6 (i : Nat) (d : D) (ρ : Ev) (ds : List D) (x : Option Nat) : Option Out := x.bind fun j => some (.nx (ρ.set i (putS ρ[i]? (ds.set j d))))
theorem ev_sti {i : Nat} {fi : FP} {f : FE} {ρ : Ev} : sStI i fi f ρ = kSi i fi (f ρ) := (rfl)
theorem kSi_s {i : Nat} {fi : FP} {o : Opd} {ρ : Ev} : kSi i fi (some (o, ρ)) = kSi2 i fi (esc o ρ) := (rfl)
theorem kSi2_s {i : Nat} {fi : FP} {d : D} {ρ : Ev} : kSi2 i fi (some (d, ρ)) = kSi3 i fi d ρ (ownD ρ[i]?) := (rfl)
theorem kSi3_s {i : Nat} {fi : FP} {d : D} {ρ : Ev} {ds : List D} : kSi3 i fi d ρ (some ds) = kSi4 i d (fi ρ) := (rfl)
theorem kSi4_s {i : Nat} {d : D} {k : Int} {ρ : Ev} : kSi4 i d (some (some k, ρ)) = kSi5 i d k ρ (ownD ρ[i]?) := (rfl)
theorem kSi5_s {i : Nat} {d : D} {k : Int} {ρ : Ev} {ds : List D} : kSi5 i d k ρ (some ds) = kSi6 i d ρ ds (ixN ds.length k) := (rfl)
theorem kSi6_s {i : Nat} {d : D} {ρ : Ev} {ds : List D} {j : Nat} : kSi6 i d ρ ds (some j) = some (.nx (ρ.set i (putS ρ[i]? (ds.set j d)))) := (rfl)
def kAg (i : Nat) (op : Int → Int → Int) (f : FE) (ρ : Ev) (x : Option D) : Option Out := x.bind fun x => (pInt f ρ).bind (agI i op x)
def kAg2 (i : Nat) (op : Int → Int → Int) (x : D) (y : Option (Option Int × Ev)) : Option Out := y.bind (agI i op x)
theorem ev_aug {i : Nat} {op : Int → Int → Int} {f : FE} {ρ : Ev} : sAug i op f ρ = kAg i op f ρ (valD ρ[i]?) := (rfl)
theorem kAg_s {i : Nat} {op : Int → Int → Int} {f : FE} {ρ : Ev} {x : D} : kAg i op f ρ (some x) = kAg2 i op x (pInt f ρ) := (rfl)
theorem kAg2_s {i : Nat} {op : Int → Int → Int} {a j : Int} {ρ : Ev} : kAg2 i op (.int a) (some (some j, ρ)) = some (.nx (ρ.set i (.val (.int (op a j))))) := (rfl)
theorem val_s {d : D} : valD (some (.val d)) = some d := (rfl)
def kFo (t : Tg) (g : FS) (x : Option (List D × Ev)) : Option Out := x.bind fun p => loopD t g p.1 p.2
theorem ev_for {fi : FI} {t : Tg} {g : FS} {ρ : Ev} : sFor fi t g ρ = kFo t g (fi ρ) := (rfl)
theorem kFo_s {t : Tg} {g : FS} {ds : List D} {ρ : Ev} : kFo t g (some (ds, ρ)) = loopD t g ds ρ := (rfl)
-- a turn of a loop
def kLp (t : Tg) (g : FS) (ds : List D) (x : Option Ev) : Option Out := x.bind fun ρ1 => (g ρ1).bind fun o => match o with
    | .nx ρ2 => loopD t g ds ρ2
    | .ct ρ2 => loopD t g ds ρ2
    | .bk ρ2 => some (.nx ρ2)
    | .rt o ρ2 => some (.rt o ρ2)
def kLp2 (t : Tg) (g : FS) (ds : List D) (x : Option Out) : Option Out := x.bind fun o => match o with
    | .nx ρ2 => loopD t g ds ρ2
    | .ct ρ2 => loopD t g ds ρ2
    | .bk ρ2 => some (.nx ρ2)
    | .rt o ρ2 => some (.rt o ρ2)
theorem loop_nil {t : Tg} {g : FS} {ρ : Ev} : loopD t g [] ρ = some (.nx ρ) := (rfl)
theorem loop_cons {t : Tg} {g : FS} {d : D} {ds : List D} {ρ : Ev} : loopD t g (d :: ds) ρ = kLp t g ds (bindT t d ρ) := (rfl)
theorem kLp_s {t : Tg} {g : FS} {ds : List D} {ρ : Ev} : kLp t g ds (some ρ) = kLp2 t g ds (g ρ) := (rfl)
theorem kLp_n {t : Tg} {g : FS} {ds : List D} {ρ : Ev} : kLp2 t g ds (some (.nx ρ)) = loopD t g ds ρ := (rfl)
theorem kLp_c {t : Tg} {g : FS} {ds : List D} {ρ : Ev} : kLp2 t g ds (some (.ct ρ)) = loopD t g ds ρ := (rfl)
theorem kLp_b {t : Tg} {g : FS} {ds : List D} {ρ : Ev} : kLp2 t g ds (some (.bk ρ)) = some (.nx ρ) := (rfl)
theorem kLp_r {t : Tg} {g : FS} {ds : List D} {o : Opd} {ρ : Ev} : kLp2 t g ds (some (.rt o ρ)) = some (.rt o ρ) := (rfl)
theorem ev_while {n : Ev → Nat} {ft : FT} {g : FS} {ρ : Ev} : sWhile n ft g ρ = whileD ft g (n ρ) ρ := (rfl)
def kWh (ft : FT) (g : FS) (n : Nat) (x : Option (Bool × Ev)) : Option Out := x.bind fun p => if p.1 then (g p.2).bind fun o => match o with
      | .nx ρ2 => whileD ft g n ρ2
      | .ct ρ2 => whileD ft g n ρ2
      | .bk ρ2 => some (.nx ρ2)
      | .rt o ρ2 => some (.rt o ρ2)
    else some (.nx p.2)
def kWh2 (ft : FT) (g : FS) (n : Nat) (x : Option Out) : Option Out := x.bind fun o => match o with
      | .nx ρ2 => whileD ft g n ρ2
      | .ct ρ2 => whileD ft g n ρ2
      | .bk ρ2 => some (.nx ρ2)
      | .rt o ρ2 => some (.rt o ρ2)
theorem while_s {ft : FT} {g : FS} {n : Nat} {ρ : Ev} : whileD ft g (n + 1) ρ = kWh ft g n (ft ρ) := (rfl)
theorem kWh_f {ft : FT} {g : FS} {n : Nat} {ρ : Ev} : kWh ft g n (some (false, ρ)) = some (.nx ρ) := (rfl)
theorem kWh_t {ft : FT} {g : FS} {n : Nat} {ρ : Ev} : kWh ft g n (some (true, ρ)) = kWh2 ft g n (g ρ) := (rfl)
theorem kWh_n {ft : FT} {g : FS} {n : Nat} {ρ : Ev} : kWh2 ft g n (some (.nx ρ)) = whileD ft g n ρ := (rfl)
theorem kWh_c {ft : FT} {g : FS} {n : Nat} {ρ : Ev} : kWh2 ft g n (some (.ct ρ)) = whileD ft g n ρ := (rfl)
theorem kWh_b {ft : FT} {g : FS} {n : Nat} {ρ : Ev} : kWh2 ft g n (some (.bk ρ)) = some (.nx ρ) := (rfl)
theorem kWh_r {ft : FT} {g : FS} {n : Nat} {o : Opd} {ρ : Ev} : kWh2 ft g n (some (.rt o ρ)) = some (.rt o ρ) := (rfl)
-- a turn of a comprehension
def kLc1 (t : Tg) (ft : FT) (fe : FE) (vs : List Nat) (ds acc : List D) (x : Option Ev) : Option (List D × Ev) := x.bind fun ρ1 => (ft ρ1).bind fun p => if p.1 then (fe p.2).bind fun q => (esc q.1 q.2).bind fun r => if acc.length < 16777216 then lcD t ft fe vs ds (wipeE r.2 vs) (acc ++ [r.1]) else none
      else lcD t ft fe vs ds (wipeE p.2 vs) acc
def kLc2 (t : Tg) (ft : FT) (fe : FE) (vs : List Nat) (ds acc : List D) (x : Option (Bool × Ev)) : Option (List D × Ev) := x.bind fun p => if p.1 then (fe p.2).bind fun q => (esc q.1 q.2).bind fun r => if acc.length < 16777216 then lcD t ft fe vs ds (wipeE r.2 vs) (acc ++ [r.1]) else none
      else lcD t ft fe vs ds (wipeE p.2 vs) acc
def kLc3 (t : Tg) (ft : FT) (fe : FE) (vs : List Nat) (ds acc : List D) (x : Option (Opd × Ev)) : Option (List D × Ev) := x.bind fun q => (esc q.1 q.2).bind fun r => if acc.length < 16777216 then lcD t ft fe vs ds (wipeE r.2 vs) (acc ++ [r.1]) else none
def kLc4 (t : Tg) (ft : FT) (fe : FE) (vs : List Nat) (ds acc : List D) (x : Option (D × Ev)) : Option (List D × Ev) := x.bind fun r => if acc.length < 16777216 then lcD t ft fe vs ds (wipeE r.2 vs) (acc ++ [r.1]) else none
theorem lc_nil {t : Tg} {ft : FT} {fe : FE} {vs : List Nat} {acc : List D} {ρ : Ev} : lcD t ft fe vs [] ρ acc = some (acc, ρ) := (rfl)
theorem lc_cons {t : Tg} {ft : FT} {fe : FE} {vs : List Nat} {d : D} {ds acc : List D} {ρ : Ev} : lcD t ft fe vs (d :: ds) ρ acc = kLc1 t ft fe vs ds acc (bindT t d ρ) := (rfl)
theorem kLc1_s {t : Tg} {ft : FT} {fe : FE} {vs : List Nat} {ds acc : List D} {ρ : Ev} : kLc1 t ft fe vs ds acc (some ρ) = kLc2 t ft fe vs ds acc (ft ρ) := (rfl)
theorem kLc2_t {t : Tg} {ft : FT} {fe : FE} {vs : List Nat} {ds acc : List D} {ρ : Ev} : kLc2 t ft fe vs ds acc (some (true, ρ)) = kLc3 t ft fe vs ds acc (fe ρ) := (rfl)
theorem kLc2_f {t : Tg} {ft : FT} {fe : FE} {vs : List Nat} {ds acc : List D} {ρ : Ev} : kLc2 t ft fe vs ds acc (some (false, ρ)) = lcD t ft fe vs ds (wipeE ρ vs) acc := (rfl)
theorem kLc3_s {t : Tg} {ft : FT} {fe : FE} {vs : List Nat} {ds acc : List D} {o : Opd} {ρ : Ev} : kLc3 t ft fe vs ds acc (some (o, ρ)) = kLc4 t ft fe vs ds acc (esc o ρ) := (rfl)
theorem kLc4_s {t : Tg} {ft : FT} {fe : FE} {vs : List Nat} {ds acc : List D} {x : D} {ρ : Ev} (h : acc.length < 16777216) : kLc4 t ft fe vs ds acc (some (x, ρ)) = lcD t ft fe vs ds (wipeE ρ vs) (acc ++ [x]) := if_pos h
-- a def's end
def kE0 (x : Option Out) : Option Rt := x.bind fun out => match out with
  | .rt o ρ => rtOf o ρ
  | .nx _ => some (.d .non)
  | _ => none
theorem run0_k {N : Nat} {g : FS} {ds : List D} : run0 N g ds = kE0 (g (ds.map Sl.val ++ List.replicate (N - ds.length) Sl.un)) := (rfl)
theorem kE0_r {o : Opd} {ρ : Ev} : kE0 (some (.rt o ρ)) = rtOf o ρ := (rfl)
theorem kE0_n {ρ : Ev} : kE0 (some (.nx ρ)) = some (.d .non) := (rfl)
theorem rtOf_d {x : D} {ρ : Ev} : rtOf (.d x) ρ = some (.d x) := (rfl)
theorem rtOf_nw {x : List D} {ρ : Ev} : rtOf (.nw x) ρ = some (.nw x) := (rfl)
theorem rtOf_sl {i : Nat} {ρ : Ev} : rtOf (.sl i) ρ = rtS ρ[i]? := (rfl)
theorem rtS_own {ds : List D} : rtS (some (.own ds)) = some (.nw ds) := (rfl)
def kE1 (x : Option Out) : Option (Rt × List D) := x.bind fun out => match out with
    | .rt o ρ => (rtOf o ρ).bind fun r => (borD ρ[0]?).bind fun out => some (r, out)
    | .nx ρ => (borD ρ[0]?).bind fun out => some (.d .non, out)
    | _ => none
def kE2 (x : Option Rt) (y : Option (List D)) : Option (Rt × List D) := x.bind fun r => y.bind fun out => some (r, out)
theorem run1_k {N : Nat} {g : FS} {ds0 ds : List D} : run1 N g (.lst ds0 :: ds) = kE1 (g (Sl.bor ds0 :: ds.map Sl.val ++ List.replicate (N - (ds.length + 1)) Sl.un)) := (rfl)
theorem kE1_r {o : Opd} {ρ : Ev} : kE1 (some (.rt o ρ)) = kE2 (rtOf o ρ) (borD ρ[0]?) := (rfl)
theorem kE1_n {ρ : Ev} : kE1 (some (.nx ρ)) = kE2 (some (.d .non)) (borD ρ[0]?) := (rfl)
theorem kE2_s {r : Rt} {out : List D} : kE2 (some r) (some out) = some (r, out) := (rfl)
theorem bor_s {ds : List D} : borD (some (.bor ds)) = some ds := (rfl)
-- operators
theorem gAdd_i {i j : Int} : gAdd (.int i) (.int j) = some (.d (.int (i + j))) := (rfl)
theorem gAdd_l {x y : List D} (h : x.length + y.length ≤ 16777216) : gAdd (.lst x) (.lst y) = some (.nw (x ++ y)) := if_pos h
theorem gAdd_t {x y : List D} (h : x.length + y.length ≤ 16777216) : gAdd (.tup x) (.tup y) = some (.d (.tup (x ++ y))) := if_pos h
theorem gSub_i {i j : Int} : gSub (.int i) (.int j) = some (.d (.int (i - j))) := (rfl)
theorem gMul_i {i j : Int} (h : i.natAbs.log2 + j.natAbs.log2 < 1000000) : gMul (.int i) (.int j) = some (.d (.int (i * j))) := if_pos h
theorem gMod_i {i j : Int} (h : 0 < j) : gMod (.int i) (.int j) = some (.d (.int (i % j))) := if_pos h
theorem gDiv_i {i j : Int} (h : 0 < j ∧ j.natAbs.log2 < 9000) : gDiv (.int i) (.int j) = some (.d (.int (i / j))) := if_pos h
theorem gPow_i {i j : Int} (h : 0 ≤ j ∧ ((i.natAbs.log2 + 1 : Nat) : Int) * j ≤ 134217728) : gPow (.int i) (.int j) = some (.d (.int (i ^ j.toNat))) := if_pos h
theorem gEq_i {n : Bool} {i j : Int} : gEq n (.int i) (.int j) = some (.d (.bl (decide (i = j) != n))) := (rfl)
theorem gEq_s {n : Bool} {i j : Str} : gEq n (.str i) (.str j) = some (.d (.bl (decide (i = j) != n))) := (rfl)
theorem gEq_b {n : Bool} {i j : Bool} : gEq n (.bl i) (.bl j) = some (.d (.bl (decide (i = j) != n))) := (rfl)
theorem gCmp_i {p : Int → Int → Bool} {i j : Int} : gCmp p (.int i) (.int j) = some (.d (.bl (p i j))) := (rfl)
theorem gIs_n {n : Bool} {x : D} (h : noOp x = true) : gIs n x .non = some (.d (.bl (isNon x != n))) := if_pos h
theorem gInt_i {i : Int} : gInt (.int i) = some (.d (.int i)) := (rfl)
theorem gInt_b {b : Bool} : gInt (.bl b) = some (.d (.int (if b then 1 else 0))) := (rfl)
theorem gMax_i {i j : Int} : gMax (.int i) (.int j) = some (.d (.int (if j > i then j else i))) := (rfl)
theorem gMin_i {i j : Int} : gMin (.int i) (.int j) = some (.d (.int (if j < i then j else i))) := (rfl)
theorem gAbs_i {i : Int} : gAbs (.int i) = some (.d (.int (if i < 0 then -i else i))) := (rfl)
theorem gTup_t {ds : List D} : gTuple (.tup ds) = some (.d (.tup ds)) := (rfl)
theorem gTup_l {ds : List D} : gTuple (.lst ds) = some (.d (.tup ds)) := (rfl)
theorem gLen_t {ds : List D} : gLen (.tup ds) = some (.d (.int ds.length)) := (rfl)
theorem gLen_l {ds : List D} : gLen (.lst ds) = some (.d (.int ds.length)) := (rfl)
theorem gLen_f {ds : List D} : gLen (.frl ds) = some (.d (.int ds.length)) := (rfl)
def kIx (x : Option D) : Option Opd := x.bind fun d => some (.d d)
theorem gIx_t {ds : List D} {i : Int} : gIx (.tup ds) (.int i) = kIx (atI ds i) := (rfl)
theorem gIx_l {ds : List D} {i : Int} : gIx (.lst ds) (.int i) = kIx (atI ds i) := (rfl)
theorem gIx_f {ds : List D} {i : Int} : gIx (.frl ds) (.int i) = kIx (atI ds i) := (rfl)
theorem kIx_s {d : D} : kIx (some d) = some (.d d) := (rfl)
theorem at_cast {α : Type} {xs : List α} {k : Nat} : atI xs (k : Int) = xs[k]? := by
  cases e : xs[k]? with
  | some v => exact atI_nat e
  | none =>
    have h := List.getElem?_eq_none_iff.mp e
    unfold atI ixN
    rw [if_pos (by omega), if_neg (by omega)]; rfl
theorem at_0 {α : Type} {xs : List α} : atI xs 0 = xs[0]? := at_cast (k := 0)
theorem at_1 {α : Type} {xs : List α} : atI xs 1 = xs[1]? := at_cast (k := 1)
theorem at_2 {α : Type} {xs : List α} : atI xs 2 = xs[2]? := at_cast (k := 2)
theorem at_3 {α : Type} {xs : List α} : atI xs 3 = xs[3]? := at_cast (k := 3)
theorem at_4 {α : Type} {xs : List α} : atI xs 4 = xs[4]? := at_cast (k := 4)
theorem at_5 {α : Type} {xs : List α} : atI xs 5 = xs[5]? := at_cast (k := 5)
theorem ix_cast {n k : Nat} (h : k < n) : ixN n (k : Int) = some k := by
  unfold ixN
  rw [if_pos (by omega), if_pos (by omega)]; rfl
theorem gSl_t {ds : List D} {l h : Option Int} : gSl (.tup ds) l h = some (.d (.tup (cutD ds l h))) := (rfl)
theorem gSl_l {ds : List D} {l h : Option Int} : gSl (.lst ds) l h = some (.nw (cutD ds l h)) := (rfl)
-- a def's reading as its own mirror
def phi0 (n N : Nat) (g : FS) : F0 := fun ds => if ds.length = n then run0 N g ds else none
def phi1 (n N : Nat) (g : FS) : F1 := fun ds => if ds.length = n then run1 N g ds else none
theorem phi_run {n N : Nat} {g : FS} {ds : List D} {r : Rt} (h : phi0 n N g ds = some r) : ds.length = n ∧ run0 N g ds = some r := by
  unfold phi0 at h
  split at h
  · exact ⟨by assumption, h⟩
  · cases h
theorem phi_run1 {n N : Nat} {g : FS} {ds : List D} {r : Rt × List D} (h : phi1 n N g ds = some r) : ds.length = n ∧ run1 N g ds = some r := by
  unfold phi1 at h
  split at h
  · exact ⟨by assumption, h⟩
  · cases h
theorem phi0_s {n N : Nat} {g : FS} {ds : List D} (h : ds.length = n) : phi0 n N g ds = run0 N g ds := if_pos h
theorem phi1_s {n N : Nat} {g : FS} {ds : List D} (h : ds.length = n) : phi1 n N g ds = run1 N g ds := if_pos h
end Dv

set_option Elab.async false
set_option linter.all false
set_option maxRecDepth 100000
set_option maxHeartbeats 4000000
/-! a table of texts by texts at the top, asked at a text -/
namespace Dv
open PySem PySem.Spec PyProof.Rows L2
variable {X : Cx} {K : PySem.W.Frag}
def kdL : List (Str × Str) → Str → Option Str
  | [], _ => none
  | p :: r, z => if p.1 = z then some p.2 else kdL r z
def kdS (tbl : List (Str × Str)) (ρ : Ev) : D → Option (Opd × Ev)
  | .str z => (kdL tbl z).bind fun v => some (.d (.str v), ρ)
  | _ => none
def fDk (tbl : List (Str × Str)) (f : FE) : FE := fun ρ => (f ρ).bind fun p => (der p.2 p.1).bind (kdS tbl p.2)
structure Kd (K : PySem.W.Frag) (w : World) (mg : Str → Option Value) (x : Str) (tbl : List (Str × Str)) : Prop where
  ex : ∃ d, mg x = some (.ref d) ∧ ∀ z v, kdL tbl z = some v → KDct K w d z (.str v)
theorem d_kd {x : Str} {tbl : List (Str × Str)} {i : Expr} {fi : FE} {p pos : Pos} (g : Kd X.K X.w X.mg x tbl) (hi : PE X i (tF X.K fi)) (hg : Gl X x := by rfl) (hd : (x == ("__debug__" : Str)) = false := by decide) (hs : PlainIx i := by first | exact fun _ _ => rfl | (intro _ _; rfl)) :
    PE X (.Subscript (.Name x p) i pos) (tF X.K (fDk tbl fi)) := by
  obtain ⟨d, hm, q⟩ := g.ex
  refine (pe_ix ix_kdict (pe_glob hg hm (v := .ref d) rfl hd) hi hs).imp fun σ H Q h => ?_
  obtain ⟨C, O, ρ, o, ρ', ek, F, e, k⟩ := h
  unfold fDk at e
  cases ei : fi ρ with
  | none => rw [ei] at e; cases e
  | some r =>
    obtain ⟨o1, ρ1⟩ := r
    rw [ei, Option.bind_some] at e
    cases ed : der ρ1 o1 with
    | none => simp [ed] at e
    | some y =>
      simp only [ed, Option.bind_some] at e
      cases y <;> try (simp [kdS] at e; done)
      rename_i z
      have e : ((kdL tbl z).bind fun v => some (Opd.d (.str v), ρ1)) = some (o, ρ') := e
      cases el : kdL tbl z with
      | none => rw [el] at e; cases e
      | some v =>
        rw [el, Option.bind_some] at e
        cases e
        refine ⟨C, O, ρ, o1, ρ', ek, F, ei, fun u H1 O1 F1 w1 r1 => ?_⟩
        have hv := r1.w.vw F1 ed
        exact ⟨d, z, .str v, rfl, vw_str hv, q z v el, k _ H1 O1 F1 w1 or_str⟩
inductive KdE (K : PySem.W.Frag) (p : Addr) : List (Str × Str) → Prop
  | nil : KdE K p []
  | cons {k v : Str} {r : List (Str × Str)} {t : Tok} (h : PySem.W.nsIn K p k = some (some (.str v t))) (hr : KdE K p r) : KdE K p ((k, v) :: r)
theorem KdE.get {p : Addr} : ∀ {tbl : List (Str × Str)}, KdE K p tbl → ∀ z v, kdL tbl z = some v → ∃ t, PySem.W.nsIn K p z = some (some (.str v t))
  | _, .nil, z, v, h => nomatch h
  | _, .cons (k := k) (v := v') (r := r) (t := t) h hr, z, v, e => by
    unfold kdL at e
    by_cases hk : k = z
    · rw [if_pos hk] at e
      cases e
      exact ⟨t, hk ▸ h⟩
    · rw [if_neg hk] at e
      exact hr.get z v e
theorem kd_mk {w : World} {mg : Str → Option Value} {h : Heap} {x : Str} {tbl : List (Str × Str)} {p : Addr} {es : Array DictEntry} {n : Nat} (X : K.In h) (G : h.Ns mainGlobals mg) (a : PySem.W.nsIn K mainGlobals x = some (some (.ref p)))
    (l : K.lookup p = some ⟨.type "dict", none, .dict es n, #[]⟩) (k : PySem.W.KeysLit w.params es.toList) (e : KdE K p tbl) : Kd K w mg x tbl :=
  ⟨p, PySem.W.mg_of X G a, fun z v hz => by
    obtain ⟨t, ht⟩ := e.get z v hz
    exact ⟨es, n, .str v t, l, k, ht, ⟨t, rfl⟩⟩⟩
-- evaluation
def kDk1 (tbl : List (Str × Str)) (x : Option (Opd × Ev)) : Option (Opd × Ev) := x.bind fun p => (der p.2 p.1).bind (kdS tbl p.2)
def kDk2 (tbl : List (Str × Str)) (ρ : Ev) (x : Option D) : Option (Opd × Ev) := x.bind (kdS tbl ρ)
def kDk3 (ρ : Ev) (x : Option Str) : Option (Opd × Ev) := x.bind fun v => some (.d (.str v), ρ)
theorem ev_dk {tbl : List (Str × Str)} {f : FE} {ρ : Ev} : fDk tbl f ρ = kDk1 tbl (f ρ) := (rfl)
theorem kDk1_s {tbl : List (Str × Str)} {o : Opd} {ρ : Ev} : kDk1 tbl (some (o, ρ)) = kDk2 tbl ρ (der ρ o) := (rfl)
theorem kDk2_s {tbl : List (Str × Str)} {z : Str} {ρ : Ev} : kDk2 tbl ρ (some (.str z)) = kDk3 ρ (kdL tbl z) := (rfl)
theorem kDk3_s {v : Str} {ρ : Ev} : kDk3 ρ (some v) = some (.d (.str v), ρ) := (rfl)
end Dv

set_option Elab.async false
set_option linter.all false
set_option maxRecDepth 100000
set_option maxHeartbeats 2000000
/-! an own list is looked at within a test, and stays its slot's own -/
namespace Dv
open PySem PySem.Spec PyProof.Rows L2
def ownNoL : Sl → Bool
  | .own ds => noLs ds
  | .bor ds => noLs ds
  | _ => true
open Classical in
noncomputable def fPeek (i : Nat) (ft : FT) : FT := fun ρ => (ft ρ).bind fun p => (ownD ρ[i]?).bind fun ds => if ρ[i]? = some (.own ds) ∧ ρ.all ownNoL = true ∧ p.2 = ρ.set i (.val (.lst ds)) then some (p.1, ρ) else none
theorem pk_s {i : Nat} {ft : FT} {ρ : Ev} {ds : List D} {b : Bool} (h : ρ[i]? = some (.own ds)) (hn : ρ.all ownNoL = true) (e : ft ρ = some (b, ρ.set i (.val (.lst ds)))) : fPeek i ft ρ = some (b, ρ) := by
  unfold fPeek
  rw [e, Option.bind_some, h]
  dsimp only [ownD]
  rw [Option.bind_some, if_pos ⟨rfl, hn, rfl⟩]
theorem pk_inv {i : Nat} {ft : FT} {ρ ρ' : Ev} {b : Bool} (h : fPeek i ft ρ = some (b, ρ')) : ∃ ds, ρ[i]? = some (.own ds) ∧ ρ.all ownNoL = true ∧ ft ρ = some (b, ρ.set i (.val (.lst ds))) ∧ ρ' = ρ := by
  unfold fPeek at h
  cases e : ft ρ with
  | none => rw [e] at h; cases h
  | some p =>
    obtain ⟨c, ρ1⟩ := p
    rw [e, Option.bind_some] at h
    cases eo : ownD ρ[i]? with
    | none => rw [eo] at h; cases h
    | some ds =>
      rw [eo, Option.bind_some] at h
      split at h
      · rename_i hh
        obtain ⟨h1, h2, h3⟩ := hh
        cases h
        dsimp only at h3
        subst h3
        exact ⟨ds, h1, h2, rfl, rfl⟩
      · cases h
theorem FR.peek {C : Fc} {O O' : AP} {σ : L2.St} {ρ : Ev} {H H' : Hp} {i : Nat} {ds : List D} (F : FR C O σ ρ H) (F' : FR C O' σ (ρ.set i (.val (.lst ds))) H') (w : Fw O σ ρ H O' (ρ.set i (.val (.lst ds))) H') (hi : ρ[i]? = some (.own ds)) (hn : ρ.all ownNoL = true) : FR C O σ ρ H' := by
  have kp : Kep O H H' := w.kep F
  have hlt : i < ρ.length := (List.getElem?_eq_some_iff.mp hi).1
  have hall : ∀ j s, ρ[j]? = some s → ownNoL s = true := fun j s e => List.all_eq_true.mp hn s (List.mem_of_getElem? e)
  -- the own slots as they are later
  have later : ∀ (j : Nat) (s : Sl), ρ[j]? = some s → SlR C O H' s σ[j]? := by
    intro j s e
    by_cases hj : j = i
    · subst hj
      rw [hi] at e; cases e
      obtain ⟨a, xs, e1, e2, r, oa, h0⟩ := F.slot j _ hi
      obtain ⟨v, q1, q2⟩ := F'.slot j (.val (.lst ds)) (by rw [List.getElem?_set_self hlt])
      rw [e1] at q1
      cases q1
      rw [Rep] at q2
      obtain ⟨a', xs', z1, z2, _, z3⟩ := q2
      cases z1
      exact ⟨a, xs', e1, z2, z3.any (hall j _ hi), oa, h0⟩
    · have e' : (ρ.set i (.val (.lst ds)))[j]? = some s := by rw [List.getElem?_set_ne (Ne.symm hj)]; exact e
      have z := F.slot j s e
      have z' := F'.slot j s e'
      cases s with
      | un => trivial
      | val d => obtain ⟨v, e1, r⟩ := z; exact ⟨v, e1, r.keep kp F.mu fun _ h => h⟩
      | own es =>
        obtain ⟨a, ys, e1, e2, r, oa, h0⟩ := z
        obtain ⟨a', ys', q1, q2, r', _, _⟩ := z'
        rw [e1] at q1; cases q1
        exact ⟨a, ys', e1, q2, r'.any (hall j _ e), oa, h0⟩
      | bor es =>
        obtain ⟨a, ys, e1, e2, r, oa, h0⟩ := z
        obtain ⟨a', ys', q1, q2, r', _, _⟩ := z'
        rw [e1] at q1; cases q1
        exact ⟨a, ys', e1, q2, r'.any (hall j _ e), oa, h0⟩
  refine ⟨F.len, F'.keep, fun a h => ?_, F.sub, F.sdom, F.bs, later, F.inj, fun p h => (F.held p h).keep kp F.mu fun _ h => h⟩
  rcases w.stay a h with z | ⟨j, s, e, p, q⟩
  · exact F'.mu a z
  · have z := later j s e
    cases s with
    | un => cases p
    | val d => cases p
    | own es =>
      obtain ⟨b, ys, e1, e2, _⟩ := z
      rw [q] at e1; cases e1
      exact ⟨_, e2⟩
    | bor es =>
      obtain ⟨b, ys, e1, e2, _⟩ := z
      rw [q] at e1; cases e1
      exact ⟨_, e2⟩
theorem t_peek {X : Cx} {e : Expr} {ft : FT} (i : Nat) (h : PT X e (tT X.K ft)) : PT X e (tT X.K (fPeek i ft)) := h.imp fun σ H Q q => by
  obtain ⟨C, O, ρ, b, ρ', ek, F, e, q⟩ := q
  obtain ⟨ds, h1, h2, h3, rfl⟩ := pk_inv e
  exact ⟨C, O, ρ', b, _, ek, F, h3, fun H' O' F' w => q H' O (F.peek F' w h1 h2) ⟨w.kp, fun _ h => h, fun _ h => h, fun _ h => .inl h⟩⟩
end Dv

set_option Elab.async false
set_option linter.all false
set_option maxRecDepth 100000
set_option maxHeartbeats 2000000
/-! what is raised: readings beside the readings of values -/
namespace Dv
open PySem PySem.Spec PyProof.Rows L2
/-- an exception: its class's name, its fields -/
structure Ex where
  c : Str
  fs : List (Str × D)
abbrev FX := Ev → Option (Ex × Ev)
def XR (K : PySem.W.Frag) (mg : Str → Option Value) (O : AP) (H : Hp) (x : Ex) (cls : Value) (d : Option Addr) : Prop :=
  ∃ Cl : Addr, mg x.c = some (.ref Cl) ∧ cls = .ref Cl ∧ ∃ (dd : Addr) (fvs : List (Str × V)), d = some dd ∧ H dd = some (.xd fvs) ∧ fvs.map (·.1) = x.fs.map (·.1) ∧ Reps K H O (x.fs.map (·.2)) (fvs.map (·.2))
/-- a def that hands back φ's value, or raises ξ's exception -/
def spX (K : PySem.W.Frag) (mg : Str → Option Value) (n : Nat) (φ : F0) (ξ : List D → Option Ex) : Sp := fun vs H Q E => vs.length = n ∧ ∃ O ds, OL O H ∧ Reps K H O ds vs ∧
  ((∃ r, φ ds = some r ∧ ∀ v H', (∀ b o, H b = some o → H' b = some o) → RtR K O H H' v r → Q v H') ∨
    ∃ x, ξ ds = some x ∧ ∀ cls d H', (∀ b o, H b = some o → H' b = some o) → XR K mg O H' x cls d → E cls d H')
def rX (K : PySem.W.Frag) (mg : Str → Option Value) (W : WX) (fx : FX) (σ : L2.St) (H : Hp) : Prop := ∃ C O ρ x ρ', C.K = K ∧ FR C O σ ρ H ∧ fx ρ = some (x, ρ') ∧
  ∀ cls d H' O', FR C O' σ ρ' H' → Fw O σ ρ H O' ρ' H' → XR K mg O' H' x cls d → W cls d σ H'
def tFX (K : PySem.W.Frag) (mg : Str → Option Value) (W : WX) (f : FE) (fx : FX) : TE := fun σ H Q => tF K f σ H Q ∨ rX K mg W fx σ H
def tAX (K : PySem.W.Frag) (mg : Str → Option Value) (W : WX) (f : FA) (fx : FX) : TA := fun σ H Q => tAr K f σ H Q ∨ rX K mg W fx σ H
def rS (K : PySem.W.Frag) (mg : Str → Option Value) (W : WX) (fx : FX) (σ : L2.St) (H : Hp) : Prop := ∃ C O ρ x ρ', C.K = K ∧ FR C O σ ρ H ∧ fx ρ = some (x, ρ') ∧
  ∀ cls d σ' H' O', FR C O' σ' ρ' H' → XR K mg O' H' x cls d → W cls d σ' H'
def tSX (K : PySem.W.Frag) (mg : Str → Option Value) (W : WX) (g : FS) (gx : FX) : TS := fun D σ H => tS K g D σ H ∨ rS K mg W gx σ H
section
variable {K : PySem.W.Frag} {mg : Str → Option Value} {W : WX} {f : FE} {g : FA} {fx : FX} {σ : L2.St} {H : Hp}
theorem rS.x (h : rS K mg W fx σ H) : rX K mg W fx σ H := by
  obtain ⟨C, O, ρ, x, ρ', ek, F, e, q⟩ := h
  exact ⟨C, O, ρ, x, ρ', ek, F, e, fun cls d H' O' F' _ xr => q cls d σ H' O' F' xr⟩
theorem tF_mono {Q Q' : VK} (h : tF K f σ H Q) (i : ∀ v H, Q v H → Q' v H) : tF K f σ H Q' := by
  obtain ⟨C, O, ρ, o, ρ', ek, F, e, q⟩ := h
  exact ⟨C, O, ρ, o, ρ', ek, F, e, fun v H' O' F' w r => i _ _ (q v H' O' F' w r)⟩
theorem tAr_mono {Q Q' : List V → Hp → Prop} (h : tAr K g σ H Q) (i : ∀ v H, Q v H → Q' v H) : tAr K g σ H Q' := by
  obtain ⟨C, O, ρ, o, ρ', ek, F, e, q⟩ := h
  exact ⟨C, O, ρ, o, ρ', ek, F, e, fun v H' O' F' w r => i _ _ (q v H' O' F' w r)⟩
theorem tCons_of {Q : List V → Hp → Prop} (h : tAr K (aCons f g) σ H Q) : tCons (tF K f) (tAr K g) σ H Q := by
  obtain ⟨C, O, ρ, o, ρ', ek, F, e, q⟩ := h
  unfold aCons at e
  cases ea : f ρ with
  | none => rw [ea] at e; cases e
  | some p =>
    obtain ⟨o1, ρ1⟩ := p
    rw [ea, Option.bind_some] at e
    cases eb : g ρ1 with
    | none => simp only [eb] at e; cases e
    | some p2 =>
      obtain ⟨os, ρ2⟩ := p2
      simp only [eb, Option.bind_some] at e
      cases e
      refine ⟨C, O, ρ, o1, ρ1, ek, F, ea, fun v H1 O1 F1 w r => ?_⟩
      exact ⟨C, O1, ρ1, os, ρ', ek, F1, eb, fun vs H2 O2 F2 w2 r2 => q (v :: vs) H2 O2 F2 (w.trans w2) (.cons (r.w.fw F1 w2) r2)⟩
theorem tTup_of {Q : VK} (h : tF K (fTup g) σ H Q) : tTup (tAr K g) σ H Q := by
  obtain ⟨C, O, ρ, o, ρ', ek, F, e, q⟩ := h
  unfold fTup at e
  cases ea : g ρ with
  | none => rw [ea] at e; cases e
  | some p =>
    obtain ⟨os, ρ1⟩ := p
    rw [ea, Option.bind_some] at e
    cases eb : escs os ρ1 with
    | none => simp only [eb] at e; cases e
    | some q =>
      obtain ⟨ds, ρ2⟩ := q
      simp only [eb, Option.bind_some] at e
      split at e
      · rename_i hl
        cases e
        refine ⟨C, O, ρ, os, ρ1, ek, F, ea, fun vs H1 O1 F1 w r => ?_⟩
        obtain ⟨O2, F2, w2, r2⟩ := escs_ok r F1 eb
        refine ⟨by rw [← r2.len]; rw [sizeLine_eq]; exact hl, fun p hp => q _ _ O2 (F2.laid hp) ((w.trans w2).trans (Fw.laid hp)) ?_⟩
        show Rep C.K _ _ (.tup _) _
        rw [Rep]
        exact ⟨p, vs, rfl, .inl (.inl upd_same), r2.keep (fun b u e _ => updK hp b u e) F2.mu fun _ h => h⟩
      · cases e
theorem tLst_of {Q : VK} (h : tF K (fLst g) σ H Q) : tLst (tAr K g) σ H Q := by
  obtain ⟨C, O, ρ, o, ρ', ek, F, e, q⟩ := h
  unfold fLst at e
  cases ea : g ρ with
  | none => rw [ea] at e; cases e
  | some p =>
    obtain ⟨os, ρ1⟩ := p
    rw [ea, Option.bind_some] at e
    cases eb : escs os ρ1 with
    | none => simp only [eb] at e; cases e
    | some q =>
      obtain ⟨ds, ρ2⟩ := q
      simp only [eb, Option.bind_some] at e
      split at e
      · rename_i hl
        cases e
        refine ⟨C, O, ρ, os, ρ1, ek, F, ea, fun vs H1 O1 F1 w r => ?_⟩
        obtain ⟨O2, F2, w2, r2⟩ := escs_ok r F1 eb
        exact ⟨by rw [← r2.len]; rw [sizeLine_eq]; exact hl, fun p hp => q _ _ O2 (F2.laid hp) ((w.trans w2).trans (Fw.laid hp)) (OpR.new F2 hp r2)⟩
      · cases e
def xTail (f : FE) (gx : FX) : FX := fun ρ => (f ρ).bind fun p => gx p.2
def xCall (ξ : List D → Option Ex) (fa : FA) : FX := fun ρ => (fa ρ).bind fun p => (ders p.2 p.1).bind fun ds => (ξ ds).bind fun x => if p.1.all notSl = true then some (x, p.2) else none
def xIf (ft : FT) (ax bx : FX) : FX := fun ρ => (ft ρ).bind fun p => if p.1 then ax p.2 else bx p.2
def xNone : FX := fun _ => none
theorem xCall_rX {fa : FA} {n : Nat} {φ : F0} {ξ : List D → Option Ex} {Q : VK} (hn : ∀ ds r, ξ ds = some r → ds.length = n) (h : rX K mg W (xCall ξ fa) σ H) : tAr K fa σ H fun vs H1 => spX K mg n φ ξ vs H1 Q (WE W σ) := by
  obtain ⟨C, O, ρ, x, ρ', ek, F, e, q⟩ := h
  unfold xCall at e
  cases ea : fa ρ with
  | none => rw [ea] at e; cases e
  | some p =>
    obtain ⟨os, ρ1⟩ := p
    rw [ea, Option.bind_some] at e
    cases eb : ders ρ1 os with
    | none => simp [eb] at e
    | some ds =>
      simp only [eb, Option.bind_some] at e
      cases er : ξ ds with
      | none => simp [er] at e
      | some y =>
        simp only [er, Option.bind_some] at e
        split at e
        · rename_i hc
          cases e
          refine ⟨C, O, ρ, os, ρ', ek, F, ea, fun vs H1 O1 F1 w1 r1 => ?_⟩
          have hlen : vs.length = n := by
            have := hn _ _ er
            have l2 := (ders_lent F1 r1 eb).len
            omega
          refine ⟨hlen, O1, ds, F1.mu, by rw [← ek]; exact ders_ok F1 r1 eb hc, .inr ⟨x, er, fun cls d H' k xr => ?_⟩⟩
          exact q cls d H' O1 (F1.kept k) (w1.trans ⟨fun b o e _ => k b o e, fun _ h => h, fun _ h => h, fun _ h => .inl h⟩) xr
        · cases e
theorem spX_of {n : Nat} {φ : F0} {ξ : List D → Option Ex} {vs : List V} {Q : VK} {E E' : XK} (h : spF0 K n φ vs H Q E) : spX K mg n φ ξ vs H Q E' := by
  obtain ⟨hl, O, ds, r, er, ol, rp, q⟩ := h
  exact ⟨hl, O, ds, ol, rp, .inl ⟨r, er, q⟩⟩
end
structure CalX (P : Program) (w : World) (K : PySem.W.Frag) (mg : Str → Option Value) (base : Heap) (k : Nat) (x : Str) (ps : List Str) (sp : Sp) : Prop where
  ex : ∃ (f : Addr) (fd : FuncData), mg x = some (.ref f) ∧ PySem.W.keepIn K (.ref f) = true ∧ FnOk P w K mg base (L2.CX P w) k f fd ps sp ∧ Binds K fd ps [] ∧ KRev K fd ps
theorem DefF.calX {P : Program} {w : World} {K : PySem.W.Frag} {mg : Str → Option Value} {base : Heap} {k : Nat} {x : Str} {st : Stmt} {ps : List Str} {sp : Sp} (d : DefF K mg x st ps) (ok : ∀ (f : Addr) (fd : FuncData), Fun K x x st f fd → FnOk P w K mg base (L2.CX P w) k f fd ps sp) : CalX P w K mg base k x ps sp := by
  obtain ⟨f, fd, hm, kp, F, b, kr, _⟩ := d.ex
  exact ⟨f, fd, hm, kp, ok f fd F, b, kr⟩
section
variable {X : Cx} {k n j : Nat} {x : Str} {ps : List Str} {φ : F0} {ξ : List D → Option Ex} {W : WX} {e : Expr} {es : List Expr} {f fb : FE} {fa g : FA} {fx gx : FX} {ft : FT} {p pos : Pos}
theorem aX_tail (he : PE X e (tF X.K f)) (hr : PA X es (tAX X.K X.mg W g gx)) (hs : starEach (e :: es) X.env = (false, eval e X.env) :: starEach es X.env := by rfl) : PA X (e :: es) (tAX X.K X.mg W (aCons f g) (xTail f gx)) := (pa_cons he hr hs).imp fun σ H Q h => by
  rcases h with h | ⟨C, O, ρ, x, ρ', ek, F, e, q⟩
  · exact tF_mono (tCons_of h) fun v H1 h => .inl h
  · unfold xTail at e
    cases ea : f ρ with
    | none => rw [ea] at e; cases e
    | some p =>
      obtain ⟨o, ρ1⟩ := p
      rw [ea, Option.bind_some] at e
      exact ⟨C, O, ρ, o, ρ1, ek, F, ea, fun v H1 O1 F1 w1 r1 => .inr ⟨C, O1, ρ1, x, ρ', ek, F1, e, fun cls d H' O' F' w' xr => q cls d H' O' F' (w1.trans w') xr⟩⟩
theorem aX_head (he : PE X e (tFX X.K X.mg W f fx)) (hr : PA X es (tAr X.K g)) (hs : starEach (e :: es) X.env = (false, eval e X.env) :: starEach es X.env := by rfl) : PA X (e :: es) (tAX X.K X.mg W (aCons f g) fx) := (pa_cons he hr hs).imp fun σ H Q h => by
  rcases h with h | h
  · exact .inl (tCons_of h)
  · exact .inr h
theorem d_callX (c : CalX X.prog X.w X.K X.mg X.base k x ps (spX X.K X.mg n φ ξ)) (hn : ∀ ds r, φ ds = some r → ds.length = n) (hn2 : ∀ ds r, ξ ds = some r → ds.length = n) (hr : Room j X.A) (hk : k ≤ j) (tk : Takes X W) (ha : PA X (e :: es) (tAr X.K fa)) (hg : Gl X x := by rfl)
    (hdb : (x == ("__debug__" : Str)) = false := by decide) (he : starEach (e :: es) X.env = (false, eval e X.env) :: starEach es X.env := by rfl) (hpl : (backTo pos (starEach es X.env)).any (·.1) = false := by rfl) :
    PE X (.Call (.Name x p) (e :: es) [] pos) (tFX X.K X.mg W (fCall φ fa) (xCall ξ fa)) := by
  obtain ⟨f, fd, hm, kp, F, b, _⟩ := c.ex
  refine (pe_callS (E := WE W) F (hr.mono hk) hg hm kp b (fun σ => passAt tk σ) ha hdb he hpl).imp fun σ H Q h => ?_
  rcases h with h | h
  · have h2 := tCallD (E := E0) hn h
    exact tAr_mono h2 fun vs H1 h => by
      have h : spF0 X.K n φ (vs ++ []) H1 Q E0 := h
      rw [List.append_nil] at h
      exact spX_of h
  · exact xCall_rX hn2 h
theorem d_callA (c : Cal X.prog X.w X.K X.mg X.base k x ps (spF0 X.K n φ)) (hn : ∀ ds r, φ ds = some r → ds.length = n) (hr : Room j X.A) (hk : k ≤ j) (ha : PA X (e :: es) (tAX X.K X.mg W fa fx)) (hg : Gl X x := by rfl)
    (hdb : (x == ("__debug__" : Str)) = false := by decide) (he : starEach (e :: es) X.env = (false, eval e X.env) :: starEach es X.env := by rfl) (hpl : (backTo pos (starEach es X.env)).any (·.1) = false := by rfl) :
    PE X (.Call (.Name x p) (e :: es) [] pos) (tFX X.K X.mg W (fCall φ fa) fx) := by
  obtain ⟨f, fd, hm, kp, F, b, _⟩ := c.ex
  refine (pe_call (E := E0) F (hr.mono hk) hg hm kp b .nil pass0 ha hdb he hpl).imp fun σ H Q h => ?_
  rcases h with h | h
  · exact .inl (tCallD hn h)
  · exact .inr h
theorem d_lstA (h : PA X es (tAX X.K X.mg W g gx)) : PE X (.List es pos) (tFX X.K X.mg W (fLst g) gx) := (pe_lst h).imp fun σ H Q h => by
  rcases h with h | h
  · exact .inl (tLst_of h)
  · exact .inr h
theorem d_tupA {x1 : Nat} (h : PA X es (tAX X.K X.mg W g gx)) : PE X (.Tuple es x1 pos) (tFX X.K X.mg W (fTup g) gx) := (pe_tup h).imp fun σ H Q h => by
  rcases h with h | h
  · exact .inl (tTup_of h)
  · exact .inr h
theorem d_ifX {c a b : Expr} {fa2 fb2 : FE} {ax bx : FX} (hc : PT X c (tT X.K ft)) (ha : PE X a (tFX X.K X.mg W fa2 ax)) (hb : PE X b (tFX X.K X.mg W fb2 bx)) : PE X (.IfExp c a b pos) (tFX X.K X.mg W (fIf ft fa2 fb2) (xIf ft ax bx)) := (pe_ifExp hc ha hb).imp fun σ H Q h => by
  rcases h with ⟨C, O, ρ, o, ρ', ek, F, e, q⟩ | ⟨C, O, ρ, x, ρ', ek, F, e, q⟩
  · unfold fIf at e
    cases ea : ft ρ with
    | none => rw [ea] at e; cases e
    | some p =>
      obtain ⟨c, ρ1⟩ := p
      rw [ea, Option.bind_some] at e
      refine ⟨C, O, ρ, c, ρ1, ek, F, ea, fun H1 O1 F1 w => ?_⟩
      cases c with
      | true => exact .inl ⟨C, O1, ρ1, o, ρ', ek, F1, e, fun v H2 O2 F2 w2 r => q v H2 O2 F2 (w.trans w2) r⟩
      | false => exact .inl ⟨C, O1, ρ1, o, ρ', ek, F1, e, fun v H2 O2 F2 w2 r => q v H2 O2 F2 (w.trans w2) r⟩
  · unfold xIf at e
    cases ea : ft ρ with
    | none => rw [ea] at e; cases e
    | some p =>
      obtain ⟨c, ρ1⟩ := p
      rw [ea, Option.bind_some] at e
      refine ⟨C, O, ρ, c, ρ1, ek, F, ea, fun H1 O1 F1 w => ?_⟩
      cases c with
      | true => exact .inr ⟨C, O1, ρ1, x, ρ', ek, F1, e, fun cls d H' O' F' w' xr => q cls d H' O' F' (w.trans w') xr⟩
      | false => exact .inr ⟨C, O1, ρ1, x, ρ', ek, F1, e, fun cls d H' O' F' w' xr => q cls d H' O' F' (w.trans w') xr⟩
end

/-! ### statements -/
def xSeq (g : FS) (gx hx : FX) : FX := fun ρ => match gx ρ with
  | some r => some r
  | none => match g ρ with
    | some (.nx ρ1) => hx ρ1
    | _ => none
section
variable {X : Cx} {W : WX} {e : Expr} {st : Stmt} {rest sa sb : List Stmt} {f : FE} {ft : FT} {g h : FS} {fx gx hx : FX} {pos : Pos}
theorem tS.sx {K : PySem.W.Frag} {mg : Str → Option Value} {D : Ends} {σ : L2.St} {H : Hp} (q : tS K g D σ H) : tSX K mg W g gx D σ H := .inl q
theorem s_lift (h : PS X st (tS X.K g)) : PS X st (tSX X.K X.mg W g xNone) := h.imp fun D σ H q => by
  rcases q with q | ⟨C, O, ρ, x, ρ', ek, F, e, q⟩
  · exact q
  · cases e
theorem s_lifts (h : PSs X rest (tS X.K g)) : PSs X rest (tSX X.K X.mg W g xNone) := h.imp fun D σ H q => by
  rcases q with q | ⟨C, O, ρ, x, ρ', ek, F, e, q⟩
  · exact q
  · cases e
theorem s_oneX (h1 : PS X st (tSX X.K X.mg W g gx)) : PSs X [st] (tSX X.K X.mg W g gx) := pss_one h1
theorem s_consX (h1 : PS X st (tSX X.K X.mg W g gx)) (h2 : PSs X rest (tSX X.K X.mg W h hx)) : PSs X (st :: rest) (tSX X.K X.mg W (sSeq g h) (xSeq g gx hx)) := (pss_cons h1 h2).imp fun D σ H hh => by
  rcases hh with ⟨C, O, ρ, o, ek, F, e, p⟩ | ⟨C, O, ρ, x, ρ', ek, F, e, q⟩
  · unfold sSeq at e
    cases eg : g ρ with
    | none => rw [eg] at e; cases e
    | some o1 =>
      rw [eg, Option.bind_some] at e
      refine .inl ⟨C, O, ρ, o1, ek, F, eg, ?_⟩
      cases o1 with
      | nx ρ1 => exact fun σ1 H1 O1 F1 => .inl ⟨C, O1, ρ1, o, ek, F1, e, p⟩
      | rt o2 ρ2 => cases e; exact p
      | bk ρ2 => cases e; exact p
      | ct ρ2 => cases e; exact p
  · unfold xSeq at e
    cases ex : gx ρ with
    | some r =>
      rw [ex] at e
      cases e
      exact .inr ⟨C, O, ρ, x, ρ', ek, F, ex, q⟩
    | none =>
      rw [ex] at e
      cases eg : g ρ with
      | none => rw [eg] at e; cases e
      | some o1 =>
        rw [eg] at e
        cases o1 with
        | nx ρ1 => exact .inl ⟨C, O, ρ, _, ek, F, eg, fun σ1 H1 O1 F1 => .inr ⟨C, O1, ρ1, x, ρ', ek, F1, e, q⟩⟩
        | rt o2 ρ2 => cases e
        | bk ρ2 => cases e
        | ct ρ2 => cases e
theorem s_ifX {c : Expr} (hc : PT X c (tT X.K ft)) (ha : PSs X sa (tSX X.K X.mg W g gx)) (hb : PSs X sb (tSX X.K X.mg W h hx)) : PS X (.If c sa sb pos) (tSX X.K X.mg W (sIf ft g h) (xIf ft gx hx)) := (ps_if hc ha hb).imp fun D σ H hh => by
  rcases hh with ⟨C, O, ρ, o, ek, F, e, p⟩ | ⟨C, O, ρ, x, ρ', ek, F, e, q⟩
  · unfold sIf at e
    cases ea : ft ρ with
    | none => rw [ea] at e; cases e
    | some q =>
      obtain ⟨b, ρ1⟩ := q
      rw [ea, Option.bind_some] at e
      refine ⟨C, O, ρ, b, ρ1, ek, F, ea, fun H1 O1 F1 w => ?_⟩
      cases b with
      | true => exact .inl ⟨C, O1, ρ1, o, ek, F1, e, p⟩
      | false => exact .inl ⟨C, O1, ρ1, o, ek, F1, e, p⟩
  · unfold xIf at e
    cases ea : ft ρ with
    | none => rw [ea] at e; cases e
    | some p =>
      obtain ⟨b, ρ1⟩ := p
      rw [ea, Option.bind_some] at e
      refine ⟨C, O, ρ, b, ρ1, ek, F, ea, fun H1 O1 F1 w => ?_⟩
      cases b with
      | true => exact .inr ⟨C, O1, ρ1, x, ρ', ek, F1, e, q⟩
      | false => exact .inr ⟨C, O1, ρ1, x, ρ', ek, F1, e, q⟩
theorem s_retX (he : PE X e (tFX X.K X.mg W f fx)) : PS X (.Return (some e) pos) (tSX X.K X.mg W (sRet f) fx) := (ps_ret he).imp fun D σ H h => by
  rcases h with ⟨C, O, ρ, o, ek, F, e, p⟩ | h
  · unfold sRet at e
    cases ea : f ρ with
    | none => rw [ea] at e; cases e
    | some q =>
      obtain ⟨o1, ρ1⟩ := q
      rw [ea, Option.bind_some] at e
      cases e
      exact .inl ⟨C, O, ρ, o1, ρ1, ek, F, ea, fun v H1 O1 F1 _ r => p v σ H1 O1 F1 r⟩
  · exact .inr h.x
theorem s_setX {i : Nat} {x : Str} {pos' : Pos} (hN : X.N.Nodup) (he : PE X e (tFX X.K X.mg W f fx)) (hi : X.N[i]? = some x := by rfl) (hx : Loc X.env.scope x := by first | exact Or.inl rfl | exact Or.inr rfl) (hs : swapsWith e (some (.Name x pos')) pos.line X.env = pure false := by rfl) (hf : X.fn x = true ∨ X.env.scope.names.lookup x = some .local := by first | exact .inl rfl | exact .inr rfl | assumption) :
    PS X (.Assign [.Name x pos'] e pos) (tSX X.K X.mg W (sSet i f) fx) := (ps_set hN hi hx he hs hf).imp fun D σ H h => by
  rcases h with h | h
  · exact .inl (tSetV h)
  · exact .inr h.x
theorem s_ownX {i : Nat} {x : Str} {pos' : Pos} (hN : X.N.Nodup) (he : PE X e (tFX X.K X.mg W f fx)) (hi : X.N[i]? = some x := by rfl) (hx : Loc X.env.scope x := by first | exact Or.inl rfl | exact Or.inr rfl) (hs : swapsWith e (some (.Name x pos')) pos.line X.env = pure false := by rfl) (hf : X.fn x = true ∨ X.env.scope.names.lookup x = some .local := by first | exact .inl rfl | exact .inr rfl | assumption) :
    PS X (.Assign [.Name x pos'] e pos) (tSX X.K X.mg W (sOwn i f) fx) := (ps_set hN hi hx he hs hf).imp fun D σ H h => by
  rcases h with h | h
  · exact .inl (tSetO h)
  · exact .inr h.x
end
/-! ### a def that may raise, by its body -/
def runX (N : Nat) (gx : FX) (ds : List D) : Option Ex := (gx (ds.map Sl.val ++ List.replicate (N - ds.length) Sl.un)).bind fun p => some p.1
def xi0 (n N : Nat) (gx : FX) (ds : List D) : Option Ex := if ds.length = n then runX N gx ds else none
theorem xi_run {n N : Nat} {gx : FX} {ds : List D} {x : Ex} (h : xi0 n N gx ds = some x) : ds.length = n ∧ runX N gx ds = some x := by
  unfold xi0 at h
  split at h
  · exact ⟨by assumption, h⟩
  · cases h
section
variable {P : Program} {w : World} {K : PySem.W.Frag} {mg : Str → Option Value} {base : Heap}
theorem start_FR {N ps : List Str} {H : Hp} {O : AP} {ds : List D} {vs : List V} (hN : ps.length ≤ N.length) (hl : vs.length = ps.length) (ol : OL O H) (rp : Reps K H O ds vs) :
    FR ⟨K, H, none, O, []⟩ O (L2.start N vs) (ds.map Sl.val ++ List.replicate (N.length - ds.length) Sl.un) H := by
  have rl := rp.len
  refine ⟨?_, fun b o e _ => e, ol, fun _ h => h, ol, fun a h => (nomatch h), fun i s e => ?_, fun i j si sj a ei oi => ?_, fun p h => (nomatch h)⟩
  · unfold L2.start; simp; omega
  · by_cases hi : i < ds.length
    · rw [List.getElem?_append_left (by simpa using hi), List.getElem?_map, List.getElem?_eq_getElem hi] at e
      cases e
      obtain ⟨v, ev, rv⟩ := rp.get (List.getElem?_eq_getElem hi)
      exact ⟨v, start_get ev, rv⟩
    · rw [List.getElem?_append_right (by simpa using hi), List.getElem?_replicate] at e
      split at e
      · cases e; trivial
      · cases e
  · exfalso
    by_cases hi : i < ds.length
    · rw [List.getElem?_append_left (by simpa using hi), List.getElem?_map, List.getElem?_eq_getElem hi] at ei
      cases ei; cases oi
    · rw [List.getElem?_append_right (by simpa using hi), List.getElem?_replicate] at ei
      split at ei
      · cases ei; cases oi
      · cases ei
theorem fn_okX {x qual : Str} {st : Stmt} {f : Addr} {fd : FuncData} {N ps : List Str} {k : Nat} {φ : F0} {ξ : List D → Option Ex} {g : FS} {gx : FX} (F : Fun K x qual st f fd) (S : FnScope N ps (defScope st)) (hφ : ∀ ds r, φ ds = some r → ds.length = ps.length ∧ run0 N.length g ds = some r)
    (hξ : ∀ ds r, ξ ds = some r → ds.length = ps.length ∧ runX N.length gx ds = some r)
    (body : ∀ (cdv : Value) (A : Around) (outer : List Env) (s : Shared) (H : Hp) (E : XK), Room k (A.deeper (envOfC qual (defScope st) s.heap.objs.size f cdv)) →
      Takes (cxOf (L2.CX P w) P w K mg base N qual (defScope st) f cdv A outer s H E) (fun cls d _ H => E cls d H) →
      PSs (cxOf (L2.CX P w) P w K mg base N qual (defScope st) f cdv A outer s H E) (defBody st) (tSX K mg (fun cls d _ H => E cls d H) g gx)) : FnOk P w K mg base (L2.CX P w) (k + 1) f fd ps (spX K mg ps.length φ ξ) := by
  refine F.okX S (fun vs H Q E h => h.1) (fun cdv A outer s H vs Q E hr h => ⟨_, body cdv A outer s H E hr (takes_of rfl rfl rfl rfl), ?_⟩)
  obtain ⟨hl, O, ds, ol, rp, h⟩ := h
  have hN : ps.length ≤ N.length := by have := congrArg List.length S.pre; rw [List.length_take] at this; omega
  have F0 := start_FR (N := N) hN hl ol rp
  have kept : ∀ {σ ρ H' O'}, FR ⟨K, H, none, O, []⟩ O' σ ρ H' → ∀ b o, H b = some o → H' b = some o := fun F b o e => F.keep b o e (by simp)
  rcases h with ⟨r, er, q⟩ | ⟨x, er, q⟩
  · obtain ⟨hlen, hrun⟩ := hφ ds r er
    unfold run0 at hrun
    cases eg : g (ds.map Sl.val ++ List.replicate (N.length - ds.length) Sl.un) with
    | none => rw [eg] at hrun; cases hrun
    | some out =>
      rw [eg, Option.bind_some] at hrun
      refine .inl ⟨_, O, _, out, rfl, F0, eg, ?_⟩
      cases out with
      | nx ρ' =>
        cases hrun
        exact fun σ' H' O' F' => q .non H' (kept F') (by show Rep _ _ _ _ _; rw [Rep])
      | bk ρ' => cases hrun
      | ct ρ' => cases hrun
      | rt o ρ' =>
        refine fun v σ' H' O' F' hv => q v H' (kept F') ?_
        rcases rtOf_ok F' hv hrun with ⟨x, rfl, rx⟩ | ⟨es, a, xs, rfl, ev, h0, h1, O2, oa, s2, _, rr⟩
        · exact Rep.less (fun a h => F'.sub a h) rx
        · exact ⟨a, xs, ev, h0, h1, rr.less fun b hb => hb.elim (fun z => by rw [z]; exact oa) fun z => s2 b (F'.sub b z)⟩
  · obtain ⟨hlen, hrun⟩ := hξ ds x er
    unfold runX at hrun
    cases eg : gx (ds.map Sl.val ++ List.replicate (N.length - ds.length) Sl.un) with
    | none => rw [eg] at hrun; cases hrun
    | some p =>
      obtain ⟨y, ρ'⟩ := p
      rw [eg, Option.bind_some] at hrun
      cases hrun
      refine .inr ⟨_, O, _, _, ρ', rfl, F0, eg, fun cls d σ' H' O' F' xr => q cls d H' (kept F') ?_⟩
      obtain ⟨Cl, m, ec, dd, fvs, ed, eh, en, rp⟩ := xr
      exact ⟨Cl, m, ec, dd, fvs, ed, eh, en, rp.less fun a h => F'.sub a h⟩
end
end Dv

set_option Elab.async false
set_option linter.all false
set_option maxRecDepth 100000
set_option maxHeartbeats 2000000
/-! raise of an own class with two fields; try .. except X as n -/
namespace Dv
open PySem PySem.Spec PyProof.Rows L2
/-- __init__(self, a, b): self.n1 = a; self.n2 = b -/
def spI2 (K : PySem.W.Frag) (n1 n2 : Str) : Sp := fun vs H Q _ => ∃ (a C : Addr) (y z : V), vs = [.ref a, y, z] ∧ OexC K C ∧ PySem.W.findIn K (.ref C) n1 = some none ∧ PySem.W.findIn K (.ref C) n2 = some none ∧ H a = some (exo a C none) ∧
  ∀ dx, H dx = none → dx ≠ a → Q .non (upd (upd (upd H dx (exd dx [(n1, y)])) a (exo a C (some dx))) dx (exd dx [(n2, z), (n1, y)]))
/-- what is known of such a class -/
structure ClsX (P : Program) (w : World) (K : PySem.W.Frag) (mg : Str → Option Value) (base : Heap) (k : Nat) (c n1 n2 : Str) : Prop where
  ex : ∃ (C fI : Addr) (fd : FuncData) (ps : List Str), mg c = some (.ref C) ∧ OexC K C ∧ PySem.W.findIn K (.ref C) n1 = some none ∧ PySem.W.findIn K (.ref C) n2 = some none ∧
    PySem.W.findIn K (.ref C) "__init__" = some (some (.ref fI)) ∧ PySem.W.typeIn K (.ref fI) = some (.type "function") ∧ FnOk P w K mg base CX0 k fI fd ps (spI2 K n1 n2) ∧ Binds K fd ps []
def xRaise (c n1 n2 : Str) (fa : FA) : FX := fun ρ => (fa ρ).bind fun p => (ders p.2 p.1).bind fun ds => if p.1.all notSl = true then match ds with
  | [d1, d2] => some (⟨c, [(n2, d2), (n1, d1)]⟩, p.2)
  | _ => none else none
section
variable {X : Cx} {W : WX} {e : Expr} {es : List Expr} {fa : FA} {c n1 n2 : Str} {k j : Nat} {p pos pos2 : Pos}
theorem s_raise2 (hc : X.calm = true) (tk : Takes X W) (T : ClsX X.prog X.w X.K X.mg X.base k c n1 n2) (hr : Room j X.A) (hk : k + 1 ≤ j) (ha : PA X (e :: es) (tAr X.K fa)) (hg : Gl X c := by rfl)
    (hdb : (c == ("__debug__" : Str)) = false := by decide) (he : starEach (e :: es) X.env = (false, eval e X.env) :: starEach es X.env := by rfl) (hpl : (backTo pos (starEach es X.env)).any (·.1) = false := by rfl) :
    PS X (.Raise (some (.Call (.Name c p) (e :: es) [] pos)) none pos2) (tSX X.K X.mg W sStuck (xRaise c n1 n2 fa)) := by
  obtain ⟨C, fI, fd, ps, hm, oc, hn1, hn2, iC, tI, F1, hb⟩ := T.ex
  refine (ps_raise hc tk (pmk_oex oc iC tI F1 (hr.mono hk) hb .nil pass0 hg hm ha hdb he hpl)).imp fun D σ H h => ?_
  rcases h with ⟨_, _, _, _, _, _, e, _⟩ | ⟨C0, O, ρ, x, ρ', ek, F, e, q⟩
  · cases e
  · unfold xRaise at e
    cases ea : fa ρ with
    | none => rw [ea] at e; cases e
    | some p =>
      obtain ⟨os, ρ1⟩ := p
      rw [ea, Option.bind_some] at e
      cases eb : ders ρ1 os with
      | none => simp [eb] at e
      | some ds =>
        simp only [eb, Option.bind_some] at e
        split at e
        · rename_i hns
          split at e
          · rename_i d1 d2
            cases e
            refine ⟨C0, O, ρ, os, ρ', ek, F, ea, fun vs H1 O1 F1 w1 r1 => ?_⟩
            have rp := ders_ok F1 r1 eb hns
            have hl := rp.len
            obtain ⟨v1, v2, rfl⟩ : ∃ v1 v2, vs = [v1, v2] := by
              match vs, hl with
              | [v1, v2], _ => exact ⟨v1, v2, rfl⟩
            refine ⟨by show 2 ≤ 1000; omega, fun a ha => ⟨a, C, v1, v2, rfl, oc, hn1, hn2, upd_same, fun dx hd hne => ⟨rfl, dx, [(n2, v2), (n1, v1)], ?_, upd_same, ?_, ?_⟩⟩⟩
            · rw [upd_ne (Ne.symm hne), upd_same]
            · rw [upd_ne hne] at hd; exact hd
            · have hd1 : H1 dx = none := by rw [upd_ne hne] at hd; exact hd
              have mono : ∀ b o, H1 b = some o → (upd (del (upd (upd (upd (upd H1 a (exo a C none)) dx (exd dx [(n1, v1)])) a (exo a C (some dx))) dx (exd dx [(n2, v2), (n1, v1)])) a) dx (.xd [(n2, v2), (n1, v1)])) b = some o := fun b o hb => by
                have nb : b ≠ dx := fun z => by rw [z, hd1] at hb; cases hb
                have na : b ≠ a := fun z => by rw [z, ha] at hb; cases hb
                rw [upd_ne nb, del_ne na, upd_ne nb, upd_ne na, upd_ne nb, upd_ne na]
                exact hb
              refine q (.ref C) (some dx) σ _ O1 (F1.kept mono) ⟨C, hm, rfl, dx, _, rfl, upd_same, rfl, ?_⟩
              rw [← ek]
              have hkeep : Kep O1 H1 _ := fun b o hb _ => mono b o hb
              rw [Reps] at rp
              obtain ⟨u1, r1', ev, a1, rp⟩ := rp
              cases ev
              rw [Reps] at rp
              obtain ⟨u2, r2', ev, a2, rp⟩ := rp
              cases ev
              exact .cons (a2.keep hkeep F1.mu fun _ h => h) (.cons (a1.keep hkeep F1.mu fun _ h => h) .nil)
          · cases e
        · cases e
end
/-! ### try -/
def outUn (i : Nat) : Out → Out
  | .nx ρ => .nx (ρ.set i .un)
  | .rt o ρ => .rt o ρ
  | .bk ρ => .bk (ρ.set i .un)
  | .ct ρ => .ct (ρ.set i .un)
open Classical in
noncomputable def sTry (i : Nat) (c : Str) (g : FS) (gx : FX) (hs : Ex → FS) : FS := fun ρ => match g ρ with
  | some out => some out
  | none => (gx ρ).bind fun p => if p.1.c = c ∧ i < p.2.length then (hs p.1 (p.2.set i .un)).bind fun o => some (outUn i o) else none
def tSu (K : PySem.W.Frag) (mg : Str → Option Value) (i : Nat) (hs : Ex → FS) (a : Addr) (cls : Value) (d : Option Addr) : TS := fun D σ H => ∃ C O ρ x out, C.K = K ∧ FR C O σ ρ H ∧ σ[i]? = some (some (.ref a)) ∧ XR K mg O H x cls d ∧ hs x ρ = some out ∧ Pst C D out
theorem s_try {X : Cx} {c n : Str} {Cl : Addr} {i : Nat} {body suite : List Stmt} {b₀ : Stmt} {np pos pos' : Pos} {g : FS} {gx : FX} {hs : Ex → FS} (hN : X.N.Nodup) (te : PySem.W.exmOne X.K (.ref Cl) (.ref Cl) = some true) (hm : X.mg c = some (.ref Cl))
    (hb : ∀ (W : WX) (pn : List (Addr × Obj)) (xe : Value → Shared → Prop), Takes (X.tr pn xe) W → PSs (X.tr pn xe) body (tSX X.K X.mg W g gx))
    (hsu : ∀ (a : Addr) (oe : Obj) (cls : Value) (d : Option Addr) (pn : List (Addr × Obj)), Zc cls d oe → (∃ vs, oe.data = .fields vs) → PSs (X.suite a ((a, oe) :: pn)) (b₀ :: suite) (tSu X.K X.mg i hs a cls d))
    (hi : X.N[i]? = some n := by rfl) (hg : Gl X c := by rfl) (hdb : (c == ("__debug__" : Str)) = false := by decide) (hln : X.env.kindOf n = some .local := by rfl) (hst : X.stack = X.env :: X.outer := by rfl) (hf : X.env.frame = some X.env.locals := by rfl) :
    PS X (.Try body [.ExceptHandler (some (.Name c np)) (some n) (b₀ :: suite) pos'] [] [] pos) (tS X.K (sTry i c g gx hs)) := by
  refine (ps_try_as (i := i) (c := .ref Cl) hst hf hN hi hln ⟨hg, hdb, .inl hm⟩ takes0 (fun W pn xe tk _ => hb W pn xe tk) hsu).imp fun D σ H h => ?_
  obtain ⟨C, O, ρ, out, ek, F, e, p⟩ := h
  unfold sTry at e
  cases eg : g ρ with
  | some o1 =>
    rw [eg] at e
    cases e
    exact .inl ⟨C, O, ρ, _, ek, F, eg, p⟩
  | none =>
    rw [eg] at e
    cases ex : gx ρ with
    | none => simp [ex] at e
    | some q =>
      obtain ⟨x, ρ1⟩ := q
      simp only [ex, Option.bind_some] at e
      split at e
      · rename_i hh
        obtain ⟨hc, hlt⟩ := hh
        cases eh : hs x (ρ1.set i .un) with
        | none => simp [eh] at e
        | some o =>
          simp only [eh, Option.bind_some] at e
          cases e
          refine .inr ⟨C, O, ρ, x, ρ1, ek, F, ex, fun cls d σ' H' O' F' xr => ?_⟩
          have xr0 := xr
          obtain ⟨Cl', m, ec, _⟩ := xr0
          rw [hc, hm] at m
          cases m
          subst ec
          refine ⟨true, te, fun _ a ha => ⟨C, O', ρ1.set i .un, x, o, ek, F'.setun, ?_, xr, eh, ?_⟩, fun h => nomatch h⟩
          · have : i < σ'.length := by rw [← F'.len]; exact hlt
            rw [List.getElem?_set_self this]
          · cases o with
            | nx ρ2 => exact fun σ2 H2 O2 F2 => p _ H2 O2 F2.setun
            | rt o2 ρ2 => exact p
            | bk ρ2 => exact fun σ2 H2 O2 F2 => p _ H2 O2 F2.setun
            | ct ρ2 => exact fun σ2 H2 O2 F2 => p _ H2 O2 F2.setun
      · cases e
theorem xr_get {K : PySem.W.Frag} {O : AP} {H : Hp} {f : Str} : ∀ (fs : List (Str × D)) (fvs : List (Str × V)) (d : D), fvs.map (·.1) = fs.map (·.1) → Reps K H O (fs.map (·.2)) (fvs.map (·.2)) → fs.lookup f = some d → ∃ v, fvs.lookup f = some v ∧ Rep K H O d v
  | [], fvs, d, _, _, h => by cases h
  | (f1, d1) :: fs, [], d, hn, _, h => by cases hn
  | (f1, d1) :: fs, (f2, v2) :: fvs, d, hn, rp, h => by
    simp only [List.map_cons, List.cons.injEq] at hn
    obtain ⟨rfl, hn⟩ := hn
    simp only [List.map_cons] at rp
    rw [Reps] at rp
    obtain ⟨u, r, ev, r1, r2⟩ := rp
    cases ev
    rw [List.lookup_cons] at h ⊢
    cases hq : (f == f2) with
    | true =>
      rw [hq] at h
      cases h
      exact ⟨_, rfl, r1⟩
    | false =>
      rw [hq] at h
      exact xr_get fs fvs d hn r2 h
theorem XR.fw {K : PySem.W.Frag} {mg : Str → Option Value} {C : Fc} {O O' : AP} {σ : L2.St} {ρ ρ' : Ev} {H H' : Hp} {x : Ex} {cls : Value} {d : Option Addr} (h : XR K mg O H x cls d) (ek : C.K = K) (F : FR C O σ ρ H) (w : Fw O σ ρ H O' ρ' H') : XR K mg O' H' x cls d := by
  obtain ⟨Cl, m, ec, dd, fvs, ed, eh, en, rp⟩ := h
  refine ⟨Cl, m, ec, dd, fvs, ed, w.kp dd _ eh fun z => ?_, en, by rw [← ek] at rp ⊢; exact w.reps F rp⟩
  obtain ⟨xs, q⟩ := F.mu dd (F.ownO z)
  rw [eh] at q; cases q
/-! ### within an except's suite -/
def tE (K : PySem.W.Frag) (mg : Str → Option Value) (i : Nat) (a : Addr) (cls : Value) (d : Option Addr) (f : Ex → FE) : TE := fun σ H Q => ∃ C O ρ x o ρ', C.K = K ∧ FR C O σ ρ H ∧ σ[i]? = some (some (.ref a)) ∧ XR K mg O H x cls d ∧ f x ρ = some (o, ρ') ∧
  ∀ v H' O', FR C O' σ ρ' H' → Fw O σ ρ H O' ρ' H' → XR K mg O' H' x cls d → OpR C O' σ ρ' H' v o → Q v H'
def tEA (K : PySem.W.Frag) (mg : Str → Option Value) (i : Nat) (a : Addr) (cls : Value) (d : Option Addr) (f : Ex → FA) : TA := fun σ H Q => ∃ C O ρ x os ρ', C.K = K ∧ FR C O σ ρ H ∧ σ[i]? = some (some (.ref a)) ∧ XR K mg O H x cls d ∧ f x ρ = some (os, ρ') ∧
  ∀ vs H' O', FR C O' σ ρ' H' → Fw O σ ρ H O' ρ' H' → XR K mg O' H' x cls d → OpWs C O' σ H' vs os → Q vs H'
def tET (K : PySem.W.Frag) (mg : Str → Option Value) (i : Nat) (a : Addr) (cls : Value) (d : Option Addr) (f : Ex → FT) : TT := fun σ H Q => ∃ C O ρ x b ρ', C.K = K ∧ FR C O σ ρ H ∧ σ[i]? = some (some (.ref a)) ∧ XR K mg O H x cls d ∧ f x ρ = some (b, ρ') ∧
  ∀ H' O', FR C O' σ ρ' H' → Fw O σ ρ H O' ρ' H' → XR K mg O' H' x cls d → Q b H'
def hFld (c f : Str) : Ex → FE := fun x ρ => if x.c = c then (x.fs.lookup f).bind fun d => some (.d d, ρ) else none
def hTup (g : Ex → FA) : Ex → FE := fun x => fTup (g x)
def hCons (f : Ex → FE) (g : Ex → FA) : Ex → FA := fun x => aCons (f x) (g x)
def hIf (t : Ex → FT) (f g : Ex → FE) : Ex → FE := fun x => fIf (t x) (f x) (g x)
def hSet (j : Nat) (f : Ex → FE) : Ex → FS := fun x => sSet j (f x)
section
variable {X : Cx} {i : Nat} {a : Addr} {cls : Value} {d : Option Addr} {e : Expr} {es : List Expr} {f g : Ex → FE} {h : Ex → FA} {t : Ex → FT} {f0 : FE} {pos : Pos}
theorem e_lift (he : PE X e (tF X.K f0)) : PE X e (tE X.K X.mg i a cls d fun _ => f0) := he.imp fun σ H Q q => by
  obtain ⟨C, O, ρ, x, o, ρ', ek, F, hs, xr, e, q⟩ := q
  exact ⟨C, O, ρ, o, ρ', ek, F, e, fun v H' O' F' w r => q v H' O' F' w (xr.fw ek F w) r⟩
theorem et_lift {t0 : FT} (he : PT X e (tT X.K t0)) : PT X e (tET X.K X.mg i a cls d fun _ => t0) := he.imp fun σ H Q q => by
  obtain ⟨C, O, ρ, x, o, ρ', ek, F, hs, xr, e, q⟩ := q
  exact ⟨C, O, ρ, o, ρ', ek, F, e, fun H' O' F' w => q H' O' F' w (xr.fw ek F w)⟩
theorem ea_nil : PA X [] (tEA X.K X.mg i a cls d fun _ => aNil) := pa_nil.imp fun σ H Q q => by
  obtain ⟨C, O, ρ, x, o, ρ', ek, F, hs, xr, e, q⟩ := q
  cases e
  exact q [] H O F .refl xr .nil
theorem ea_cons (ha : PE X e (tE X.K X.mg i a cls d f)) (hr : PA X es (tEA X.K X.mg i a cls d h)) (hs : starEach (e :: es) X.env = (false, eval e X.env) :: starEach es X.env := by rfl) : PA X (e :: es) (tEA X.K X.mg i a cls d (hCons f h)) := (pa_cons ha hr hs).imp fun σ H Q q => by
  obtain ⟨C, O, ρ, x, o, ρ', ek, F, hs, xr, e, q⟩ := q
  unfold hCons aCons at e
  cases ea : f x ρ with
  | none => rw [ea] at e; cases e
  | some p =>
    obtain ⟨o1, ρ1⟩ := p
    rw [ea, Option.bind_some] at e
    cases eb : h x ρ1 with
    | none => simp only [eb] at e; cases e
    | some p2 =>
      obtain ⟨os, ρ2⟩ := p2
      simp only [eb, Option.bind_some] at e
      cases e
      refine ⟨C, O, ρ, x, o1, ρ1, ek, F, hs, xr, ea, fun v H1 O1 F1 w xr1 r => ?_⟩
      exact ⟨C, O1, ρ1, x, os, ρ', ek, F1, hs, xr1, eb, fun vs H2 O2 F2 w2 xr2 r2 => q (v :: vs) H2 O2 F2 (w.trans w2) xr2 (.cons (r.w.fw F1 w2) r2)⟩
theorem e_tup {x1 : Nat} (ha : PA X es (tEA X.K X.mg i a cls d h)) : PE X (.Tuple es x1 pos) (tE X.K X.mg i a cls d (hTup h)) := (pe_tup ha).imp fun σ H Q q => by
  obtain ⟨C, O, ρ, x, o, ρ', ek, F, hs, xr, e, q⟩ := q
  unfold hTup fTup at e
  cases ea : h x ρ with
  | none => rw [ea] at e; cases e
  | some p =>
    obtain ⟨os, ρ1⟩ := p
    rw [ea, Option.bind_some] at e
    cases eb : escs os ρ1 with
    | none => simp only [eb] at e; cases e
    | some p2 =>
      obtain ⟨ds, ρ2⟩ := p2
      simp only [eb, Option.bind_some] at e
      split at e
      · rename_i hl
        cases e
        refine ⟨C, O, ρ, x, os, ρ1, ek, F, hs, xr, ea, fun vs H1 O1 F1 w xr1 r => ?_⟩
        obtain ⟨O2, F2, w2, r2⟩ := escs_ok r F1 eb
        refine ⟨by rw [← r2.len]; rw [sizeLine_eq]; exact hl, fun p hp => ?_⟩
        have w3 := (w.trans w2).trans (Fw.laid (o := .tup vs) hp)
        refine q _ _ O2 (F2.laid hp) w3 (xr.fw ek F w3) ?_
        show Rep C.K _ _ (.tup _) _
        rw [Rep]
        exact ⟨p, vs, rfl, .inl (.inl upd_same), r2.keep (fun b u e _ => updK hp b u e) F2.mu fun _ h => h⟩
      · cases e
theorem e_if {c b0 b1 : Expr} (hc : PT X c (tET X.K X.mg i a cls d t)) (ha : PE X b0 (tE X.K X.mg i a cls d f)) (hb : PE X b1 (tE X.K X.mg i a cls d g)) : PE X (.IfExp c b0 b1 pos) (tE X.K X.mg i a cls d (hIf t f g)) := (pe_ifExp hc ha hb).imp fun σ H Q q => by
  obtain ⟨C, O, ρ, x, o, ρ', ek, F, hs, xr, e, q⟩ := q
  unfold hIf fIf at e
  cases ea : t x ρ with
  | none => rw [ea] at e; cases e
  | some p =>
    obtain ⟨b, ρ1⟩ := p
    rw [ea, Option.bind_some] at e
    refine ⟨C, O, ρ, x, b, ρ1, ek, F, hs, xr, ea, fun H1 O1 F1 w xr1 => ?_⟩
    cases b with
    | true => exact ⟨C, O1, ρ1, x, o, ρ', ek, F1, hs, xr1, e, fun v H2 O2 F2 w2 xr2 r => q v H2 O2 F2 (w.trans w2) xr2 r⟩
    | false => exact ⟨C, O1, ρ1, x, o, ρ', ek, F1, hs, xr1, e, fun v H2 O2 F2 w2 xr2 r => q v H2 O2 F2 (w.trans w2) xr2 r⟩
theorem se_set {j : Nat} {y : Str} {pos' : Pos} (hN : X.N.Nodup) (he : PE X e (tE X.K X.mg i a cls d f)) (hi : X.N[j]? = some y := by rfl) (hx : Loc X.env.scope y := by first | exact Or.inl rfl | exact Or.inr rfl) (hs : swapsWith e (some (.Name y pos')) pos.line X.env = pure false := by rfl) (hf : X.fn y = true ∨ X.env.scope.names.lookup y = some .local := by first | exact .inl rfl | exact .inr rfl | assumption) :
    PS X (.Assign [.Name y pos'] e pos) (tSu X.K X.mg i (hSet j f) a cls d) := (ps_set hN hi hx he hs hf).imp fun D σ H q => by
  obtain ⟨C, O, ρ, x, out, ek, F, hs, xr, e, p⟩ := q
  unfold hSet sSet at e
  cases ea : f x ρ with
  | none => rw [ea] at e; cases e
  | some q =>
    obtain ⟨o1, ρ1⟩ := q
    rw [ea, Option.bind_some] at e
    exact ⟨C, O, ρ, x, o1, ρ1, ek, F, hs, xr, ea, fun v H1 O1 F1 _ _ r => stV_ok r F1 e p⟩
end
theorem e_fld {X : Cx} {a Cl : Addr} {oe : Obj} {cls : Value} {d : Option Addr} {pn : List (Addr × Obj)} {i : Nat} {n f c : Str} {p pos : Pos} (T : XfC X.K Cl) (hm : X.mg c = some (.ref Cl)) (hno : PySem.W.findIn X.K (.ref Cl) f = some none) (hz : Zc cls d oe) (hf : ∃ vs, oe.data = .fields vs)
    (hi : X.N[i]? = some n := by rfl) (hv : Vis X.env.scope n := by first | exact Or.inl rfl | exact Or.inr (Or.inl rfl) | exact Or.inr (Or.inr rfl)) (hd : (n == ("__debug__" : Str)) = false := by decide)
    (hcd : (n == ("__classdict__" : Str)) = false := by decide) (hb : attributeBase (.Name n p) f X.env (eval (.Name n p) X.env) = eval (.Name n p) X.env := by rfl) : PE (X.suite a ((a, oe) :: pn)) (.Attribute (.Name n p) f pos) (tE X.K X.mg i a cls d (hFld c f)) :=
  (pe_xf (X := X) T hno hz hf (pe_var (X := X.suite a ((a, oe) :: pn)) hi hv hd hcd) hb).imp fun σ H Q q => by
    obtain ⟨C, O, ρ, x, o, ρ', ek, F, hs, xr, e, q⟩ := q
    have xr0 := xr
    obtain ⟨Cl', m, ec, dd, fvs, ed, eh, en, rp⟩ := xr0
    unfold hFld at e
    split at e
    rotate_left
    · cases e
    rename_i hxc
    rw [hxc, hm] at m
    cases m
    cases el : x.fs.lookup f with
    | none => rw [el] at e; cases e
    | some d0 =>
      rw [el, Option.bind_some] at e
      cases e
      obtain ⟨v, lv, rv⟩ := xr_get x.fs fvs d0 en rp el
      exact ⟨_, hs, rfl, ec, dd, fvs, v, ed, eh, lv, q v H O F .refl xr (by rw [ek.symm] at rv; exact rv)⟩
/-! ### what the top tells of such a class -/
def clsDef : Stmt → Nat → Stmt
  | .ClassDef _ _ _ body _ _ _ _ _ _ _, k => body.getD k (.Pass ⟨0, 0, 0, 0⟩)
  | _, _ => .Pass ⟨0, 0, 0, 0⟩
structure ExcF (K : PySem.W.Frag) (mg : Str → Option Value) (c n1 n2 : Str) : Prop where
  ex : ∃ Cl : Addr, mg c = some (.ref Cl) ∧ PySem.W.exmOne K (.ref Cl) (.ref Cl) = some true ∧ XfC K Cl ∧ PySem.W.findIn K (.ref Cl) n1 = some none ∧ PySem.W.findIn K (.ref Cl) n2 = some none
end Dv

set_option Elab.async false
set_option linter.all false
set_option maxRecDepth 100000
set_option maxHeartbeats 2000000
/-! isinstance of what is caught; calls by name that may raise -/
namespace Dv
open PySem PySem.Spec PyProof.Rows L2
structure IsiC (K : PySem.W.Frag) (D : Addr) : Prop where
  c : (PySem.W.clsIn K D).isSome = true
  g : PySem.W.findIn K (.ref D) "__getattribute__" = some (some (.builtin "BaseException.__getattribute__"))
  t : PySem.W.findIn K (.ref D) "__getattr__" = some none
  b : PySem.W.subIn K (.ref D) (.type "BaseException") = some true
  a : PySem.W.findIn K (.ref D) "__class__" = some (some (.builtin "object.__class__"))
  n : PySem.W.specialIn K (.builtin "object.__class__") "__get__" = some (some (.builtin "getset_descriptor.__get__"))
  k : PySem.W.takesIn K (.builtin "object.__class__") = some true
  m : PySem.W.mroIn K D (.type "object") = some true
structure IsiG (K : PySem.W.Frag) (mg : Str → Option Value) (c y : Str) : Prop where
  ex : ∃ D Cy : Addr, mg c = some (.ref D) ∧ mg y = some (.ref Cy) ∧ PySem.W.kitOne K (.ref D) (.ref Cy) = some true ∧ IsiC K D
structure IsiB (K : PySem.W.Frag) (mg : Str → Option Value) (c : Str) : Prop where
  ex : ∃ D : Addr, mg c = some (.ref D) ∧ mg "ValueError" = none ∧ PySem.W.kitOne K (.ref D) (.type "ValueError") = some true ∧ IsiC K D
def rIsX (K : PySem.W.Frag) (D a : Addr) (cls : Value) (d : Option Addr) : List V → Hp → VK → Prop := fun vs H Q => ∃ (y : V) (yv : Value) (dd : Addr) (fvs : List (Str × V)), vs = [.ref a, y] ∧ cls = .ref D ∧ (∀ u, RelV y u → u = yv) ∧ PySem.W.kitOne K (.ref D) yv = some true ∧
  d = some dd ∧ H dd = some (.xd fvs) ∧ Q (.bl true) H
theorem call_isX {X : Cx} {a D : Addr} {oe : Obj} {cls : Value} {d : Option Addr} {pn : List (Addr × Obj)} (C : IsiC X.K D) (hz : Zc cls d oe) (hf : ∃ vs, oe.data = .fields vs) : CallR (X.suite a ((a, oe) :: pn)) (.builtin "isinstance") (rIsX X.K D a cls d) := by
  intro pins s σ H vs us Q I r h
  obtain ⟨y, yv, dd, fvs, e0, e1, e2, e3, e4, e5, q⟩ := h
  subst e0 e1 e4
  match us, r with
  | _, .cons r1 (.cons r2 .nil) =>
    cases r1
    have z := e2 _ r2
    subst z
    have hp := (I.pin (a, oe) (List.mem_append_left _ List.mem_cons_self)).1
    obtain ⟨ws, hw⟩ := hf
    have ho : ObjOk X.prog X.w H s.heap dd (.xd fvs) := I.hok dd _ e5
    obtain ⟨mA, hns, _⟩ := ho
    obtain ⟨od, l1, _⟩ := lookIn_ns hns
    have J : PySem.W.InstAt s.heap a oe D (some od) := ⟨hp, hz.1, (by unfold PySem.W.notCls; rw [hw] <;> rfl), (by rw [hz.2]; exact l1)⟩
    exact PySem.W.kia_one (PySem.W.kitx_exc C.c C.g C.t C.b C.a C.n C.k C.m) I.kIn J e3 (fun w => nomatch w) fun t => ⟨.bl true, H, I.tok t, rfl, q⟩
def hYes (c : Str) : Ex → FE := fun x ρ => if x.c = c then some (.d (.bl true), ρ) else none
def hTst (f : Ex → FE) : Ex → FT := fun x => fTest (f x)
def hAnd (f g : Ex → FT) : Ex → FT := fun x => fAnd (f x) (g x)
section
variable {X : Cx} {a : Addr} {oe : Obj} {cls : Value} {d : Option Addr} {pn : List (Addr × Obj)} {i : Nat} {n c y : Str} {p p1 p2 pos : Pos}
theorem e_isiG (J : IsiG X.K X.mg c y) (hm : X.mg "isinstance" = none) (hz : Zc cls d oe) (hf : ∃ vs, oe.data = .fields vs) (hi : X.N[i]? = some n := by rfl) (hv : Vis X.env.scope n := by first | exact Or.inl rfl | exact Or.inr (Or.inl rfl) | exact Or.inr (Or.inr rfl)) (hd : (n == ("__debug__" : Str)) = false := by decide)
    (hcd : (n == ("__classdict__" : Str)) = false := by decide) (hg : Gl (X.suite a ((a, oe) :: pn)) "isinstance" := by rfl) (hg2 : Gl (X.suite a ((a, oe) :: pn)) y := by rfl) (hd2 : (y == ("__debug__" : Str)) = false := by decide)
    (he : starEach [.Name n p1, .Name y p2] (X.suite a ((a, oe) :: pn)).env = (false, eval (.Name n p1) (X.suite a ((a, oe) :: pn)).env) :: starEach [.Name y p2] (X.suite a ((a, oe) :: pn)).env := by rfl) (he2 : starEach [.Name y p2] (X.suite a ((a, oe) :: pn)).env = (false, eval (.Name y p2) (X.suite a ((a, oe) :: pn)).env) :: starEach [] (X.suite a ((a, oe) :: pn)).env := by rfl)
    (hpl : (backTo pos (starEach [.Name y p2] (X.suite a ((a, oe) :: pn)).env)).any (·.1) = false := by rfl) :
    PE (X.suite a ((a, oe) :: pn)) (.Call (.Name "isinstance" p) [.Name n p1, .Name y p2] [] pos) (tE X.K X.mg i a cls d (hYes c)) := by
  obtain ⟨D, Cy, m1, m2, hk, C⟩ := J.ex
  refine (pe_callB (X := X.suite a ((a, oe) :: pn)) (call_isX C hz hf) hg hm (by decide +kernel) (pa_cons (pe_var hi hv hd hcd) (pa_cons (pe_glob (v := .ref Cy) hg2 m2 rfl hd2) pa_nil he2) he) (by decide) (by decide) he hpl).imp fun σ H Q q => ?_
  obtain ⟨C0, O, ρ, x, o, ρ', ek, F, hs, xr, e, q⟩ := q
  have xr0 := xr
  obtain ⟨Cl, mm, ec, dd, fvs, ed, eh, en, rp⟩ := xr0
  unfold hYes at e
  split at e
  · rename_i hxc
    cases e
    rw [hxc, m1] at mm
    cases mm
    exact ⟨_, hs, .ref Cy, .ref Cy, dd, fvs, rfl, ec, fun u hu => hu, hk, ed, eh, q _ H O F .refl xr (by show Rep _ _ _ _ _; rw [Rep])⟩
  · cases e
theorem e_isiB (J : IsiB X.K X.mg c) (hm : X.mg "isinstance" = none) (hz : Zc cls d oe) (hf : ∃ vs, oe.data = .fields vs) (hi : X.N[i]? = some n := by rfl) (hv : Vis X.env.scope n := by first | exact Or.inl rfl | exact Or.inr (Or.inl rfl) | exact Or.inr (Or.inr rfl)) (hd : (n == ("__debug__" : Str)) = false := by decide)
    (hcd : (n == ("__classdict__" : Str)) = false := by decide) (hg : Gl (X.suite a ((a, oe) :: pn)) "isinstance" := by rfl) (hg2 : Gl (X.suite a ((a, oe) :: pn)) "ValueError" := by rfl)
    (he : starEach [.Name n p1, .Name "ValueError" p2] (X.suite a ((a, oe) :: pn)).env = (false, eval (.Name n p1) (X.suite a ((a, oe) :: pn)).env) :: starEach [.Name "ValueError" p2] (X.suite a ((a, oe) :: pn)).env := by rfl) (he2 : starEach [.Name "ValueError" p2] (X.suite a ((a, oe) :: pn)).env = (false, eval (.Name "ValueError" p2) (X.suite a ((a, oe) :: pn)).env) :: starEach [] (X.suite a ((a, oe) :: pn)).env := by rfl)
    (hpl : (backTo pos (starEach [.Name "ValueError" p2] (X.suite a ((a, oe) :: pn)).env)).any (·.1) = false := by rfl) :
    PE (X.suite a ((a, oe) :: pn)) (.Call (.Name "isinstance" p) [.Name n p1, .Name "ValueError" p2] [] pos) (tE X.K X.mg i a cls d (hYes c)) := by
  obtain ⟨D, m1, m2, hk, C⟩ := J.ex
  refine (pe_callB (X := X.suite a ((a, oe) :: pn)) (call_isX C hz hf) hg hm (by decide +kernel) (pa_cons (pe_var hi hv hd hcd) (pa_cons (pe_bltn (v := .ty "ValueError") hg2 m2 PyProof.Rows.Boot.«ValueError» rfl (by decide) (by decide)) pa_nil he2) he) (by decide) (by decide) he hpl).imp fun σ H Q q => ?_
  obtain ⟨C0, O, ρ, x, o, ρ', ek, F, hs, xr, e, q⟩ := q
  have xr0 := xr
  obtain ⟨Cl, mm, ec, dd, fvs, ed, eh, en, rp⟩ := xr0
  unfold hYes at e
  split at e
  · rename_i hxc
    cases e
    rw [hxc, m1] at mm
    cases mm
    exact ⟨_, hs, .ty "ValueError", .type "ValueError", dd, fvs, rfl, ec, fun u hu => hu, hk, ed, eh, q _ H O F .refl xr (by show Rep _ _ _ _ _; rw [Rep])⟩
  · cases e
end
section
variable {X : Cx} {i : Nat} {a : Addr} {cls : Value} {d : Option Addr} {e b : Expr} {rest : List Expr} {f : Ex → FE} {t u : Ex → FT} {pos : Pos}
theorem et_val (h : PE X e (tE X.K X.mg i a cls d f)) (he : ∀ whole, isTrue e X.env whole = (do let v ← whole; standAt e.pos; holding [v] (truthy v)) := by intro _; rfl) : PT X e (tET X.K X.mg i a cls d (hTst f)) := (pt_val h he).imp fun σ H Q q => by
  obtain ⟨C, O, ρ, x, c, ρ', ek, F, hs, xr, e, q⟩ := q
  unfold hTst fTest at e
  cases ea : f x ρ with
  | none => rw [ea] at e; cases e
  | some p =>
    rw [ea, Option.bind_some] at e
    unfold asB at e
    split at e
    · rename_i b' ρ2
      cases e
      refine ⟨C, O, ρ, x, _, _, ek, F, hs, xr, ea, fun v H1 O1 F1 w xr1 r => ⟨c, ?_, q H1 O1 F1 w xr1⟩⟩
      have r : Rep C.K H1 O1 (.bl c) v := r
      rw [Rep] at r; exact r
    · cases e
theorem et_and (ha : PT X e (tET X.K X.mg i a cls d t)) (hb : PW X (.BoolOp .And (b :: rest) pos) (tET X.K X.mg i a cls d u)) : PW X (.BoolOp .And (e :: b :: rest) pos) (tET X.K X.mg i a cls d (hAnd t u)) := (pw_and ha hb).imp fun σ H Q q => by
  obtain ⟨C, O, ρ, x, c, ρ', ek, F, hs, xr, e, q⟩ := q
  unfold hAnd fAnd at e
  cases ea : t x ρ with
  | none => rw [ea] at e; cases e
  | some p =>
    obtain ⟨c1, ρ1⟩ := p
    rw [ea, Option.bind_some] at e
    refine ⟨C, O, ρ, x, c1, ρ1, ek, F, hs, xr, ea, fun H1 O1 F1 w xr1 => ?_⟩
    cases c1 with
    | true => exact ⟨C, O1, ρ1, x, c, ρ', ek, F1, hs, xr1, e, fun H2 O2 F2 w2 xr2 => q H2 O2 F2 (w.trans w2) xr2⟩
    | false => cases e; exact q H1 O1 F1 w xr1
end
theorem d_callRX {X : Cx} {W : WX} {k n j : Nat} {x : Str} {ps : List Str} {φ : F0} {ξ : List D → Option Ex} {kws : List Keyword} {fa : FA} {p pos : Pos} (c : CalX X.prog X.w X.K X.mg X.base k x ps (spX X.K X.mg n φ ξ)) (hn : ∀ ds r, φ ds = some r → ds.length = n) (hn2 : ∀ ds r, ξ ds = some r → ds.length = n) (hr : Room j X.A) (hk : k ≤ j) (tk : Takes X W) (ha : PK X kws (tAr X.K fa)) (hg : Gl X x := by rfl)
    (hall : (backToKw pos (keywordEach kws X.env)).all (·.1.isSome) = true := by rfl) (hks : (backToKw pos (keywordEach kws X.env)).filterMap (·.1) = ps.reverse := by rfl) (hdb : (x == ("__debug__" : Str)) = false := by decide)
    (hpl : ((backTo pos (starEach [] X.env)).any (·.1) || (backToKw pos (keywordEach kws X.env)).any (·.1.isNone)) = false := by rfl) : PE X (.Call (.Name x p) [] kws pos) (tFX X.K X.mg W (fCall φ (aRev fa)) (xCall ξ (aRev fa))) := by
  obtain ⟨f, fd, hm, kp, F, b, kr⟩ := c.ex
  refine ⟨fun pins s σ H Q I h => ?_⟩
  have h1 : tAr X.K (aRev fa) σ H fun vs H1 => spX X.K X.mg n φ ξ vs H1 Q (WE W σ) := by
    rcases h with h | h
    · exact tAr_mono (tCallD (E := E0) hn h) fun vs H1 h => by
        have h : spF0 X.K n φ (vs ++ []) H1 Q E0 := h
        rw [List.append_nil] at h
        exact spX_of h
    · exact xCall_rX hn2 h
  have h2 := tArRev h1
  refine wpAny_Call_Name_kw (ld_glob I hg hm ?_ hdb)
  refine PySem.W.callWith_KW0 (h₀ := X.base) I.ok.mod.kin kp hall (thn (ha.run pos pins s σ H _ I h2) fun ws s2 ⟨zs, H2, I2, rz, q2⟩ => ⟨I2.kIn, ?_⟩) hpl
  rw [hks]
  have q2 : spX X.K X.mg n φ ξ zs.reverse H2 Q (WE W σ) := q2
  have hl : ws.length = ps.length := by
    have := F.len _ _ _ _ q2
    rw [List.length_reverse] at this
    rw [← rz.length]; exact this
  refine wpAny_call (codeAny_mono (F.run X.A X.stack s2 H2 ⟨[], ps.reverse.zip ws⟩ ws.reverse zs.reverse Q (WE W σ) (hr.mono hk) I2.env0 (kr s2 ws I2.kIn hl) rz.reverse q2) fun r s' hq => ?_)
  cases r with
  | error e => exact passAt tk σ pins H2 s2 e s' I2 hq
  | ok fl =>
    cases fl with
    | ret u => exact I2.after hq
    | next => exact False.elim hq
    | brk => exact False.elim hq
    | cont => exact False.elim hq
end Dv

set_option Elab.async false
set_option linter.all false
set_option maxRecDepth 100000
set_option maxHeartbeats 2000000
/-! written dicts of texts that are only read -/
namespace Dv
open PySem PySem.Spec PyProof.Rows L2
section
variable {K : PySem.W.Frag} {H : Hp} {O : AP} {p : Addr} {u : HO}
mutual
/-- an empty dict is no tree's: it may be filled -/
theorem Rep.dk (hp : H p = some (.dK [])) : ∀ {d : D} {v : V}, Rep K H O d v → Rep K (upd H p u) O d v
  | .non, v, h => by rw [Rep] at h ⊢; exact h
  | .bl b, v, h => by rw [Rep] at h ⊢; exact h
  | .int b, v, h => by rw [Rep] at h ⊢; exact h
  | .str b, v, h => by rw [Rep] at h ⊢; exact h
  | .op b, v, h => by rw [Rep] at h ⊢; exact h
  | .lst ds, v, h => by
    rw [Rep] at h ⊢
    obtain ⟨a, xs, e, ha, no, r⟩ := h
    exact ⟨a, xs, e, by rw [upd_ne (fun z => by rw [z, hp] at ha; cases ha)]; exact ha, no, Reps.dk hp r⟩
  | .frl ds, v, h => by
    rw [Rep] at h ⊢
    obtain ⟨a, xs, e, ha, r⟩ := h
    exact ⟨a, xs, e, ha.to fun o ho => by rw [upd_ne (fun z => by rw [z, hp] at ho; cases ho)]; exact ho, Reps.dk hp r⟩
  | .tup ds, v, h => by
    rw [Rep] at h ⊢
    obtain ⟨a, xs, e, ha, r⟩ := h
    refine ⟨a, xs, e, ?_, Reps.dk hp r⟩
    rcases ha with (q | ⟨o, q⟩) | q
    · exact .inl (.inl (by rw [upd_ne (fun z => by rw [z, hp] at q; cases q)]; exact q))
    · exact .inl (.inr ⟨o, by rw [upd_ne (fun z => by rw [z, hp] at q; cases q)]; exact q⟩)
    · exact .inr q
  | .dct ks ds, v, h => by
    rw [Rep] at h ⊢
    obtain ⟨a, kvs, e, ha, ne, hk, r⟩ := h
    exact ⟨a, kvs, e, by rw [upd_ne (fun z => by rw [z, hp] at ha; cases ha; exact ne rfl)]; exact ha, ne, hk, Reps.dk hp r⟩
theorem Reps.dk (hp : H p = some (.dK [])) : ∀ {ds : List D} {vs : List V}, Reps K H O ds vs → Reps K (upd H p u) O ds vs
  | [], vs, h => by rw [Reps] at h ⊢; exact h
  | d :: ds, vs, h => by
    rw [Reps] at h ⊢
    obtain ⟨v, r, e, h1, h2⟩ := h
    exact ⟨v, r, e, Rep.dk hp h1, Reps.dk hp h2⟩
end
theorem FR.dk {C : Fc} {σ : L2.St} {ρ : Ev} (F : FR C O σ ρ H) (hp : H p = some (.dK [])) (h0 : C.H0 p = none) : FR C O σ ρ (upd H p u) := by
  have nl : ∀ a xs, H a = some (.lst xs) → a ≠ p := fun a xs h z => by rw [z, hp] at h; cases h
  refine ⟨F.len, fun b o e n => ?_, fun a h => ?_, F.sub, F.sdom, F.bs, fun i s e => ?_, F.inj, fun q h => (F.held q h).dk hp⟩
  · have q := F.keep b o e n
    rw [upd_ne (fun z => by rw [z, h0] at e; cases e)]; exact q
  · obtain ⟨xs, q⟩ := F.mu a h
    exact ⟨xs, by rw [upd_ne (nl a xs q)]; exact q⟩
  · have z := F.slot i s e
    cases s with
    | un => trivial
    | val d => obtain ⟨v, e1, r⟩ := z; exact ⟨v, e1, r.dk hp⟩
    | own ds =>
      obtain ⟨a, xs, e1, e2, r, oa, q0⟩ := z
      exact ⟨a, xs, e1, by rw [upd_ne (nl a xs e2)]; exact e2, r.dk hp, oa, q0⟩
    | bor ds =>
      obtain ⟨a, xs, e1, e2, r, oa, q0⟩ := z
      exact ⟨a, xs, e1, by rw [upd_ne (nl a xs e2)]; exact e2, r.dk hp, oa, q0⟩
end
/-! the display -/
structure DpR (X : Cx) (pos : Pos) (keys : List (Option Expr)) (values : List Expr) (ks : List Str) (fa : FA) : Prop where
  ex : ∃ trs, PPs X pos keys values trs ∧ ∀ σ H Q, tAr X.K fa σ H (fun vs H' => vs.length = ks.length → Q ((ks.zip vs).map fun p => (V.str p.1, p.2)) H') → tPairs trs σ H Q
section
variable {X : Cx} {pos : Pos} {p : Pos} {keys : List (Option Expr)} {values : List Expr} {v : Expr} {k : Str} {ks : List Str} {f : FE} {fa : FA} {j : Nat}
theorem dp_nil : DpR X pos [] [] [] aNil := ⟨[], pps_nil, fun σ H Q h => by
  obtain ⟨C, O, ρ, o, ρ', ek, F, e, q⟩ := h
  cases e
  exact q [] H O F .refl .nil rfl⟩
theorem dp_cons (hv : PE X v (tF X.K f)) (h : DpR X pos keys values ks fa) : DpR X pos (some (.Constant (.str k) j p) :: keys) (v :: values) (k :: ks) (aCons f fa) := by
  obtain ⟨trs, h1, h2⟩ := h.ex
  refine ⟨(tC (.str k), tF X.K f) :: trs, pps_cons pe_str hv h1, fun σ H Q hh => ?_⟩
  show tF X.K f σ H fun y H2 => tPairs trs σ H2 fun ps H3 => Q ((V.str k, y) :: ps) H3
  obtain ⟨C, O, ρ, os0, ρ', ek, F, e, q⟩ := hh
  have e0 := e
  unfold aCons at e
  cases ea : f ρ with
  | none => rw [ea] at e; cases e
  | some p =>
    obtain ⟨o1, ρ1⟩ := p
    rw [ea, Option.bind_some] at e
    cases eb : fa ρ1 with
    | none => simp only [eb] at e; cases e
    | some p2 =>
      obtain ⟨os, ρ2⟩ := p2
      simp only [eb, Option.bind_some] at e
      cases e
      refine ⟨C, O, ρ, o1, ρ1, ek, F, ea, fun v H1 O1 F1 w r => ?_⟩
      refine h2 σ H1 _ ⟨C, O1, ρ1, os, ρ', ek, F1, eb, fun vs H2 O2 F2 w2 r2 hvl => ?_⟩
      have := q (v :: vs) H2 O2 F2 (w.trans w2) (.cons (r.w.fw F1 w2) r2) (by rw [List.length_cons, List.length_cons, hvl])
      simpa using this
end
theorem put_new {kvs : List (Key × V)} {k : Key} {v : V} (h : ∀ q ∈ kvs, q.1 ≠ k) : putK kvs k v = kvs ++ [(k, v)] := by
  unfold putK
  rw [if_neg]
  intro hh
  obtain ⟨q, hq, he⟩ := List.any_eq_true.mp hh
  exact h q hq (of_decide_eq_true he)
theorem merge_new : ∀ (more kvs : List (Key × V)), (more.map (·.1)).Nodup → (∀ q ∈ kvs, ∀ m ∈ more, q.1 ≠ m.1) → mergeK kvs more = kvs ++ more
  | [], kvs, _, _ => by simp [mergeK]
  | m :: more, kvs, hn, hd => by
    rw [List.map_cons, List.nodup_cons] at hn
    show mergeK (putK kvs m.1 m.2) more = _
    rw [put_new fun q hq => hd q hq m (by simp), merge_new more _ hn.2 fun q hq x hx => ?_, List.append_assoc]
    · rfl
    · rcases List.mem_append.mp hq with hq | hq
      · exact hd q hq x (by simp [hx])
      · rw [List.mem_singleton.mp hq]
        intro z
        exact hn.1 (List.mem_map.mpr ⟨x, hx, z.symm⟩)
def fDct (ks : List Str) (fa : FA) : FE := fun ρ => (fa ρ).bind fun p => (escs p.1 p.2).bind fun q => if q.1.length = ks.length ∧ ks.length ≤ 15 ∧ ks.length ≠ 0 ∧ ks.Nodup then some (.d (.dct ks q.1), q.2) else none
theorem d_dict {X : Cx} {pos : Pos} {keys : List (Option Expr)} {values : List Expr} {ks : List Str} {fa : FA} (h : DpR X pos keys values ks fa) (hall : keys.all (·.isSome) = true := by rfl) (hl : keys.length = values.length := by rfl) (h0 : keys ≠ [] := by exact fun z => nomatch z) (h15 : keys.length ≤ 15 := by decide) :
    PE X (.Dict keys values pos) (tF X.K (fDct ks fa)) := by
  obtain ⟨trs, h1, h2⟩ := h.ex
  refine (pe_disp h1 hall hl h0 h15).imp fun σ H Q q => ?_
  intro p hp
  obtain ⟨C, O, ρ, o, ρ', ek, F, e, q⟩ := q
  unfold fDct at e
  cases ea : fa ρ with
  | none => rw [ea] at e; cases e
  | some p1 =>
    obtain ⟨os, ρ1⟩ := p1
    rw [ea, Option.bind_some] at e
    cases eb : escs os ρ1 with
    | none => simp only [eb] at e; cases e
    | some p2 =>
      obtain ⟨ds, ρ2⟩ := p2
      simp only [eb, Option.bind_some] at e
      split at e
      · rename_i hc
        obtain ⟨c1, c2, c3, c4⟩ := hc
        cases e
        refine h2 σ _ _ ⟨C, O, ρ, os, ρ1, ek, F.laid hp, ea, fun vs H2 O2 F2 w r hvl => ?_⟩
        obtain ⟨O3, F3, w3, r3⟩ := escs_ok r F2 eb
        have hnO : ∀ (O' : AP) (σ' : L2.St) (ρ' : Ev) (H' : Hp), FR C O' σ' ρ' H' → H' p = some (.dK []) → ¬ OwnA σ' ρ' p := fun O' σ' ρ' H' F' hh z => by
          obtain ⟨ys, q⟩ := F'.mu p (F'.ownO z)
          rw [hh] at q; cases q
        have hp2 : H2 p = some (.dK []) := w.kp p _ upd_same (hnO _ _ _ _ (F.laid hp) upd_same)
        refine ⟨hp2, (ks.zip vs).map (fun q => (Sum.inr q.1, q.2)), by rw [List.map_map]; rfl, by simp; omega, ?_⟩
        have hk1 : ((ks.zip vs).map (fun q => ((Sum.inr q.1 : Key), q.2))).map (·.1) = ks.map Sum.inr := by
          rw [List.map_map, show ((fun x : Key × V => x.1) ∘ fun q : Str × V => ((Sum.inr q.1 : Key), q.2)) = (fun q : Str × V => (Sum.inr q.1 : Key)) from rfl]
          rw [show (fun q : Str × V => (Sum.inr q.1 : Key)) = (Sum.inr ∘ Prod.fst) from rfl, ← List.map_map, List.map_fst_zip (by omega)]
        have hk2 : ((ks.zip vs).map (fun q => ((Sum.inr q.1 : Key), q.2))).map (·.2) = vs := by
          rw [List.map_map, show ((fun x : Key × V => x.2) ∘ fun q : Str × V => ((Sum.inr q.1 : Key), q.2)) = Prod.snd from rfl, List.map_snd_zip (by omega)]
        have hnd : (((ks.zip vs).map (fun q => ((Sum.inr q.1 : Key), q.2))).map (·.1)).Nodup := by
          rw [hk1]
          exact List.Pairwise.map _ (fun a b hab hz => hab (Sum.inr.inj hz)) c4
        rw [merge_new _ [] hnd (fun _ hq => nomatch hq), List.nil_append]
        have wt := w.trans w3
        have w4 : Fw O σ ρ H O3 ρ' (upd H2 p (.dK ((ks.zip vs).map (fun q => (Sum.inr q.1, q.2))))) := ⟨fun b u hb nb => by
            have hbp : b ≠ p := fun z => by rw [z, hp] at hb; cases hb
            rw [upd_ne hbp]
            exact wt.kp b u (by rw [upd_ne hbp]; exact hb) nb, wt.own, wt.sub, wt.stay⟩
        refine q _ _ O3 (F3.dk hp2 (F.h0 hp)) w4 ?_
        show Rep C.K _ _ (.dct ks ds) _
        rw [Rep]
        refine ⟨p, _, rfl, upd_same, ?_, hk1, ?_⟩
        · intro z
          have := congrArg List.length z
          rw [List.length_map, List.length_zip, List.length_nil] at this
          omega
        · rw [hk2]; exact r3.dk hp2
      · cases e
/-! d[k] -/
def gDx : D → D → Option Opd
  | .dct ks ds, .str k => ((ks.zip ds).lookup k).bind fun d => some (.d d)
  | _, _ => none
theorem dct_get {K : PySem.W.Frag} {H : Hp} {O : AP} {k : Str} : ∀ (ks : List Str) (ds : List D) (kvs : List (Key × V)) (d : D), kvs.map (·.1) = ks.map Sum.inr → Reps K H O ds (kvs.map (·.2)) → (ks.zip ds).lookup k = some d → ∃ v, valV kvs (Sum.inr k) = some v ∧ Rep K H O d v
  | [], ds, kvs, d, _, _, h => by cases h
  | k1 :: ks, [], kvs, d, _, _, h => by cases h
  | k1 :: ks, d1 :: ds, [], d, hn, _, h => by cases hn
  | k1 :: ks, d1 :: ds, (k2, v2) :: kvs, d, hn, rp, h => by
    simp only [List.map_cons, List.cons.injEq] at hn
    obtain ⟨hk, hn⟩ := hn
    simp only [List.map_cons] at rp
    rw [Reps] at rp
    obtain ⟨u, r, ev, r1, r2⟩ := rp
    cases ev
    have hk : k2 = Sum.inr k1 := hk
    subst hk
    rw [List.zip_cons_cons, List.lookup_cons] at h
    by_cases hq : k = k1
    · subst hq
      rw [beq_self_eq_true] at h
      cases h
      exact ⟨_, valV_pos rfl, r1⟩
    · have hb : (k == k1) = false := by simpa using hq
      rw [hb] at h
      obtain ⟨v, e, r⟩ := dct_get ks ds kvs d hn r2 h
      refine ⟨v, ?_, r⟩
      unfold valV at e ⊢
      rw [List.find?_cons, decide_eq_false (fun z => hq (Sum.inr.inj z).symm)]
      exact e
theorem d_dx {X : Cx} {a b : Expr} {fa fb : FE} {pos : Pos} (hu : X.A.units + 1 < cLine) (ha : PE X a (tF X.K fa)) (hb : PE X b (tF X.K fb)) (hs : NoSl b := by exact fun _ _ => rfl) : PE X (.Subscript a b pos) (tF X.K (fBin gDx fa fb)) :=
  (pe_dget hu ha hb hs).imp fun σ H Q h => by
    have h2 := tBin h
    obtain ⟨C, O, ρ, o, ρ', ek, F, e, q⟩ := h2
    refine ⟨C, O, ρ, o, ρ', ek, F, e, fun u H1 O1 F1 w1 r1 => ?_⟩
    obtain ⟨C2, O2, ρ2, o2, ρ3, ek2, F2, e2, q2⟩ := q u H1 O1 F1 w1 r1
    refine ⟨C2, O2, ρ2, o2, ρ3, ek2, F2, e2, fun v H2 O3 F3 w3 r3 => ?_⟩
    obtain ⟨C4, O4, σ4, ρ4, x, y, z, ek4, F4, vx, vy, ez, q4⟩ := q2 v H2 O3 F3 w3 r3
    unfold gDx at ez
    split at ez
    · rename_i ks ds k
      cases el : (ks.zip ds).lookup k with
      | none => rw [el] at ez; cases ez
      | some d0 =>
        rw [el, Option.bind_some] at ez
        cases ez
        have vx : Rep X.K H2 O4 (.dct ks ds) u := vx
        rw [Rep] at vx
        obtain ⟨a, kvs, rfl, ha, ne, hk, rp⟩ := vx
        obtain ⟨w, ew, rw'⟩ := dct_get ks ds kvs d0 hk rp el
        have vy : Rep X.K H2 O4 (.str k) v := vy
        rw [Rep] at vy
        subst vy
        exact ⟨a, w, rfl, by rw [← ew]; exact DGet.k (k := Sum.inr k) ha, q4 w H2 O4 F4 .refl (by show Rep C4.K _ _ _ _; rw [ek4]; exact rw')⟩
    · cases ez
end Dv

set_option Elab.async false
set_option linter.all false
set_option maxRecDepth 100000
set_option maxHeartbeats 2000000
/-! zip of two lists -/
namespace Dv
open PySem PySem.Spec PyProof.Rows L2
section
variable {K : PySem.W.Frag} {H : Hp} {O : AP} {X : Cx}
def itemsL : D → Option (List D)
  | .lst xs => some xs
  | .frl xs => some xs
  | _ => none
def zipD (xs ys : List D) : List D := List.zipWith (fun a b => .tup [a, b]) xs ys
def zpD : List D × Ev → Option (List D × Ev)
  | ([x, y], ρ) => (itemsL x).bind fun xs => (itemsL y).bind fun ys => some (zipD xs ys, ρ)
  | _ => none
def iZp (fa : FA) : FI := fun ρ => (fa ρ).bind fun p => (escs p.1 p.2).bind zpD
theorem itemsL_sq {x : D} {xs : List D} {v : V} (e : itemsL x = some xs) (r : Rep K H O x v) : ∃ a vs, v = .ref a ∧ SqL K H a vs ∧ Reps K H O xs vs := by
  cases x with
  | lst ys =>
    cases e
    rw [Rep] at r
    obtain ⟨b, ws, eb, k1, _, k3⟩ := r
    exact ⟨b, ws, eb, .inl (.inl k1), k3⟩
  | frl ys =>
    cases e
    rw [Rep] at r
    obtain ⟨b, ws, eb, k1, k3⟩ := r
    exact ⟨b, ws, eb, k1.sq, k3⟩
  | _ => cases e
theorem itemsL_sq' {x : D} {xs : List D} {a : Addr} (e : itemsL x = some xs) (r : Rep K H O x (.ref a)) : ∃ vs, SqL K H a vs ∧ Reps K H O xs vs := by
  obtain ⟨b, vs, e1, h1, h2⟩ := itemsL_sq e r
  cases e1
  exact ⟨vs, h1, h2⟩
theorem wk_zip {a b : Addr} {x y : D} {xs ys : List D} (ex : itemsL x = some xs) (ey : itemsL y = some ys) : Wk K (Itz K a b) (zipD xs ys) [(x, .ref a), (y, .ref b)] where
  go := fun i H O hi r => by
    obtain ⟨vs, h1, h2⟩ := itemsL_sq' ex (r (x, .ref a) (by simp))
    obtain ⟨us, k1, k2⟩ := itemsL_sq' ey (r (y, .ref b) (by simp))
    have hx : i < xs.length ∧ i < ys.length := by simpa [zipD, Nat.lt_min] using hi
    obtain ⟨v, hv, _⟩ := h2.get (List.getElem?_eq_getElem hx.1)
    obtain ⟨u, hu, _⟩ := k2.get (List.getElem?_eq_getElem hx.2)
    exact ⟨vs, us, v, u, h1, k1, hv, hu⟩
  stop := fun H O r => by
    obtain ⟨vs, h1, h2⟩ := itemsL_sq' ex (r (x, .ref a) (by simp))
    obtain ⟨us, k1, k2⟩ := itemsL_sq' ey (r (y, .ref b) (by simp))
    refine ⟨vs, us, h1, k1, ?_⟩
    rw [← h2.len, ← k2.len]
    simp only [zipD, List.length_zipWith]
    omega
  yld := fun i H O v H' hi ol r q => by
    obtain ⟨vs, h1, h2⟩ := itemsL_sq' ex (r (x, .ref a) (by simp))
    obtain ⟨us, k1, k2⟩ := itemsL_sq' ey (r (y, .ref b) (by simp))
    have hx : i < xs.length ∧ i < ys.length := by simpa [zipD, Nat.lt_min] using hi
    obtain ⟨v1, hv, rv⟩ := h2.get (List.getElem?_eq_getElem hx.1)
    obtain ⟨u1, hu, ru⟩ := k2.get (List.getElem?_eq_getElem hx.2)
    obtain ⟨T, x1, y1, rfl, hT, rfl, q1, q2⟩ := q
    have e1 := q1 vs h1
    have e2 := q2 us k1
    rw [hv] at e1; cases e1
    rw [hu] at e2; cases e2
    have kp : Kep O H (upd H T (.tup [v1, u1])) := fun b o h _ => updK hT b o h
    refine ⟨.inr ⟨T, _, hT, rfl⟩, .tup [xs[i]'hx.1, ys[i]'hx.2], ?_, ?_⟩
    · simp [zipD, List.getElem?_zipWith, List.getElem?_eq_getElem hx.1, List.getElem?_eq_getElem hx.2]
    · rw [Rep]
      exact ⟨T, [v1, u1], rfl, .inl (.inl upd_same), .cons (rv.keep kp ol fun _ h => h) (.cons (ru.keep kp ol fun _ h => h) .nil)⟩
theorem i_zip {e e2 : Expr} {g : FA} {p pos tpos : Pos} {elts : List Expr} {kk : Nat} (hm : X.mg "zip" = none) (ha : PA X [e, e2] (tAr X.K g)) (hg : Gl X "zip" := by rfl)
    (hs : starEach [e, e2] X.env = (false, eval e X.env) :: starEach [e2] X.env := by rfl) (hpl : (backTo pos (starEach [e2] X.env)).any (·.1) = false := by rfl) :
    PI X (.Tuple elts kk tpos) (.Call (.Name "zip" p) [e, e2] [] pos) (tI X.K (iZp g)) := (pi_zip hg hm ha hs hpl).imp fun σ H R h => by
  obtain ⟨C, O, ρ, ds, ρ', ek, F, e, q⟩ := h
  unfold iZp at e
  cases ea : g ρ with
  | none => rw [ea] at e; cases e
  | some p =>
    obtain ⟨os, ρ1⟩ := p
    rw [ea, Option.bind_some] at e
    cases ee : escs os ρ1 with
    | none => simp [ee] at e
    | some p2 =>
      obtain ⟨dd, ρ2⟩ := p2
      simp only [ee, Option.bind_some] at e
      match dd, e, ee with
      | [], e, _ => cases e
      | [_], e, _ => cases e
      | _ :: _ :: _ :: _, e, _ => cases e
      | [x, y], e, ee =>
        unfold zpD at e
        cases ex : itemsL x with
        | none => simp [ex] at e
        | some xs =>
          cases ey : itemsL y with
          | none => simp [ex, ey] at e
          | some ys =>
            simp only [ex, ey, Option.bind_some] at e
            cases e
            refine ⟨C, O, ρ, os, ρ1, ek, F, ea, fun vs H1 O1 F1 w1 rs => ?_⟩
            obtain ⟨O2, F2, w2, r2⟩ := escs_ok rs F1 ee
            rw [Reps] at r2
            obtain ⟨v, r, rfl, rx, r3⟩ := r2
            rw [Reps] at r3
            obtain ⟨u, r', rfl, ry, r4⟩ := r3
            rw [Reps] at r4
            subst r4
            rw [ek] at rx ry
            obtain ⟨a, ws, rfl, h1, _⟩ := itemsL_sq ex rx
            obtain ⟨b, us, rfl, k1, _⟩ := itemsL_sq ey ry
            refine ⟨a, b, ws, us, rfl, h1, k1, q _ [(x, .ref a), (y, .ref b)] H1 O2 F2 (w1.trans w2) (fun p hp => ?_) (wk_zip ex ey)⟩
            rcases List.mem_cons.mp hp with rfl | hp
            · exact rx
            · rw [List.mem_singleton.mp hp]; exact ry
def kZ1 (x : Option (List Opd × Ev)) : Option (List D × Ev) := x.bind fun p => (escs p.1 p.2).bind zpD
def kZ2 (x : Option (List D × Ev)) : Option (List D × Ev) := x.bind zpD
theorem ev_izp {fa : FA} {ρ : Ev} : iZp fa ρ = kZ1 (fa ρ) := (rfl)
theorem kZ1_s {os : List Opd} {ρ : Ev} : kZ1 (some (os, ρ)) = kZ2 (escs os ρ) := (rfl)
theorem kZ2_s {xs ys : List D} {ρ : Ev} : kZ2 (some ([.lst xs, .lst ys], ρ)) = some (zipD xs ys, ρ) := (rfl)
end
end Dv

set_option Elab.async false
set_option linter.all false
set_option maxRecDepth 100000
set_option maxHeartbeats 4000000
namespace Dv
open PySem PySem.Spec PyProof.Rows L2
noncomputable section
def dc_USES : D := (.tup [(.str "keep"), (.str "check"), (.str "skip"), (.str "end"), (.str "stop")])
def dc_WIDTHS : D := (.tup [(.str "one"), (.str "high"), (.str "low")])
def dc_BASE : D := (.int 0)
def dc_HEAD : D := (.int 1)
def dc_TAG : D := (.tup [(.str "tag")])
def dc_MOST : D := (.int 3)
def dc_WIDTH : D := (.int 2)
def dc_OTHERS : D := (.int 5)
def dc_TAGS : D := (.int 4)
def dc_OVER : D := (.tup [(.str "over")])
def dc_ROOM : D := (.tup [(.str "room")])
def dc_NOTHING : D := (.int (-1))
def dc_TOLD_USES : D := (.tup [(.str "keep"), (.str "check")])
def tb_REFUSALS : List (Str × Str) := [("head", "head"), ("tag", "tag"), ("length", "length"), ("second", "length"), ("sum", "check"), ("over", "behind")]
-- slots of _law_grab: bag below digit mix
def g__law_grab : FS :=
  (sSeq (sIf (fTest (fBin (gCmp fun i j => decide (j < i)) (fBin gIx (fName 0) (fC (.int 0))) (fC (.int 0)))) (sSeq (sSet 2 (fBin gMod (fB1 gInt (fBin gIx (fName 0) (fC (.int 0)))) (fName 1)))
    (sSeq (sStI 0 (pInt (fC (.int 0))) (fBin gDiv (fBin gIx (fName 0) (fC (.int 0))) (fName 1)))
    (sRet (fName 2)))) sSkip)
    (sSeq (sStI 0 (pInt (fC (.int 2))) (fBin gAdd (fBin gIx (fName 0) (fC (.int 2))) (fC (.int 1))))
    (sSeq (sSet 3 (fBin gMod (fBin gPow (fB1 gInt (fBin gAdd (fBin gIx (fName 0) (fC (.int 1))) (fBin gMul (fC (.int 90019)) (fBin gIx (fName 0) (fC (.int 2)))))) (fC (.int 2))) (fBin gAdd (fBin gPow (fC (.int 10)) (fC (.int 38))) (fC (.int 271)))))
    (sSeq (sSet 3 (fBin gMod (fBin gPow (fB1 gInt (fBin gAdd (fName 3) (fBin gMul (fC (.int 1900037)) (fBin gIx (fName 0) (fC (.int 2)))))) (fC (.int 3))) (fBin gAdd (fBin gPow (fC (.int 10)) (fC (.int 39))) (fC (.int 331)))))
    (sRet (fBin gMod (fBin gDiv (fName 3) (fC (.int 8192))) (fName 1)))))))
def phi__law_grab : F1 := phi1 2 4 g__law_grab
theorem e__law_grab : ∀ ds r, phi__law_grab ds = some r → ds.length = 2 ∧ run1 4 g__law_grab ds = some r := fun _ _ h => phi_run1 h
theorem n__law_grab : ∀ ds r, phi__law_grab ds = some r → ds.length = 2 := fun ds r h => (e__law_grab ds r h).1
-- slots of _law_drawn_tags: bag base many_here kinds_here found sign
def g__law_drawn_tags : FS :=
  (sSeq (sPar [(3, true), (4, true)] (aCons (fLst (aCons (fC (.str "keep")) (aCons (fC (.str "check")) (aCons (fC (.str "skip")) (aCons (fC (.str "end")) (aCons (fC (.str "stop")) (aCons (fC (.str "keep")) (aCons (fC (.str "skip")) aNil)))))))) (aCons (fLst aNil) aNil)))
    (sSeq (sFor (iRg1 (pInt (fName 1))) (.nm 5) (sIf (fAnd (fTest (fBin (gCmp fun i j => decide (i < j)) (fB1 gLen (fName 4)) (fName 2))) (fTest (fBin (gCmp fun i j => decide (i < j)) (fCall1 phi__law_grab (aCons (fName 0) (aCons (fName 1) aNil))) (fName 2)))) (sApp 4 (fTup (aCons (fName 5) (aCons (fBin gIx (fName 3) (fCall1 phi__law_grab (aCons (fName 0) (aCons (fC (.int 7)) aNil)))) aNil)))) sSkip))
    (sRet (fB1 gTuple (fName 4)))))
def phi__law_drawn_tags : F1 := phi1 3 6 g__law_drawn_tags
theorem e__law_drawn_tags : ∀ ds r, phi__law_drawn_tags ds = some r → ds.length = 3 ∧ run1 6 g__law_drawn_tags ds = some r := fun _ _ h => phi_run1 h
theorem n__law_drawn_tags : ∀ ds r, phi__law_drawn_tags ds = some r → ds.length = 3 := fun ds r h => (e__law_drawn_tags ds r h).1
-- slots of _law_drawn_form: bag base marks_here most_here many_here many_marks head_here wide top rows k
def g__law_drawn_form : FS :=
  (sSeq (sSet 5 (fCall1 phi__law_grab (aCons (fName 0) (aCons (fBin gAdd (fName 2) (fC (.int 1))) aNil))))
    (sSeq (sSet 6 (fLc (iRg1 (pInt (fName 5))) (.nm 10) fYes (fIf (fTest (fBin (gEq false) (fCall1 phi__law_grab (aCons (fName 0) (aCons (fC (.int 3)) aNil))) (fC (.int 0)))) (fC .non) (fCall1 phi__law_grab (aCons (fName 0) (aCons (fName 1) aNil)))) [10]))
    (sSeq (sSet 7 (fBin gIx (fLst (aCons (fC (.str "one")) (aCons (fC (.str "one")) (aCons (fC (.str "high")) (aCons (fC (.str "low")) aNil))))) (fCall1 phi__law_grab (aCons (fName 0) (aCons (fC (.int 4)) aNil)))))
    (sSeq (sSet 8 (fCall1 phi__law_grab (aCons (fName 0) (aCons (fBin gAdd (fName 3) (fC (.int 1))) aNil))))
    (sSeq (sSet 9 (fCall1 phi__law_drawn_tags (aCons (fName 0) (aCons (fName 1) (aCons (fCall1 phi__law_grab (aCons (fName 0) (aCons (fBin gAdd (fName 4) (fC (.int 1))) aNil))) aNil)))))
    (sRet (fTup (aCons (fName 1) (aCons (fB1 gTuple (fName 6)) (aCons (fName 7) (aCons (fName 8) (aCons (fName 9) (aCons (fBin gIx (fLst (aCons (fC (.str "skip")) (aCons (fC (.str "refuse")) aNil))) (fCall1 phi__law_grab (aCons (fName 0) (aCons (fC (.int 2)) aNil)))) aNil)))))))))))))
def phi__law_drawn_form : F1 := phi1 5 11 g__law_drawn_form
theorem e__law_drawn_form : ∀ ds r, phi__law_drawn_form ds = some r → ds.length = 5 ∧ run1 11 g__law_drawn_form ds = some r := fun _ _ h => phi_run1 h
theorem n__law_drawn_form : ∀ ds r, phi__law_drawn_form ds = some r → ds.length = 5 := fun ds r h => (e__law_drawn_form ds r h).1
-- slots of _law_any_form: bag base great marks_here many top
def g__law_any_form : FS :=
  (sSeq (sPar [(3, false), (4, false)] (aCons (fBin gIx (fLst (aCons (fC (.int 3)) (aCons (fName 2) aNil))) (fCall1 phi__law_grab (aCons (fName 0) (aCons (fC (.int 2)) aNil)))) (aCons (fBin gIx (fLst (aCons (fC (.int 4)) (aCons (fName 2) aNil))) (fCall1 phi__law_grab (aCons (fName 0) (aCons (fC (.int 2)) aNil)))) aNil)))
    (sSeq (sSet 5 (fBin gIx (fLst (aCons (fC (.int 5)) (aCons (fC (.int 40)) (aCons (fC (.int 65535)) aNil)))) (fCall1 phi__law_grab (aCons (fName 0) (aCons (fC (.int 3)) aNil)))))
    (sRet (fCall1 phi__law_drawn_form (aCons (fName 0) (aCons (fName 1) (aCons (fName 3) (aCons (fName 5) (aCons (fName 4) aNil)))))))))
def phi__law_any_form : F1 := phi1 3 6 g__law_any_form
theorem e__law_any_form : ∀ ds r, phi__law_any_form ds = some r → ds.length = 3 ∧ run1 6 g__law_any_form ds = some r := fun _ _ h => phi_run1 h
theorem n__law_any_form : ∀ ds r, phi__law_any_form ds = some r → ds.length = 3 := fun ds r h => (e__law_any_form ds r h).1
-- slots of _law_bag: script at cell
def g__law_bag : FS :=
  (sSeq (sSet 2 (fIf (fTest (fBin (gCmp fun i j => decide (i < j)) (fName 1) (fB1 gLen (fName 0)))) (fBin gIx (fName 0) (fName 1)) (fC (.int 0))))
    (sRet (fLst (aCons (fBin gMax (fC (.int 0)) (fBin gSub (fB1 gAbs (fName 2)) (fBin gPow (fC (.int 10)) (fC (.int 18))))) (aCons (fBin gAdd (fBin gAdd (fBin gMul (fBin gMod (fB1 gInt (fName 2)) (fBin gAdd (fBin gPow (fC (.int 10)) (fC (.int 37))) (fC (.int 163)))) (fC (.int 89))) (fBin gMul (fC (.int 71)) (fName 1))) (fC (.int 53))) (aCons (fC (.int 0)) aNil))))))
def phi__law_bag : F0 := phi0 2 3 g__law_bag
theorem e__law_bag : ∀ ds r, phi__law_bag ds = some r → ds.length = 2 ∧ run0 3 g__law_bag ds = some r := fun _ _ h => phi_run h
theorem n__law_bag : ∀ ds r, phi__law_bag ds = some r → ds.length = 2 := fun ds r h => (e__law_bag ds r h).1
-- slots of _law_equal: found due k
def g__law_equal (phi : F0) : FS :=
  (sSeq (sIf (fOr (fTest (fBin gIsi (fName 0) (fC (.op (.ty "bool"))))) (fTest (fBin gIsi (fName 1) (fC (.op (.ty "bool")))))) (sRet (fAndV (fBin gIsi (fName 0) (fC (.op (.ty "bool")))) (fAndV (fBin gIsi (fName 1) (fC (.op (.ty "bool")))) (fBin (gEq false) (fName 0) (fName 1))))) sSkip)
    (sSeq (sIf (fOr (fTest (fBin (gEq true) (fBin gIsi (fName 0) (fC (.op (.ty "list")))) (fBin gIsi (fName 1) (fC (.op (.ty "list")))))) (fTest (fBin (gEq true) (fBin gIsi (fName 0) (fC (.op (.ty "tuple")))) (fBin gIsi (fName 1) (fC (.op (.ty "tuple"))))))) (sRet (fC (.bl false))) sSkip)
    (sSeq (sIf (fOr (fTest (fBin (gEq true) (fBin gIsi (fName 0) (fC (.op (.ty "str")))) (fBin gIsi (fName 1) (fC (.op (.ty "str")))))) (fTest (fBin (gEq true) (fBin gIsi (fName 0) (fC (.op (.ty "int")))) (fBin gIsi (fName 1) (fC (.op (.ty "int"))))))) (sRet (fC (.bl false))) sSkip)
    (sSeq (sIf (fTest (fB1 (gIsi2 "list" "tuple") (fName 1))) (sSeq (sIf (fTest (fBin (gEq true) (fB1 gLen (fName 0)) (fB1 gLen (fName 1)))) (sRet (fC (.bl false))) sSkip)
    (sRet (fBin (gEq false) (fLc (iRg1 (pInt (fB1 gLen (fName 1)))) (.nm 2) (fNot (fTest (fCall phi (aCons (fBin gIx (fName 0) (fName 2)) (aCons (fBin gIx (fName 1) (fName 2)) aNil))))) (fName 2) [2]) (fLst aNil)))) sSkip)
    (sRet (fAndV (fBin (gEq false) (fBin (gIs false) (fName 0) (fC .non)) (fBin (gIs false) (fName 1) (fC .non))) (fBin (gEq false) (fName 0) (fName 1))))))))
def phiR__law_equal : Nat → F0
  | 0 => fun _ => none
  | k + 1 => fun ds => if ds.length = 2 then run0 3 (g__law_equal (phiR__law_equal k)) ds else none
def phi__law_equal : F0 := phiR__law_equal 8
theorem eR__law_equal (k : Nat) : ∀ ds r, phiR__law_equal (k + 1) ds = some r → ds.length = 2 ∧ run0 3 (g__law_equal (phiR__law_equal k)) ds = some r := fun ds r h => phi_run (show phi0 2 3 (g__law_equal (phiR__law_equal k)) ds = some r from h)
theorem nR__law_equal : ∀ (k : Nat) ds r, phiR__law_equal k ds = some r → ds.length = 2
  | 0, _, _, h => nomatch h
  | k + 1, ds, r, h => (eR__law_equal k ds r h).1
theorem n__law_equal : ∀ ds r, phi__law_equal ds = some r → ds.length = 2 := nR__law_equal 8
-- slots of _law_long: form_here signs_here at base wide top first second worth
def g__law_long : FS :=
  (sSeq (sPar [(3, false), (4, false), (5, false)] (aCons (fBin gIx (fName 0) (fC (.int 0))) (aCons (fBin gIx (fName 0) (fC (.int 2))) (aCons (fBin gIx (fName 0) (fC (.int 3))) aNil))))
    (sSeq (sIf (fTest (fBin (gCmp fun i j => decide (j ≤ i)) (fName 2) (fB1 gLen (fName 1)))) (sRet (fTup (aCons (fC .non) (aCons (fTup (aCons (fB1 gLen (fName 1)) (aCons (fC (.str "short")) aNil))) aNil)))) sSkip)
    (sSeq (sSet 6 (fBin gIx (fName 1) (fName 2)))
    (sSeq (sIf (fTest (fBin (gEq false) (fName 4) (fC (.str "one")))) (sRet (fIf (fTest (fBin (gCmp fun i j => decide (i ≤ j)) (fName 6) (fName 5))) (fTup (aCons (fName 6) (aCons (fBin gAdd (fName 2) (fC (.int 1))) aNil))) (fTup (aCons (fC .non) (aCons (fTup (aCons (fName 2) (aCons (fC (.str "length")) aNil))) aNil))))) sSkip)
    (sSeq (sIf (fTest (fBin (gCmp fun i j => decide (j < i)) (fIf (fTest (fBin (gEq false) (fName 4) (fC (.str "high")))) (fBin gMul (fName 6) (fName 3)) (fName 6)) (fName 5))) (sRet (fTup (aCons (fC .non) (aCons (fTup (aCons (fName 2) (aCons (fC (.str "length")) aNil))) aNil)))) sSkip)
    (sSeq (sIf (fTest (fBin (gCmp fun i j => decide (j ≤ i)) (fBin gAdd (fName 2) (fC (.int 1))) (fB1 gLen (fName 1)))) (sRet (fTup (aCons (fC .non) (aCons (fTup (aCons (fB1 gLen (fName 1)) (aCons (fC (.str "short")) aNil))) aNil)))) sSkip)
    (sSeq (sSet 7 (fBin gIx (fName 1) (fBin gAdd (fName 2) (fC (.int 1)))))
    (sSeq (sSet 8 (fIf (fTest (fBin (gEq false) (fName 4) (fC (.str "high")))) (fBin gAdd (fBin gMul (fName 6) (fName 3)) (fName 7)) (fBin gAdd (fBin gMul (fName 7) (fName 3)) (fName 6))))
    (sRet (fIf (fTest (fBin (gCmp fun i j => decide (i ≤ j)) (fName 8) (fName 5))) (fTup (aCons (fName 8) (aCons (fBin gAdd (fName 2) (fC (.int 2))) aNil))) (fTup (aCons (fC .non) (aCons (fTup (aCons (fBin gAdd (fName 2) (fC (.int 1))) (aCons (fC (.str "length")) aNil))) aNil)))))))))))))
def phi__law_long : F0 := phi0 3 9 g__law_long
theorem e__law_long : ∀ ds r, phi__law_long ds = some r → ds.length = 3 ∧ run0 9 g__law_long ds = some r := fun _ _ h => phi_run h
theorem n__law_long : ∀ ds r, phi__law_long ds = some r → ds.length = 3 := fun ds r h => (e__law_long ds r h).1
-- slots of _law_chunk: form_here signs_here at use_here worth body_here good
def g__law_chunk : FS :=
  (sSeq (sUnp (.tp [4, 2]) (fCall phi__law_long (aCons (fName 0) (aCons (fName 1) (aCons (fName 2) aNil)))))
    (sSeq (sIf (fTest (fBin (gIs false) (fName 4) (fC .non))) (sRet (fTup (aCons (fC .non) (aCons (fName 2) aNil)))) sSkip)
    (sSeq (sIf (fTest (fBin (gCmp fun i j => decide (j < i)) (fBin gAdd (fName 2) (fName 4)) (fB1 gLen (fName 1)))) (sRet (fTup (aCons (fC .non) (aCons (fTup (aCons (fB1 gLen (fName 1)) (aCons (fC (.str "short")) aNil))) aNil)))) sSkip)
    (sSeq (sSet 5 (fSl (fName 1) (pInt (fName 2)) (pInt (fBin gAdd (fName 2) (fName 4)))))
    (sSeq (sSet 2 (fBin gAdd (fName 2) (fName 4)))
    (sSeq (sIf (fTest (fBin (gEq true) (fName 3) (fC (.str "check")))) (sRet (fTup (aCons (fName 5) (aCons (fName 2) aNil)))) sSkip)
    (sSeq (sIf (fTest (fBin (gCmp fun i j => decide (j ≤ i)) (fName 2) (fB1 gLen (fName 1)))) (sRet (fTup (aCons (fC .non) (aCons (fTup (aCons (fB1 gLen (fName 1)) (aCons (fC (.str "short")) aNil))) aNil)))) sSkip)
    (sSeq (sSet 6 (fBin (gEq false) (fBin gIx (fName 1) (fName 2)) (fBin gMod (fB1 gInt (fB1 gSum (fName 5))) (fBin gIx (fName 0) (fC (.int 0))))))
    (sRet (fIf (fTest (fName 6)) (fTup (aCons (fName 5) (aCons (fBin gAdd (fName 2) (fC (.int 1))) aNil))) (fTup (aCons (fC .non) (aCons (fTup (aCons (fName 2) (aCons (fC (.str "check")) aNil))) aNil)))))))))))))
def phi__law_chunk : F0 := phi0 4 7 g__law_chunk
theorem e__law_chunk : ∀ ds r, phi__law_chunk ds = some r → ds.length = 4 ∧ run0 7 g__law_chunk ds = some r := fun _ _ h => phi_run h
theorem n__law_chunk : ∀ ds r, phi__law_chunk ds = some r → ds.length = 4 := fun ds r h => (e__law_chunk ds r h).1
-- slots of _law_use: form_here sign row
def g__law_use : FS :=
  (sSeq (sFor (iSeq (fBin gIx (fName 0) (fC (.int 4)))) (.nm 2) (sIf (fTest (fBin (gEq false) (fBin gIx (fName 2) (fC (.int 0))) (fName 1))) (sRet (fBin gIx (fName 2) (fC (.int 1)))) sSkip))
    (sRet (fIf (fTest (fBin (gEq false) (fBin gIx (fName 0) (fC (.int 5))) (fC (.str "skip")))) (fC (.str "skip")) (fC (.str "")))))
def phi__law_use : F0 := phi0 2 3 g__law_use
theorem e__law_use : ∀ ds r, phi__law_use ds = some r → ds.length = 2 ∧ run0 3 g__law_use ds = some r := fun _ _ h => phi_run h
theorem n__law_use : ∀ ds r, phi__law_use ds = some r → ds.length = 2 := fun ds r h => (e__law_use ds r h).1
def wh__law_reading_1 : Ev → Nat := fun _ => 1000000
-- slots of _law_reading: form_here signs_here content_here blind k at use_here good body_here after row
def g__law_reading : FS :=
  (sSeq (sPar [(2, true), (3, true)] (aCons (fLst aNil) (aCons (fLst aNil) aNil)))
    (sSeq (sFor (iRg1 (pInt (fB1 gLen (fBin gIx (fName 0) (fC (.int 1)))))) (.nm 4) (sSeq (sIf (fTest (fBin (gCmp fun i j => decide (j ≤ i)) (fName 4) (fB1 gLen (fName 1)))) (sRet (fTup (aCons (fC .non) (aCons (fC .non) (aCons (fTup (aCons (fB1 gLen (fName 1)) (aCons (fC (.str "short")) aNil))) aNil))))) sSkip)
    (sIf (fTest (fBin (gIs false) (fBin gIx (fBin gIx (fName 0) (fC (.int 1))) (fName 4)) (fC .non))) (sApp 3 (fName 4)) (sIf (fTest (fBin (gEq true) (fBin gIx (fBin gIx (fName 0) (fC (.int 1))) (fName 4)) (fBin gIx (fName 1) (fName 4)))) (sRet (fTup (aCons (fC .non) (aCons (fC .non) (aCons (fTup (aCons (fName 4) (aCons (fC (.str "head")) aNil))) aNil))))) sSkip))))
    (sSeq (sSet 5 (fB1 gLen (fBin gIx (fName 0) (fC (.int 1)))))
    (sSeq (sWhile wh__law_reading_1 (fTest (fBin (gCmp fun i j => decide (i < j)) (fName 5) (fB1 gLen (fName 1)))) (sSeq (sSet 6 (fCall phi__law_use (aCons (fName 0) (aCons (fBin gIx (fName 1) (fName 5)) aNil))))
    (sSeq (sIf (fTest (fBin (gEq false) (fName 6) (fC (.str "")))) (sRet (fTup (aCons (fC .non) (aCons (fC .non) (aCons (fTup (aCons (fName 5) (aCons (fC (.str "tag")) aNil))) aNil))))) sSkip)
    (sSeq (sIf (fTest (fBin (gEq false) (fName 6) (fC (.str "end")))) (sRet (fTup (aCons (fB1 gTuple (fName 2)) (aCons (fBin gAdd (fName 3) (fLRg (pInt (fBin gAdd (fName 5) (fC (.int 1)))) (pInt (fB1 gLen (fName 1))))) (aCons (fC .non) aNil))))) sSkip)
    (sSeq (sIf (fTest (fBin (gEq false) (fName 6) (fC (.str "stop")))) (sSeq (sSet 7 (fBin (gEq false) (fBin gAdd (fName 5) (fC (.int 1))) (fB1 gLen (fName 1))))
    (sRet (fIf (fTest (fName 7)) (fTup (aCons (fB1 gTuple (fName 2)) (aCons (fName 3) (aCons (fC .non) aNil)))) (fTup (aCons (fC .non) (aCons (fC .non) (aCons (fTup (aCons (fBin gAdd (fName 5) (fC (.int 1))) (aCons (fC (.str "behind")) aNil))) aNil))))))) sSkip)
    (sSeq (sUnp (.tp [8, 9]) (fCall phi__law_chunk (aCons (fName 0) (aCons (fName 1) (aCons (fBin gAdd (fName 5) (fC (.int 1))) (aCons (fName 6) aNil))))))
    (sSeq (sIf (fTest (fBin (gIs false) (fName 8) (fC .non))) (sRet (fTup (aCons (fC .non) (aCons (fC .non) (aCons (fName 9) aNil))))) sSkip)
    (sSeq (sIf (fTest (fBin (gEq false) (fName 6) (fC (.str "skip")))) (sOwn 3 (fBin gAdd (fName 3) (fLRg (pInt (fBin gSub (fName 9) (fB1 gLen (fName 8)))) (pInt (fName 9))))) (sApp 2 (fTup (aCons (fBin gIx (fName 1) (fName 5)) (aCons (fName 8) aNil)))))
    (sSet 5 (fName 9))))))))))
    (sSeq (sIf (fTest (fBin (gEq true) (fLc (iSeq (fBin gIx (fName 0) (fC (.int 4)))) (.nm 10) (fTest (fBin (gIn false) (fBin gIx (fName 10) (fC (.int 1))) (fTup (aCons (fC (.str "end")) (aCons (fC (.str "stop")) aNil))))) (fName 10) [10]) (fLst aNil))) (sRet (fTup (aCons (fC .non) (aCons (fC .non) (aCons (fTup (aCons (fB1 gLen (fName 1)) (aCons (fC (.str "short")) aNil))) aNil))))) sSkip)
    (sRet (fTup (aCons (fB1 gTuple (fName 2)) (aCons (fName 3) (aCons (fC .non) aNil))))))))))
def phi__law_reading : F0 := phi0 2 11 g__law_reading
theorem e__law_reading : ∀ ds r, phi__law_reading ds = some r → ds.length = 2 ∧ run0 11 g__law_reading ds = some r := fun _ _ h => phi_run h
theorem n__law_reading : ∀ ds r, phi__law_reading ds = some r → ds.length = 2 := fun ds r h => (e__law_reading ds r h).1
def wh__law_stand_of_1 : Ev → Nat := fun _ => 1000000
-- slots of _law_stand_of: form_here signs_here size k at use_here room worth place total
def g__law_stand_of : FS :=
  (sSeq (sSet 2 (fB1 gLen (fName 1)))
    (sSeq (sFor (iRg1 (pInt (fB1 gLen (fBin gIx (fName 0) (fC (.int 1)))))) (.nm 3) (sSeq (sIf (fTest (fBin (gCmp fun i j => decide (j ≤ i)) (fName 3) (fName 2))) (sRet (fTup (aCons (fC (.str "head")) (aCons (fName 3) aNil)))) sSkip)
    (sIf (fAnd (fTest (fBin (gIs true) (fBin gIx (fBin gIx (fName 0) (fC (.int 1))) (fName 3)) (fC .non))) (fTest (fBin (gEq true) (fBin gIx (fBin gIx (fName 0) (fC (.int 1))) (fName 3)) (fBin gIx (fName 1) (fName 3))))) (sRet (fC .non)) sSkip)))
    (sSeq (sSet 4 (fB1 gLen (fBin gIx (fName 0) (fC (.int 1)))))
    (sSeq (sWhile wh__law_stand_of_1 (fTest (fBin (gCmp fun i j => decide (i < j)) (fName 4) (fName 2))) (sSeq (sSet 5 (fCall phi__law_use (aCons (fName 0) (aCons (fBin gIx (fName 1) (fName 4)) aNil))))
    (sSeq (sIf (fTest (fBin (gIn false) (fName 5) (fTup (aCons (fC (.str "")) (aCons (fC (.str "end")) (aCons (fC (.str "stop")) aNil)))))) (sSeq (sSet 6 (fIf (fTest (fBin (gEq false) (fName 5) (fC (.str "end")))) (fTup (aCons (fC (.str "room")) aNil)) (fTup (aCons (fC (.str "over")) aNil))))
    (sRet (fIf (fOr (fTest (fBin (gEq false) (fName 5) (fC (.str "")))) (fAnd (fTest (fBin (gEq false) (fName 5) (fC (.str "stop")))) (fTest (fBin (gCmp fun i j => decide (i < j)) (fBin gAdd (fName 4) (fC (.int 1))) (fName 2))))) (fC .non) (fName 6)))) sSkip)
    (sSeq (sUnp (.tp [7, 8]) (fCall phi__law_long (aCons (fName 0) (aCons (fName 1) (aCons (fBin gAdd (fName 4) (fC (.int 1))) aNil)))))
    (sSeq (sIf (fTest (fBin (gIs false) (fName 7) (fC .non))) (sSeq (sIf (fTest (fBin (gEq true) (fBin gIx (fName 8) (fC (.int 1))) (fC (.str "short")))) (sRet (fC .non)) sSkip)
    (sRet (fIf (fTest (fBin (gEq false) (fBin gAdd (fName 4) (fC (.int 1))) (fName 2))) (fTup (aCons (fC (.str "length")) (aCons (fName 5) aNil))) (fTup (aCons (fC (.str "second")) (aCons (fName 5) (aCons (fBin gIx (fName 1) (fBin gAdd (fName 4) (fC (.int 1)))) aNil))))))) sSkip)
    (sSeq (sSet 9 (fIf (fTest (fBin (gEq false) (fName 5) (fC (.str "check")))) (fBin gMod (fB1 gInt (fB1 gSum (fSl (fName 1) (pInt (fName 8)) (pInt (fBin gAdd (fName 8) (fName 7)))))) (fBin gIx (fName 0) (fC (.int 0)))) (fC (.int 0))))
    (sSeq (sIf (fTest (fBin (gCmp fun i j => decide (j < i)) (fBin gAdd (fName 8) (fName 7)) (fName 2))) (sRet (fTup (aCons (fC (.str "body")) (aCons (fName 5) (aCons (fBin gSub (fBin gAdd (fName 8) (fName 7)) (fName 2)) (aCons (fName 9) aNil)))))) sSkip)
    (sSeq (sSet 4 (fBin gAdd (fName 8) (fName 7)))
    (sIf (fTest (fBin (gEq false) (fName 5) (fC (.str "check")))) (sSeq (sIf (fTest (fBin (gEq false) (fName 4) (fName 2))) (sRet (fTup (aCons (fC (.str "sum")) (aCons (fName 9) aNil)))) sSkip)
    (sSeq (sIf (fTest (fBin (gEq true) (fBin gIx (fName 1) (fName 4)) (fName 9))) (sRet (fC .non)) sSkip)
    (sSet 4 (fBin gAdd (fName 4) (fC (.int 1)))))) sSkip)))))))))
    (sRet (fTup (aCons (fC (.str "tag")) aNil)))))))
def phi__law_stand_of : F0 := phi0 2 10 g__law_stand_of
theorem e__law_stand_of : ∀ ds r, phi__law_stand_of ds = some r → ds.length = 2 ∧ run0 10 g__law_stand_of ds = some r := fun _ _ h => phi_run h
theorem n__law_stand_of : ∀ ds r, phi__law_stand_of ds = some r → ds.length = 2 := fun ds r h => (e__law_stand_of ds r h).1
-- slots of _law_written: bag form_here many_here base found ends k sign use_here worth body_here size row spot mark turn
def g__law_written : FS :=
  (sSeq (sPar [(3, false), (4, true)] (aCons (fBin gIx (fName 1) (fC (.int 0))) (aCons (fLc (iSeq (fBin gIx (fName 1) (fC (.int 1)))) (.nm 14) fYes (fIf (fTest (fBin (gIs false) (fName 14) (fC .non))) (fCall1 phi__law_grab (aCons (fName 0) (aCons (fBin gIx (fName 1) (fC (.int 0))) aNil))) (fName 14)) [14]) aNil)))
    (sSeq (sSet 5 (fLc (iSeq (fBin gIx (fName 1) (fC (.int 4)))) (.nm 12) (fTest (fBin (gIn false) (fBin gIx (fName 12) (fC (.int 1))) (fTup (aCons (fC (.str "end")) (aCons (fC (.str "stop")) aNil))))) (fName 12) [12]))
    (sSeq (sFor (iRg1 (pInt (fCall1 phi__law_grab (aCons (fName 0) (aCons (fBin gAdd (fName 2) (fC (.int 1))) aNil))))) (.nm 6) (sSeq (sSet 7 (fCall1 phi__law_grab (aCons (fName 0) (aCons (fName 3) aNil))))
    (sSeq (sSet 8 (fCall phi__law_use (aCons (fName 1) (aCons (fName 7) aNil))))
    (sIf (fTest (fBin (gIn false) (fName 8) (fTup (aCons (fC (.str "keep")) (aCons (fC (.str "check")) (aCons (fC (.str "skip")) aNil)))))) (sSeq (sSet 9 (fCall1 phi__law_grab (aCons (fName 0) (aCons (fBin gAdd (fBin gMin (fBin gIx (fName 1) (fC (.int 3))) (fBin gIx (fLst (aCons (fC (.int 2)) (aCons (fC (.int 6)) (aCons (fC (.int 150)) aNil)))) (fCall1 phi__law_grab (aCons (fName 0) (aCons (fC (.int 3)) aNil))))) (fC (.int 1))) aNil))))
    (sSeq (sSet 9 (fIf (fTest (fBin (gEq false) (fBin gIx (fName 1) (fC (.int 2))) (fC (.str "one")))) (fBin gMin (fName 9) (fBin gSub (fName 3) (fC (.int 1)))) (fBin gMin (fName 9) (fBin gSub (fBin gMul (fName 3) (fName 3)) (fC (.int 1))))))
    (sSeq (sSet 10 (fLc (iRg1 (pInt (fName 9))) (.nm 15) fYes (fCall1 phi__law_grab (aCons (fName 0) (aCons (fName 3) aNil))) [15]))
    (sSeq (sSet 11 (fIf (fTest (fBin (gEq false) (fBin gIx (fName 1) (fC (.int 2))) (fC (.str "high")))) (fLst (aCons (fBin gDiv (fName 9) (fName 3)) (aCons (fBin gMod (fB1 gInt (fName 9)) (fName 3)) aNil))) (fLst (aCons (fBin gMod (fB1 gInt (fName 9)) (fName 3)) (aCons (fBin gDiv (fName 9) (fName 3)) aNil)))))
    (sSeq (sOwn 4 (fBin gAdd (fBin gAdd (fBin gAdd (fName 4) (fLst (aCons (fName 7) aNil))) (fIf (fTest (fBin (gEq false) (fBin gIx (fName 1) (fC (.int 2))) (fC (.str "one")))) (fLst (aCons (fName 9) aNil)) (fName 11))) (fName 10)))
    (sIf (fTest (fBin (gEq false) (fName 8) (fC (.str "check")))) (sApp 4 (fBin gMod (fB1 gInt (fB1 gSum (fName 10))) (fName 3))) sSkip)))))) sSkip))))
    (sSeq (sIf (fTest (fBin (gEq true) (fName 5) (fLst aNil))) (sSeq (sSet 12 (fBin gIx (fName 5) (fCall1 phi__law_grab (aCons (fName 0) (aCons (fB1 gLen (fName 5)) aNil)))))
    (sSeq (sApp 4 (fBin gIx (fName 12) (fC (.int 0))))
    (sIf (fTest (fBin (gEq false) (fBin gIx (fName 12) (fC (.int 1))) (fC (.str "end")))) (sOwn 4 (fBin gAdd (fName 4) (fLc (iRg1 (pInt (fCall1 phi__law_grab (aCons (fName 0) (aCons (fC (.int 4)) aNil))))) (.nm 15) fYes (fCall1 phi__law_grab (aCons (fName 0) (aCons (fName 3) aNil))) [15]))) sSkip))) sSkip)
    (sSeq (sIf (fAnd (fTest (fBin (gEq false) (fCall1 phi__law_grab (aCons (fName 0) (aCons (fC (.int 4)) aNil))) (fC (.int 0)))) (fTest (fBin (gEq true) (fName 4) (fLst aNil)))) (sSeq (sSet 13 (fCall1 phi__law_grab (aCons (fName 0) (aCons (fB1 gLen (fName 4)) aNil))))
    (sOwn 4 (fBin gAdd (fBin gAdd (fSl (fName 4) pNo (pInt (fName 13))) (fLst (aCons (fCall1 phi__law_grab (aCons (fName 0) (aCons (fName 3) aNil))) aNil))) (fSl (fName 4) (pInt (fBin gAdd (fName 13) (fCall1 phi__law_grab (aCons (fName 0) (aCons (fC (.int 2)) aNil))))) pNo)))) sSkip)
    (sRet (fB1 gTuple (fName 4))))))))
def phi__law_written : F1 := phi1 3 16 g__law_written
theorem e__law_written : ∀ ds r, phi__law_written ds = some r → ds.length = 3 ∧ run1 16 g__law_written ds = some r := fun _ _ h => phi_run1 h
theorem n__law_written : ∀ ds r, phi__law_written ds = some r → ds.length = 3 := fun ds r h => (e__law_written ds r h).1
-- slots of is_integer: value
def g_is_integer : FS :=
  (sRet (fAndV (fBin gIsi (fName 0) (fC (.op (.ty "int")))) (fNotV (fBin gIsi (fName 0) (fC (.op (.ty "bool")))))))
def phi_is_integer : F0 := phi0 1 1 g_is_integer
theorem e_is_integer : ∀ ds r, phi_is_integer ds = some r → ds.length = 1 ∧ run0 1 g_is_integer ds = some r := fun _ _ h => phi_run h
theorem n_is_integer : ∀ ds r, phi_is_integer ds = some r → ds.length = 1 := fun ds r h => (e_is_integer ds r h).1
-- slots of is_sign: value base
def g_is_sign : FS :=
  (sRet (fAndV (fCall phi_is_integer (aCons (fName 0) aNil)) (fCh (gCmp fun i j => decide (i ≤ j)) (gCmp fun i j => decide (i < j)) (fC (.int 0)) (fName 0) (fName 1))))
def phi_is_sign : F0 := phi0 2 2 g_is_sign
theorem e_is_sign : ∀ ds r, phi_is_sign ds = some r → ds.length = 2 ∧ run0 2 g_is_sign ds = some r := fun _ _ h => phi_run h
theorem n_is_sign : ∀ ds r, phi_is_sign ds = some r → ds.length = 2 := fun ds r h => (e_is_sign ds r h).1
-- slots of are_signs: value base sign
def g_are_signs : FS :=
  (sRet (fAndV (fBin gIsi (fName 0) (fC (.op (.ty "tuple")))) (fB1 gAll (fLc (iSeq (fName 0)) (.nm 2) fYes (fCall phi_is_sign (aCons (fName 2) (aCons (fName 1) aNil))) [2]))))
def phi_are_signs : F0 := phi0 2 3 g_are_signs
theorem e_are_signs : ∀ ds r, phi_are_signs ds = some r → ds.length = 2 ∧ run0 3 g_are_signs ds = some r := fun _ _ h => phi_run h
theorem n_are_signs : ∀ ds r, phi_are_signs ds = some r → ds.length = 2 := fun ds r h => (e_are_signs ds r h).1
-- slots of _is_word: value words
def g__is_word : FS :=
  (sRet (fAndV (fBin gIsi (fName 0) (fC (.op (.ty "str")))) (fBin (gIn false) (fName 0) (fName 1))))
def phi__is_word : F0 := phi0 2 2 g__is_word
theorem e__is_word : ∀ ds r, phi__is_word ds = some r → ds.length = 2 ∧ run0 2 g__is_word ds = some r := fun _ _ h => phi_run h
theorem n__is_word : ∀ ds r, phi__is_word ds = some r → ds.length = 2 := fun ds r h => (e__is_word ds r h).1
-- slots of _is_tag: value base
def g__is_tag : FS :=
  (sSeq (sIf (fOr (fNot (fTest (fBin gIsi (fName 0) (fC (.op (.ty "tuple")))))) (fTest (fBin (gEq true) (fB1 gLen (fName 0)) (fC (.int 2))))) (sRet (fC (.bl false))) sSkip)
    (sRet (fAndV (fCall phi_is_sign (aCons (fBin gIx (fName 0) (fC (.int 0))) (aCons (fName 1) aNil))) (fCall phi__is_word (aCons (fBin gIx (fName 0) (fC (.int 1))) (aCons (fC dc_USES) aNil))))))
def phi__is_tag : F0 := phi0 2 2 g__is_tag
theorem e__is_tag : ∀ ds r, phi__is_tag ds = some r → ds.length = 2 ∧ run0 2 g__is_tag ds = some r := fun _ _ h => phi_run h
theorem n__is_tag : ∀ ds r, phi__is_tag ds = some r → ds.length = 2 := fun ds r h => (e__is_tag ds r h).1
-- slots of _are_tags: value base tag k
def g__are_tags : FS :=
  (sSeq (sIf (fOr (fNot (fTest (fBin gIsi (fName 0) (fC (.op (.ty "tuple")))))) (fNot (fTest (fB1 gAll (fLc (iSeq (fName 0)) (.nm 2) fYes (fCall phi__is_tag (aCons (fName 2) (aCons (fName 1) aNil))) [2]))))) (sRet (fC (.bl false))) sSkip)
    (sRet (fB1 gAll (fLc (iRg2 (pInt (fC (.int 1))) (pInt (fB1 gLen (fName 0)))) (.nm 3) fYes (fBin (gCmp fun i j => decide (i < j)) (fBin gIx (fBin gIx (fName 0) (fBin gSub (fName 3) (fC (.int 1)))) (fC (.int 0))) (fBin gIx (fBin gIx (fName 0) (fName 3)) (fC (.int 0)))) [3]))))
def phi__are_tags : F0 := phi0 2 4 g__are_tags
theorem e__are_tags : ∀ ds r, phi__are_tags ds = some r → ds.length = 2 ∧ run0 4 g__are_tags ds = some r := fun _ _ h => phi_run h
theorem n__are_tags : ∀ ds r, phi__are_tags ds = some r → ds.length = 2 := fun ds r h => (e__are_tags ds r h).1
-- slots of _is_head: value base mark
def g__is_head : FS :=
  (sSeq (sIf (fNot (fTest (fBin gIsi (fName 0) (fC (.op (.ty "tuple")))))) (sRet (fC (.bl false))) sSkip)
    (sRet (fB1 gAll (fLc (iSeq (fName 0)) (.nm 2) fYes (fOrV (fBin (gIs false) (fName 2) (fC .non)) (fCall phi_is_sign (aCons (fName 2) (aCons (fName 1) aNil)))) [2]))))
def phi__is_head : F0 := phi0 2 3 g__is_head
theorem e__is_head : ∀ ds r, phi__is_head ds = some r → ds.length = 2 ∧ run0 3 g__is_head ds = some r := fun _ _ h => phi_run h
theorem n__is_head : ∀ ds r, phi__is_head ds = some r → ds.length = 2 := fun ds r h => (e__is_head ds r h).1
-- slots of is_format: value base head width most tags others
def g_is_format : FS :=
  (sSeq (sIf (fOr (fNot (fTest (fBin gIsi (fName 0) (fC (.op (.ty "tuple")))))) (fTest (fBin (gEq true) (fB1 gLen (fName 0)) (fC (.int 6))))) (sRet (fC (.bl false))) sSkip)
    (sSeq (sUnp (.tp [1, 2, 3, 4, 5, 6]) (fName 0))
    (sSeq (sIf (fOr (fNot (fTest (fCall phi_is_integer (aCons (fName 1) aNil)))) (fNot (fTest (fCh (gCmp fun i j => decide (i ≤ j)) (gCmp fun i j => decide (i ≤ j)) (fC (.int 2)) (fName 1) (fC (.int 256)))))) (sRet (fC (.bl false))) sSkip)
    (sSeq (sIf (fOr (fNot (fTest (fCall phi__is_head (aCons (fName 2) (aCons (fName 1) aNil))))) (fNot (fTest (fCall phi__is_word (aCons (fName 3) (aCons (fC dc_WIDTHS) aNil)))))) (sRet (fC (.bl false))) sSkip)
    (sSeq (sIf (fOr (fNot (fTest (fCall phi_is_integer (aCons (fName 4) aNil)))) (fTest (fBin (gCmp fun i j => decide (i < j)) (fName 4) (fC (.int 0))))) (sRet (fC (.bl false))) sSkip)
    (sRet (fAndV (fCall phi__are_tags (aCons (fName 5) (aCons (fName 1) aNil))) (fCall phi__is_word (aCons (fName 6) (aCons (fTup (aCons (fC (.str "skip")) (aCons (fC (.str "refuse")) aNil))) aNil))))))))))
def phi_is_format : F0 := phi0 1 7 g_is_format
theorem e_is_format : ∀ ds r, phi_is_format ds = some r → ds.length = 1 ∧ run0 7 g_is_format ds = some r := fun _ _ h => phi_run h
theorem n_is_format : ∀ ds r, phi_is_format ds = some r → ds.length = 1 := fun ds r h => (e_is_format ds r h).1
-- slots of check_format: form
def g_check_format : FS :=
  (sIf (fNot (fTest (fCall phi_is_format (aCons (fName 0) aNil)))) sStuck sSkip)
def phi_check_format : F0 := phi0 1 1 g_check_format
theorem e_check_format : ∀ ds r, phi_check_format ds = some r → ds.length = 1 ∧ run0 1 g_check_format ds = some r := fun _ _ h => phi_run h
theorem n_check_format : ∀ ds r, phi_check_format ds = some r → ds.length = 1 := fun ds r h => (e_check_format ds r h).1
-- slots of is_file: form value
def g_is_file : FS :=
  (sSeq (sDrop (fCall phi_check_format (aCons (fName 0) aNil)))
    (sRet (fCall phi_are_signs (aCons (fName 1) (aCons (fBin gIx (fName 0) (fC dc_BASE)) aNil)))))
def phi_is_file : F0 := phi0 2 2 g_is_file
theorem e_is_file : ∀ ds r, phi_is_file ds = some r → ds.length = 2 ∧ run0 2 g_is_file ds = some r := fun _ _ h => phi_run h
theorem n_is_file : ∀ ds r, phi_is_file ds = some r → ds.length = 2 := fun ds r h => (e_is_file ds r h).1
-- slots of check_file: form file
def g_check_file : FS :=
  (sIf (fNot (fTest (fCall phi_is_file (aCons (fName 0) (aCons (fName 1) aNil))))) sStuck sSkip)
def phi_check_file : F0 := phi0 2 2 g_check_file
theorem e_check_file : ∀ ds r, phi_check_file ds = some r → ds.length = 2 ∧ run0 2 g_check_file ds = some r := fun _ _ h => phi_run h
theorem n_check_file : ∀ ds r, phi_check_file ds = some r → ds.length = 2 := fun ds r h => (e_check_file ds r h).1
-- slots of behind_marks: form count
def g_behind_marks : FS :=
  (sSeq (sIf (fTest (fBin (gCmp fun i j => decide (i < j)) (fName 1) (fB1 gLen (fBin gIx (fName 0) (fC dc_HEAD))))) (sRet (fTup (aCons (fC (.str "head")) (aCons (fName 1) aNil)))) sSkip)
    (sRet (fC dc_TAG)))
def phi_behind_marks : F0 := phi0 2 2 g_behind_marks
theorem e_behind_marks : ∀ ds r, phi_behind_marks ds = some r → ds.length = 2 ∧ run0 2 g_behind_marks ds = some r := fun _ _ h => phi_run h
theorem n_behind_marks : ∀ ds r, phi_behind_marks ds = some r → ds.length = 2 := fun ds r h => (e_behind_marks ds r h).1
-- slots of first_stand: form
def g_first_stand : FS :=
  (sRet (fCall phi_behind_marks (aCons (fName 0) (aCons (fC (.int 0)) aNil))))
def phi_first_stand : F0 := phi0 1 1 g_first_stand
theorem e_first_stand : ∀ ds r, phi_first_stand ds = some r → ds.length = 1 ∧ run0 1 g_first_stand ds = some r := fun _ _ h => phi_run h
theorem n_first_stand : ∀ ds r, phi_first_stand ds = some r → ds.length = 1 := fun ds r h => (e_first_stand ds r h).1
-- slots of _behind_body: use due
def g__behind_body : FS :=
  (sSeq (sIf (fTest (fBin (gEq false) (fName 0) (fC (.str "check")))) (sRet (fTup (aCons (fC (.str "sum")) (aCons (fName 1) aNil)))) sSkip)
    (sRet (fC dc_TAG)))
def phi__behind_body : F0 := phi0 2 2 g__behind_body
theorem e__behind_body : ∀ ds r, phi__behind_body ds = some r → ds.length = 2 ∧ run0 2 g__behind_body ds = some r := fun _ _ h => phi_run h
theorem n__behind_body : ∀ ds r, phi__behind_body ds = some r → ds.length = 2 := fun ds r h => (e__behind_body ds r h).1
-- slots of _behind_body_sign: form stand sign _ use left total
def g__behind_body_sign : FS :=
  (sSeq (sUnp (.tp [3, 4, 5, 6]) (fName 1))
    (sSeq (sIf (fTest (fBin (gEq false) (fName 4) (fC (.str "check")))) (sSet 6 (fBin gMod (fBin gAdd (fName 6) (fName 2)) (fBin gIx (fName 0) (fC dc_BASE)))) sSkip)
    (sSeq (sIf (fTest (fBin (gCmp fun i j => decide (j < i)) (fName 5) (fC (.int 1)))) (sRet (fTup (aCons (fC (.str "body")) (aCons (fName 4) (aCons (fBin gSub (fName 5) (fC (.int 1))) (aCons (fName 6) aNil)))))) sSkip)
    (sRet (fCall phi__behind_body (aCons (fName 4) (aCons (fName 6) aNil)))))))
def phi__behind_body_sign : F0 := phi0 3 7 g__behind_body_sign
theorem e__behind_body_sign : ∀ ds r, phi__behind_body_sign ds = some r → ds.length = 3 ∧ run0 7 g__behind_body_sign ds = some r := fun _ _ h => phi_run h
theorem n__behind_body_sign : ∀ ds r, phi__behind_body_sign ds = some r → ds.length = 3 := fun ds r h => (e__behind_body_sign ds r h).1
-- slots of _behind_length: use length
def g__behind_length : FS :=
  (sSeq (sIf (fTest (fBin (gCmp fun i j => decide (j < i)) (fName 1) (fC (.int 0)))) (sRet (fTup (aCons (fC (.str "body")) (aCons (fName 0) (aCons (fName 1) (aCons (fC (.int 0)) aNil)))))) sSkip)
    (sRet (fCall phi__behind_body (aCons (fName 0) (aCons (fC (.int 0)) aNil)))))
def phi__behind_length : F0 := phi0 2 2 g__behind_length
theorem e__behind_length : ∀ ds r, phi__behind_length ds = some r → ds.length = 2 ∧ run0 2 g__behind_length ds = some r := fun _ _ h => phi_run h
theorem n__behind_length : ∀ ds r, phi__behind_length ds = some r → ds.length = 2 := fun ds r h => (e__behind_length ds r h).1
-- slots of _behind_first: form use sign least
def g__behind_first : FS :=
  (sSeq (sSet 3 (fIf (fTest (fBin (gEq false) (fBin gIx (fName 0) (fC dc_WIDTH)) (fC (.str "high")))) (fBin gMul (fName 2) (fBin gIx (fName 0) (fC dc_BASE))) (fName 2)))
    (sSeq (sIf (fTest (fBin (gCmp fun i j => decide (j < i)) (fName 3) (fBin gIx (fName 0) (fC dc_MOST)))) (sRet (fC .non)) sSkip)
    (sSeq (sIf (fTest (fBin (gEq false) (fBin gIx (fName 0) (fC dc_WIDTH)) (fC (.str "one")))) (sRet (fCall phi__behind_length (aCons (fName 1) (aCons (fName 2) aNil)))) sSkip)
    (sRet (fTup (aCons (fC (.str "second")) (aCons (fName 1) (aCons (fName 2) aNil))))))))
def phi__behind_first : F0 := phi0 3 4 g__behind_first
theorem e__behind_first : ∀ ds r, phi__behind_first ds = some r → ds.length = 3 ∧ run0 4 g__behind_first ds = some r := fun _ _ h => phi_run h
theorem n__behind_first : ∀ ds r, phi__behind_first ds = some r → ds.length = 3 := fun ds r h => (e__behind_first ds r h).1
-- slots of _behind_mark: form at sign mark
def g__behind_mark : FS :=
  (sSeq (sSet 3 (fBin gIx (fBin gIx (fName 0) (fC dc_HEAD)) (fName 1)))
    (sSeq (sIf (fAnd (fTest (fBin (gIs true) (fName 3) (fC .non))) (fTest (fBin (gEq true) (fName 3) (fName 2)))) (sRet (fC .non)) sSkip)
    (sRet (fCall phi_behind_marks (aCons (fName 0) (aCons (fBin gAdd (fName 1) (fC (.int 1))) aNil))))))
def phi__behind_mark : F0 := phi0 3 4 g__behind_mark
theorem e__behind_mark : ∀ ds r, phi__behind_mark ds = some r → ds.length = 3 ∧ run0 4 g__behind_mark ds = some r := fun _ _ h => phi_run h
theorem n__behind_mark : ∀ ds r, phi__behind_mark ds = some r → ds.length = 3 := fun ds r h => (e__behind_mark ds r h).1
-- slots of _behind_second: form use first sign length
def g__behind_second : FS :=
  (sSeq (sIf (fTest (fBin (gEq false) (fBin gIx (fName 0) (fC dc_WIDTH)) (fC (.str "high")))) (sSet 4 (fBin gAdd (fBin gMul (fName 2) (fBin gIx (fName 0) (fC dc_BASE))) (fName 3))) (sSet 4 (fBin gAdd (fBin gMul (fName 3) (fBin gIx (fName 0) (fC dc_BASE))) (fName 2))))
    (sSeq (sIf (fTest (fBin (gCmp fun i j => decide (j < i)) (fName 4) (fBin gIx (fName 0) (fC dc_MOST)))) (sRet (fC .non)) sSkip)
    (sRet (fCall phi__behind_length (aCons (fName 1) (aCons (fName 4) aNil))))))
def phi__behind_second : F0 := phi0 4 5 g__behind_second
theorem e__behind_second : ∀ ds r, phi__behind_second ds = some r → ds.length = 4 ∧ run0 5 g__behind_second ds = some r := fun _ _ h => phi_run h
theorem n__behind_second : ∀ ds r, phi__behind_second ds = some r → ds.length = 4 := fun ds r h => (e__behind_second ds r h).1
-- slots of use_of: form sign tag use
def g_use_of : FS :=
  (sSeq (sFor (iSeq (fBin gIx (fName 0) (fC dc_TAGS))) (.tp [2, 3]) (sIf (fTest (fBin (gEq false) (fName 2) (fName 1))) (sRet (fName 3)) sSkip))
    (sRet (fBin gIx (fName 0) (fC dc_OTHERS))))
def phi_use_of : F0 := phi0 2 4 g_use_of
theorem e_use_of : ∀ ds r, phi_use_of ds = some r → ds.length = 2 ∧ run0 4 g_use_of ds = some r := fun _ _ h => phi_run h
theorem n_use_of : ∀ ds r, phi_use_of ds = some r → ds.length = 2 := fun ds r h => (e_use_of ds r h).1
-- slots of _behind_tag: form sign use
def g__behind_tag : FS :=
  (sSeq (sSet 2 (fCall phi_use_of (aCons (fName 0) (aCons (fName 1) aNil))))
    (sSeq (sIf (fTest (fBin (gEq false) (fName 2) (fC (.str "refuse")))) (sRet (fC .non)) sSkip)
    (sSeq (sIf (fTest (fBin (gEq false) (fName 2) (fC (.str "end")))) (sRet (fC dc_ROOM)) sSkip)
    (sSeq (sIf (fTest (fBin (gEq false) (fName 2) (fC (.str "stop")))) (sRet (fC dc_OVER)) sSkip)
    (sRet (fTup (aCons (fC (.str "length")) (aCons (fName 2) aNil))))))))
def phi__behind_tag : F0 := phi0 2 3 g__behind_tag
theorem e__behind_tag : ∀ ds r, phi__behind_tag ds = some r → ds.length = 2 ∧ run0 3 g__behind_tag ds = some r := fun _ _ h => phi_run h
theorem n__behind_tag : ∀ ds r, phi__behind_tag ds = some r → ds.length = 2 := fun ds r h => (e__behind_tag ds r h).1
-- slots of next_stand: form stand sign name
def g_next_stand : FS :=
  (sSeq (sSet 3 (fBin gIx (fName 1) (fC (.int 0))))
    (sSeq (sIf (fTest (fBin (gEq false) (fName 3) (fC (.str "body")))) (sRet (fCall phi__behind_body_sign (aCons (fName 0) (aCons (fName 1) (aCons (fName 2) aNil))))) sSkip)
    (sSeq (sIf (fTest (fBin (gEq false) (fName 3) (fC (.str "tag")))) (sRet (fCall phi__behind_tag (aCons (fName 0) (aCons (fName 2) aNil)))) sSkip)
    (sSeq (sIf (fTest (fBin (gEq false) (fName 3) (fC (.str "head")))) (sRet (fCall phi__behind_mark (aCons (fName 0) (aCons (fBin gIx (fName 1) (fC (.int 1))) (aCons (fName 2) aNil))))) sSkip)
    (sSeq (sIf (fTest (fBin (gEq false) (fName 3) (fC (.str "length")))) (sRet (fCall phi__behind_first (aCons (fName 0) (aCons (fBin gIx (fName 1) (fC (.int 1))) (aCons (fName 2) aNil))))) sSkip)
    (sSeq (sIf (fTest (fBin (gEq false) (fName 3) (fC (.str "second")))) (sRet (fCall phi__behind_second (aCons (fName 0) (aCons (fBin gIx (fName 1) (fC (.int 1))) (aCons (fBin gIx (fName 1) (fC (.int 2))) (aCons (fName 2) aNil)))))) sSkip)
    (sSeq (sIf (fTest (fBin (gEq false) (fName 3) (fC (.str "sum")))) (sRet (fIf (fTest (fBin (gEq false) (fName 2) (fBin gIx (fName 1) (fC (.int 1))))) (fC dc_TAG) (fC .non))) sSkip)
    (sRet (fIf (fTest (fBin (gEq false) (fName 3) (fC (.str "room")))) (fC dc_ROOM) (fC .non))))))))))
def phi_next_stand : F0 := phi0 3 4 g_next_stand
theorem e_next_stand : ∀ ds r, phi_next_stand ds = some r → ds.length = 3 ∧ run0 4 g_next_stand ds = some r := fun _ _ h => phi_run h
theorem n_next_stand : ∀ ds r, phi_next_stand ds = some r → ds.length = 3 := fun ds r h => (e_next_stand ds r h).1
-- slots of stands_along: form file stand along sign
def g_stands_along : FS :=
  (sSeq (sSet 2 (fCall phi_first_stand (aCons (fName 0) aNil)))
    (sSeq (sOwn 3 (fLst (aCons (fName 2) aNil)))
    (sSeq (sFor (iSeq (fName 1)) (.nm 4) (sSeq (sSet 2 (fCall phi_next_stand (aCons (fName 0) (aCons (fName 2) (aCons (fName 4) aNil)))))
    (sSeq (sApp 3 (fName 2))
    (sIf (fTest (fBin (gIs false) (fName 2) (fC .non))) sBreak sSkip))))
    (sRet (fName 3)))))
def phi_stands_along : F0 := phi0 2 5 g_stands_along
theorem e_stands_along : ∀ ds r, phi_stands_along ds = some r → ds.length = 2 ∧ run0 5 g_stands_along ds = some r := fun _ _ h => phi_run h
theorem n_stands_along : ∀ ds r, phi_stands_along ds = some r → ds.length = 2 := fun ds r h => (e_stands_along ds r h).1
-- slots of stand_behind: form beginning
def g_stand_behind : FS :=
  (sSeq (sDrop (fCall phi_check_file (aCons (fName 0) (aCons (fName 1) aNil))))
    (sRet (fBin gIx (fCall phi_stands_along (aCons (fName 0) (aCons (fName 1) aNil))) (fUn gNeg (fC (.int 1))))))
def phi_stand_behind : F0 := phi0 2 2 g_stand_behind
theorem e_stand_behind : ∀ ds r, phi_stand_behind ds = some r → ds.length = 2 ∧ run0 2 g_stand_behind ds = some r := fun _ _ h => phi_run h
theorem n_stand_behind : ∀ ds r, phi_stand_behind ds = some r → ds.length = 2 := fun ds r h => (e_stand_behind ds r h).1
-- slots of law: script at bag turn base form_here signs_here size spots spot part due heard refused k
def g_law_02 : FS :=
  (sSeq (sFor (iRg1 (pInt (fBin gMax (fC (.int 1)) (fBin gMin (fC (.int 5)) (fB1 gLen (fName 0)))))) (.nm 1) (sSeq (sOwn 2 (fCall phi__law_bag (aCons (fName 0) (aCons (fName 1) aNil))))
    (sFor (iRg1 (pInt (fC (.int 5)))) (.nm 3) (sSeq (sSet 4 (fBin gIx (fLst (aCons (fC (.int 2)) (aCons (fC (.int 3)) (aCons (fC (.int 4)) (aCons (fC (.int 16)) (aCons (fC (.int 256)) aNil)))))) (fCall1 phi__law_grab (aCons (fName 2) (aCons (fC (.int 5)) aNil)))))
    (sSeq (sSet 5 (fCall1 phi__law_any_form (aCons (fName 2) (aCons (fName 4) (aCons (fC (.int 20)) aNil)))))
    (sSeq (sSet 6 (fSl (fCall1 phi__law_written (aCons (fName 2) (aCons (fName 5) (aCons (fBin gIx (fLst (aCons (fC (.int 2)) (aCons (fC (.int 6)) aNil))) (fCall1 phi__law_grab (aCons (fName 2) (aCons (fC (.int 2)) aNil)))) aNil)))) pNo (pInt (fC (.int 200)))))
    (sSeq (sSet 7 (fB1 gLen (fName 6)))
    (sSeq (sSet 8 (fBin gAdd (fBin gAdd (fLRg pZero (pInt (fBin gAdd (fBin gMin (fName 7) (fC (.int 24))) (fC (.int 1))))) (fLc (iRg1 (pInt (fC (.int 6)))) (.nm 14) fYes (fCall1 phi__law_grab (aCons (fName 2) (aCons (fBin gAdd (fName 7) (fC (.int 1))) aNil))) [14])) (fLst (aCons (fName 7) aNil))))
    (sSeq (sFor (iSeq (fName 8)) (.nm 9) (sSeq (sSet 10 (fSl (fName 6) pNo (pInt (fName 9))))
    (sSeq (sSet 11 (fCall phi__law_stand_of (aCons (fName 5) (aCons (fName 10) aNil))))
    (sSeq (sSet 12 (fLst (aCons (fCall phi_stand_behind (aCons (fName 5) (aCons (fName 10) aNil))) (aCons (fCall phi_stand_behind (aRev (aCons (fName 10) (aCons (fName 5) aNil)))) aNil))))
    (sIf (fNot (fTest (fCall phi__law_equal (aCons (fName 12) (aCons (fLst (aCons (fName 11) (aCons (fName 11) aNil))) aNil))))) (sRet (fC (.bl false))) sSkip)))))
    (sSeq (sSet 13 (fBin gIx (fCall phi__law_reading (aCons (fName 5) (aCons (fName 6) aNil))) (fC (.int 2))))
    (sIf (fAnd (fTest (fBin (gIs true) (fName 13) (fC .non))) (fTest (fBin (gEq true) (fBin gIx (fName 13) (fC (.int 1))) (fC (.str "short"))))) (sSeq (sSet 11 (fLst (aCons (fC .non) (aCons (fCall phi__law_stand_of (aCons (fName 5) (aCons (fSl (fName 6) pNo (pInt (fBin gIx (fName 13) (fC (.int 0))))) aNil))) aNil))))
    (sSeq (sSet 12 (fLst (aCons (fCall phi_stand_behind (aCons (fName 5) (aCons (fName 6) aNil))) (aCons (fCall phi_stand_behind (aCons (fName 5) (aCons (fSl (fName 6) pNo (pInt (fBin gIx (fName 13) (fC (.int 0))))) aNil))) aNil))))
    (sIf (fOr (fNot (fTest (fCall phi__law_equal (aCons (fName 12) (aCons (fName 11) aNil))))) (fTest (fBin (gIs false) (fBin gIx (fName 11) (fC (.int 1))) (fC .non)))) (sRet (fC (.bl false))) sSkip))) sSkip)))))))))))
    (sSeq (sSet 5 (fTup (aCons (fC (.int 4)) (aCons (fTup (aCons (fC .non) (aCons (fC (.int 2)) aNil))) (aCons (fC (.str "one")) (aCons (fC (.int 2)) (aCons (fTup (aCons (fTup (aCons (fC (.int 0)) (aCons (fC (.str "end")) aNil))) (aCons (fTup (aCons (fC (.int 1)) (aCons (fC (.str "check")) aNil))) aNil))) (aCons (fC (.str "refuse")) aNil))))))))
    (sRet (fBin (gEq false) (fCall phi_stand_behind (aCons (fName 5) (aCons (fTup (aCons (fC (.int 1)) (aCons (fC (.int 2)) (aCons (fC (.int 1)) (aCons (fC (.int 2)) (aCons (fC (.int 3)) aNil)))))) aNil))) (fTup (aCons (fC (.str "body")) (aCons (fC (.str "check")) (aCons (fC (.int 1)) (aCons (fC (.int 3)) aNil)))))))))
def phi_law_02 : F0 := phi0 1 15 g_law_02
theorem e_law_02 : ∀ ds r, phi_law_02 ds = some r → ds.length = 1 ∧ run0 15 g_law_02 ds = some r := fun _ _ h => phi_run h
theorem n_law_02 : ∀ ds r, phi_law_02 ds = some r → ds.length = 1 := fun ds r h => (e_law_02 ds r h).1
-- slots of _law_good_file: bag form_here many_here most_here turn row
def g__law_good_file : FS :=
  (sSeq (sFor (iRg1 (pInt (fC (.int 4)))) (.nm 4) (sSeq (sSet 5 (fCall1 phi__law_written (aCons (fName 0) (aCons (fName 1) (aCons (fName 2) aNil)))))
    (sIf (fAnd (fTest (fBin (gCmp fun i j => decide (i ≤ j)) (fB1 gLen (fName 5)) (fName 3))) (fTest (fBin (gIs false) (fBin gIx (fCall phi__law_reading (aCons (fName 1) (aCons (fName 5) aNil))) (fC (.int 2))) (fC .non)))) (sRet (fName 5)) sSkip)))
    (sRet (fC .non)))
def phi__law_good_file : F1 := phi1 4 6 g__law_good_file
theorem e__law_good_file : ∀ ds r, phi__law_good_file ds = some r → ds.length = 4 ∧ run1 6 g__law_good_file ds = some r := fun _ _ h => phi_run1 h
theorem n__law_good_file : ∀ ds r, phi__law_good_file ds = some r → ds.length = 4 := fun ds r h => (e__law_good_file ds r h).1
-- slots of end_tag: form tag use
def g_end_tag : FS :=
  (sSeq (sFor (iSeq (fBin gIx (fName 0) (fC dc_TAGS))) (.tp [1, 2]) (sIf (fTest (fBin (gIn false) (fName 2) (fTup (aCons (fC (.str "end")) (aCons (fC (.str "stop")) aNil))))) (sRet (fName 1)) sSkip))
    (sRet (fC .non)))
def phi_end_tag : F0 := phi0 1 3 g_end_tag
theorem e_end_tag : ∀ ds r, phi_end_tag ds = some r → ds.length = 1 ∧ run0 3 g_end_tag ds = some r := fun _ _ h => phi_run h
theorem n_end_tag : ∀ ds r, phi_end_tag ds = some r → ds.length = 1 := fun ds r h => (e_end_tag ds r h).1
-- slots of ends_well: form stand
def g_ends_well : FS :=
  (sSeq (sIf (fTest (fBin (gEq false) (fName 1) (fC dc_TAG))) (sRet (fBin (gIs false) (fCall phi_end_tag (aCons (fName 0) aNil)) (fC .non))) sSkip)
    (sRet (fOrV (fBin (gEq false) (fName 1) (fC dc_ROOM)) (fBin (gEq false) (fName 1) (fC dc_OVER)))))
def phi_ends_well : F0 := phi0 2 2 g_ends_well
theorem e_ends_well : ∀ ds r, phi_ends_well ds = some r → ds.length = 2 ∧ run0 2 g_ends_well ds = some r := fun _ _ h => phi_run h
theorem n_ends_well : ∀ ds r, phi_ends_well ds = some r → ds.length = 2 := fun ds r h => (e_ends_well ds r h).1
-- slots of word_at: stand
def g_word_at : FS :=
  (sRet (fDk tb_REFUSALS (fBin gIx (fName 0) (fC (.int 0)))))
def phi_word_at : F0 := phi0 1 1 g_word_at
theorem e_word_at : ∀ ds r, phi_word_at ds = some r → ds.length = 1 ∧ run0 1 g_word_at ds = some r := fun _ _ h => phi_run h
theorem n_word_at : ∀ ds r, phi_word_at ds = some r → ds.length = 1 := fun ds r h => (e_word_at ds r h).1
-- slots of refusal_along: form along
def g_refusal_along : FS :=
  (sSeq (sIf (fTest (fBin (gIs false) (fBin gIx (fName 1) (fUn gNeg (fC (.int 1)))) (fC .non))) (sRet (fTup (aCons (fBin gSub (fB1 gLen (fName 1)) (fC (.int 2))) (aCons (fCall phi_word_at (aCons (fBin gIx (fName 1) (fUn gNeg (fC (.int 2)))) aNil)) aNil)))) sSkip)
    (sSeq (sIf (fNot (fTest (fCall phi_ends_well (aCons (fName 0) (aCons (fBin gIx (fName 1) (fUn gNeg (fC (.int 1)))) aNil))))) (sRet (fTup (aCons (fBin gSub (fB1 gLen (fName 1)) (fC (.int 1))) (aCons (fC (.str "short")) aNil)))) sSkip)
    (sRet (fC .non))))
def phi_refusal_along : F0 := phi0 2 2 g_refusal_along
theorem e_refusal_along : ∀ ds r, phi_refusal_along ds = some r → ds.length = 2 ∧ run0 2 g_refusal_along ds = some r := fun _ _ h => phi_run h
theorem n_refusal_along : ∀ ds r, phi_refusal_along ds = some r → ds.length = 2 := fun ds r h => (e_refusal_along ds r h).1
-- slots of along_read: form file along found
def g_along_read : FS :=
  (sSeq (sDrop (fCall phi_check_file (aCons (fName 0) (aCons (fName 1) aNil))))
    (sSeq (sSet 2 (fCall phi_stands_along (aCons (fName 0) (aCons (fName 1) aNil))))
    (sSeq (sSet 3 (fCall phi_refusal_along (aCons (fName 0) (aCons (fName 2) aNil))))
    (sSeq (sIf (fTest (fBin (gIs true) (fName 3) (fC .non))) sStuck sSkip)
    (sRet (fName 2))))))
def phi_along_read : F0 := phi0 2 4 g_along_read
theorem e_along_read : ∀ ds r, phi_along_read ds = some r → ds.length = 2 ∧ run0 4 g_along_read ds = some r := fun _ _ h => phi_run h
theorem n_along_read : ∀ ds r, phi_along_read ds = some r → ds.length = 2 := fun ds r h => (e_along_read ds r h).1
def xg_along_read : FX :=
  (xSeq (sDrop (fCall phi_check_file (aCons (fName 0) (aCons (fName 1) aNil)))) xNone
    (xSeq (sSet 2 (fCall phi_stands_along (aCons (fName 0) (aCons (fName 1) aNil)))) xNone
    (xSeq (sSet 3 (fCall phi_refusal_along (aCons (fName 0) (aCons (fName 2) aNil)))) xNone
    (xSeq (sIf (fTest (fBin (gIs true) (fName 3) (fC .non))) sStuck sSkip) (xIf (fTest (fBin (gIs true) (fName 3) (fC .non))) (xRaise "Refused" "index" "word" (aCons (fBin gIx (fName 3) (fC (.int 0))) (aCons (fBin gIx (fName 3) (fC (.int 1))) aNil))) xNone)
    xNone))))
def xi_along_read : List D → Option Ex := xi0 2 4 xg_along_read
theorem ex_along_read : ∀ ds r, xi_along_read ds = some r → ds.length = 2 ∧ runX 4 xg_along_read ds = some r := fun _ _ h => xi_run h
theorem nx_along_read : ∀ ds r, xi_along_read ds = some r → ds.length = 2 := fun ds r h => (ex_along_read ds r h).1
-- slots of _body_of: parts part
def g__body_of : FS :=
  (sRet (fB1 gTuple (fLc (iSeq (fName 0)) (.nm 1) (fTest (fBin (gEq true) (fName 1) (fC dc_NOTHING))) (fName 1) [1])))
def phi__body_of : F0 := phi0 1 2 g__body_of
theorem e__body_of : ∀ ds r, phi__body_of ds = some r → ds.length = 1 ∧ run0 2 g__body_of ds = some r := fun _ _ h => phi_run h
theorem n__body_of : ∀ ds r, phi__body_of ds = some r → ds.length = 1 := fun ds r h => (e__body_of ds r h).1
-- slots of told_part: form stand sign
def g_told_part : FS :=
  (sSeq (sIf (fAnd (fTest (fBin (gEq false) (fName 1) (fC dc_TAG))) (fTest (fBin (gIn false) (fCall phi_use_of (aCons (fName 0) (aCons (fName 2) aNil))) (fC dc_TOLD_USES)))) (sRet (fBin gAdd (fBin gIx (fName 0) (fC dc_BASE)) (fName 2))) sSkip)
    (sSeq (sIf (fAnd (fTest (fBin (gEq false) (fBin gIx (fName 1) (fC (.int 0))) (fC (.str "body")))) (fTest (fBin (gIn false) (fBin gIx (fName 1) (fC (.int 1))) (fC dc_TOLD_USES)))) (sRet (fName 2)) sSkip)
    (sRet (fC dc_NOTHING))))
def phi_told_part : F0 := phi0 3 3 g_told_part
theorem e_told_part : ∀ ds r, phi_told_part ds = some r → ds.length = 3 ∧ run0 3 g_told_part ds = some r := fun _ _ h => phi_run h
theorem n_told_part : ∀ ds r, phi_told_part ds = some r → ds.length = 3 := fun ds r h => (e_told_part ds r h).1
-- slots of told_along: form signs along parts begun over k at end
def g_told_along : FS :=
  (sSeq (sSet 3 (fLc (iRg1 (pInt (fB1 gLen (fName 1)))) (.nm 6) fYes (fCall phi_told_part (aCons (fName 0) (aCons (fBin gIx (fName 2) (fName 6)) (aCons (fBin gIx (fName 1) (fName 6)) aNil)))) [6]))
    (sSeq (sSet 4 (fLc (iRg1 (pInt (fB1 gLen (fName 1)))) (.nm 6) (fTest (fBin (gCmp fun i j => decide (j ≤ i)) (fBin gIx (fName 3) (fName 6)) (fBin gIx (fName 0) (fC dc_BASE)))) (fName 6) [6]))
    (sSeq (sSet 5 (fBin gAdd (fSl (fName 4) (pInt (fC (.int 1))) pNo) (fLst (aCons (fB1 gLen (fName 1)) aNil))))
    (sRet (fB1 gTuple (fLc (iZp (aCons (fName 4) (aCons (fName 5) aNil))) (.tp [7, 8]) fYes (fTup (aCons (fBin gIx (fName 1) (fName 7)) (aCons (fCall phi__body_of (aCons (fSl (fName 3) (pInt (fBin gAdd (fName 7) (fC (.int 1)))) (pInt (fName 8))) aNil)) aNil))) [7, 8]))))))
def phi_told_along : F0 := phi0 3 9 g_told_along
theorem e_told_along : ∀ ds r, phi_told_along ds = some r → ds.length = 3 ∧ run0 9 g_told_along ds = some r := fun _ _ h => phi_run h
theorem n_told_along : ∀ ds r, phi_told_along ds = some r → ds.length = 3 := fun ds r h => (e_told_along ds r h).1
-- slots of read: form file
def g_read : FS :=
  (sRet (fCall phi_told_along (aCons (fName 0) (aCons (fName 1) (aCons (fCall phi_along_read (aCons (fName 0) (aCons (fName 1) aNil))) aNil)))))
def phi_read : F0 := phi0 2 2 g_read
theorem e_read : ∀ ds r, phi_read ds = some r → ds.length = 2 ∧ run0 2 g_read ds = some r := fun _ _ h => phi_run h
theorem n_read : ∀ ds r, phi_read ds = some r → ds.length = 2 := fun ds r h => (e_read ds r h).1
def xg_read : FX :=
  (xTail (fName 0) (xTail (fName 1) (xCall xi_along_read (aCons (fName 0) (aCons (fName 1) aNil)))))
def xi_read : List D → Option Ex := xi0 2 2 xg_read
theorem ex_read : ∀ ds r, xi_read ds = some r → ds.length = 2 ∧ runX 2 xg_read ds = some r := fun _ _ h => xi_run h
theorem nx_read : ∀ ds r, xi_read ds = some r → ds.length = 2 := fun ds r h => (ex_read ds r h).1
-- slots of refusal: form file
def g_refusal : FS :=
  (sSeq (sDrop (fCall phi_check_file (aCons (fName 0) (aCons (fName 1) aNil))))
    (sRet (fCall phi_refusal_along (aCons (fName 0) (aCons (fCall phi_stands_along (aCons (fName 0) (aCons (fName 1) aNil))) aNil)))))
def phi_refusal : F0 := phi0 2 2 g_refusal
theorem e_refusal : ∀ ds r, phi_refusal ds = some r → ds.length = 2 ∧ run0 2 g_refusal ds = some r := fun _ _ h => phi_run h
theorem n_refusal : ∀ ds r, phi_refusal ds = some r → ds.length = 2 := fun ds r h => (e_refusal ds r h).1
-- slots of _law_right: form_here row told_here blind bad
def g__law_right : FS :=
  (sSeq (sUnp (.tp [2, 3, 4]) (fCall phi__law_reading (aCons (fName 0) (aCons (fName 1) aNil))))
    (sSeq (sIf (fNot (fTest (fCall phi__law_equal (aCons (fCall phi_refusal (aCons (fName 0) (aCons (fName 1) aNil))) (aCons (fName 4) aNil))))) (sRet (fC (.bl false))) sSkip)
    (sRet (fOrV (fBin (gIs true) (fName 4) (fC .non)) (fCall phi__law_equal (aCons (fCall phi_read (aCons (fName 0) (aCons (fName 1) aNil))) (aCons (fName 2) aNil)))))))
def phi__law_right : F0 := phi0 2 5 g__law_right
theorem e__law_right : ∀ ds r, phi__law_right ds = some r → ds.length = 2 ∧ run0 5 g__law_right ds = some r := fun _ _ h => phi_run h
theorem n__law_right : ∀ ds r, phi__law_right ds = some r → ds.length = 2 := fun ds r h => (e__law_right ds r h).1
-- slots of law: script at bag turn base top form_here row k signs_here sign_here f j
def g_law_08 : FS :=
  (sSeq (sFor (iRg1 (pInt (fBin gMax (fC (.int 1)) (fBin gMin (fC (.int 5)) (fB1 gLen (fName 0)))))) (.nm 1) (sSeq (sOwn 2 (fCall phi__law_bag (aCons (fName 0) (aCons (fName 1) aNil))))
    (sFor (iRg1 (pInt (fC (.int 3)))) (.nm 3) (sSeq (sUnp (.tp [4, 5]) (fTup (aCons (fBin gIx (fLst (aCons (fC (.int 2)) (aCons (fC (.int 4)) (aCons (fC (.int 16)) aNil)))) (fCall1 phi__law_grab (aCons (fName 2) (aCons (fC (.int 3)) aNil)))) (aCons (fBin gIx (fLst (aCons (fC (.int 3)) (aCons (fC (.int 20)) aNil))) (fCall1 phi__law_grab (aCons (fName 2) (aCons (fC (.int 2)) aNil)))) aNil))))
    (sSeq (sSet 6 (fCall1 phi__law_drawn_form (aCons (fName 2) (aCons (fName 4) (aCons (fC (.int 4)) (aCons (fName 5) (aCons (fBin gIx (fLst (aCons (fC (.int 3)) (aCons (fC (.int 8)) aNil))) (fCall1 phi__law_grab (aCons (fName 2) (aCons (fC (.int 2)) aNil)))) aNil)))))))
    (sSeq (sSet 7 (fCall1 phi__law_good_file (aCons (fName 2) (aCons (fName 6) (aCons (fC (.int 4)) (aCons (fC (.int 40)) aNil))))))
    (sIf (fTest (fBin (gIs true) (fName 7) (fC .non))) (sSeq (sFor (iRg1 (pInt (fB1 gLen (fName 7)))) (.nm 8) (sSeq (sSet 9 (fLRg pZero (pInt (fName 4))))
    (sSeq (sIf (fTest (fBin (gCmp fun i j => decide (j < i)) (fName 4) (fC (.int 4)))) (sSet 9 (fLc (iRg1 (pInt (fC (.int 3)))) (.nm 12) fYes (fCall1 phi__law_grab (aCons (fName 2) (aCons (fName 4) aNil))) [12])) sSkip)
    (sSeq (sFor (iSeq (fName 9)) (.nm 10) (sIf (fNot (fTest (fCall phi__law_right (aCons (fName 6) (aCons (fBin gAdd (fBin gAdd (fSl (fName 7) pNo (pInt (fName 8))) (fTup (aCons (fName 10) aNil))) (fSl (fName 7) (pInt (fBin gAdd (fName 8) (fC (.int 1)))) pNo)) aNil))))) (sRet (fC (.bl false))) sSkip))
    (sIf (fNot (fTest (fCall phi__law_right (aCons (fName 6) (aCons (fSl (fName 7) pNo (pInt (fName 8))) aNil))))) (sRet (fC (.bl false))) sSkip)))))
    (sIf (fOr (fNot (fTest (fCall phi__law_right (aCons (fName 6) (aCons (fBin gAdd (fName 7) (fTup (aCons (fCall1 phi__law_grab (aCons (fName 2) (aCons (fBin gIx (fName 6) (fC (.int 0))) aNil))) aNil))) aNil))))) (fNot (fTest (fCall phi__law_right (aCons (fName 6) (aCons (fName 7) aNil)))))) (sRet (fC (.bl false))) sSkip)) sSkip)))))))
    (sSeq (sSet 11 (fTup (aCons (fC (.int 4)) (aCons (fTup aNil) (aCons (fC (.str "low")) (aCons (fC (.int 2)) (aCons (fTup (aCons (fTup (aCons (fC (.int 1)) (aCons (fC (.str "check")) aNil))) aNil)) (aCons (fC (.str "skip")) aNil))))))))
    (sRet (fBin (gEq false) (fLst (aCons (fCall phi_refusal (aCons (fName 11) (aCons (fTup (aCons (fC (.int 1)) (aCons (fC (.int 3)) (aCons (fC (.int 0)) aNil)))) aNil))) (aCons (fCall phi_refusal (aCons (fName 11) (aCons (fTup (aCons (fC (.int 1)) (aCons (fC (.int 2)) (aCons (fC (.int 1)) aNil)))) aNil))) (aCons (fCall phi_refusal (aCons (fName 11) (aCons (fTup aNil) aNil))) aNil)))) (fLst (aCons (fTup (aCons (fC (.int 1)) (aCons (fC (.str "length")) aNil))) (aCons (fTup (aCons (fC (.int 2)) (aCons (fC (.str "length")) aNil))) (aCons (fC .non) aNil))))))))
def phi_law_08 : F0 := phi0 1 13 g_law_08
theorem e_law_08 : ∀ ds r, phi_law_08 ds = some r → ds.length = 1 ∧ run0 13 g_law_08 ds = some r := fun _ _ h => phi_run h
theorem n_law_08 : ∀ ds r, phi_law_08 ds = some r → ds.length = 1 := fun ds r h => (e_law_08 ds r h).1
-- slots of _law_turned_blind: bag form_here row blind found k
def g__law_turned_blind : FS :=
  (sSeq (sOwn 4 (fB1 gList (fName 2)))
    (sSeq (sFor (iSeq (fName 3)) (.nm 5) (sIf (fTest (fBin (gEq false) (fCall1 phi__law_grab (aCons (fName 0) (aCons (fC (.int 2)) aNil))) (fC (.int 0)))) (sStI 4 (pInt (fName 5)) (fCall1 phi__law_grab (aCons (fName 0) (aCons (fBin gIx (fName 1) (fC (.int 0))) aNil)))) sSkip))
    (sRet (fB1 gTuple (fName 4)))))
def phi__law_turned_blind : F1 := phi1 4 6 g__law_turned_blind
theorem e__law_turned_blind : ∀ ds r, phi__law_turned_blind ds = some r → ds.length = 4 ∧ run1 6 g__law_turned_blind ds = some r := fun _ _ h => phi_run1 h
theorem n__law_turned_blind : ∀ ds r, phi__law_turned_blind ds = some r → ds.length = 4 := fun ds r h => (e__law_turned_blind ds r h).1
-- slots of _law_wide_form: bag base top
def g__law_wide_form : FS :=
  (sSeq (sSet 1 (fBin gIx (fLst (aCons (fC (.int 2)) (aCons (fC (.int 3)) (aCons (fC (.int 4)) (aCons (fC (.int 5)) (aCons (fC (.int 16)) (aCons (fC (.int 256)) (aCons (fBin gAdd (fC (.int 2)) (fCall1 phi__law_grab (aCons (fName 0) (aCons (fC (.int 255)) aNil)))) aNil)))))))) (fCall1 phi__law_grab (aCons (fName 0) (aCons (fC (.int 7)) aNil)))))
    (sSeq (sSet 2 (fBin gIx (fLst (aCons (fC (.int 3)) (aCons (fC (.int 9)) (aCons (fC (.int 40)) (aCons (fC (.int 65535)) aNil))))) (fCall1 phi__law_grab (aCons (fName 0) (aCons (fC (.int 4)) aNil)))))
    (sRet (fCall1 phi__law_drawn_form (aCons (fName 0) (aCons (fName 1) (aCons (fBin gIx (fLst (aCons (fC (.int 4)) (aCons (fC (.int 20)) aNil))) (fCall1 phi__law_grab (aCons (fName 0) (aCons (fC (.int 2)) aNil)))) (aCons (fName 2) (aCons (fBin gIx (fLst (aCons (fC (.int 4)) (aCons (fC (.int 20)) aNil))) (fCall1 phi__law_grab (aCons (fName 0) (aCons (fC (.int 2)) aNil)))) aNil)))))))))
def phi__law_wide_form : F1 := phi1 1 3 g__law_wide_form
theorem e__law_wide_form : ∀ ds r, phi__law_wide_form ds = some r → ds.length = 1 ∧ run1 3 g__law_wide_form ds = some r := fun _ _ h => phi_run1 h
theorem n__law_wide_form : ∀ ds r, phi__law_wide_form ds = some r → ds.length = 1 := fun ds r h => (e__law_wide_form ds r h).1
-- slots of looks: form stand
def g_looks : FS :=
  (sSeq (sIf (fTest (fBin (gEq false) (fBin gIx (fName 1) (fC (.int 0))) (fC (.str "head")))) (sRet (fBin (gIs true) (fBin gIx (fBin gIx (fName 0) (fC dc_HEAD)) (fBin gIx (fName 1) (fC (.int 1)))) (fC .non))) sSkip)
    (sSeq (sIf (fTest (fBin (gEq false) (fBin gIx (fName 1) (fC (.int 0))) (fC (.str "body")))) (sRet (fBin (gEq true) (fBin gIx (fName 1) (fC (.int 1))) (fC (.str "skip")))) sSkip)
    (sRet (fBin (gEq true) (fName 1) (fC dc_ROOM)))))
def phi_looks : F0 := phi0 2 2 g_looks
theorem e_looks : ∀ ds r, phi_looks ds = some r → ds.length = 2 ∧ run0 2 g_looks ds = some r := fun _ _ h => phi_run h
theorem n_looks : ∀ ds r, phi_looks ds = some r → ds.length = 2 := fun ds r h => (e_looks ds r h).1
-- slots of looked_at: form file along k
def g_looked_at : FS :=
  (sSeq (sSet 2 (fCall phi_along_read (aCons (fName 0) (aCons (fName 1) aNil))))
    (sRet (fLc (iRg1 (pInt (fB1 gLen (fName 1)))) (.nm 3) (fTest (fCall phi_looks (aCons (fName 0) (aCons (fBin gIx (fName 2) (fName 3)) aNil)))) (fName 3) [3])))
def phi_looked_at : F0 := phi0 2 4 g_looked_at
theorem e_looked_at : ∀ ds r, phi_looked_at ds = some r → ds.length = 2 ∧ run0 4 g_looked_at ds = some r := fun _ _ h => phi_run h
theorem n_looked_at : ∀ ds r, phi_looked_at ds = some r → ds.length = 2 := fun ds r h => (e_looked_at ds r h).1
-- slots of law: script at bag turn form_here row told_here blind bad due found trial other_row a k
def g_law_09 : FS :=
  (sSeq (sFor (iRg1 (pInt (fBin gMax (fC (.int 1)) (fBin gMin (fC (.int 6)) (fB1 gLen (fName 0)))))) (.nm 1) (sSeq (sOwn 2 (fCall phi__law_bag (aCons (fName 0) (aCons (fName 1) aNil))))
    (sFor (iRg1 (pInt (fC (.int 5)))) (.nm 3) (sSeq (sSet 4 (fCall1 phi__law_wide_form (aCons (fName 2) aNil)))
    (sSeq (sSet 5 (fCall1 phi__law_good_file (aCons (fName 2) (aCons (fName 4) (aCons (fBin gIx (fLst (aCons (fC (.int 3)) (aCons (fC (.int 12)) aNil))) (fCall1 phi__law_grab (aCons (fName 2) (aCons (fC (.int 2)) aNil)))) (aCons (fC (.int 200)) aNil))))))
    (sIf (fTest (fBin (gIs true) (fName 5) (fC .non))) (sSeq (sUnp (.tp [6, 7, 8]) (fCall phi__law_reading (aCons (fName 4) (aCons (fName 5) aNil))))
    (sSeq (sSet 9 (fLc (iRg1 (pInt (fB1 gLen (fName 5)))) (.nm 14) (fTest (fBin (gIn true) (fName 14) (fName 7))) (fName 14) [14]))
    (sSeq (sOwn 10 (fCall phi_looked_at (aCons (fName 4) (aCons (fName 5) aNil))))
    (sSeq (sIf (fPeek 10 (fNot (fTest (fCall phi__law_equal (aCons (fLst (aCons (fName 10) (aCons (fCall phi_looked_at (aRev (aCons (fName 5) (aCons (fName 4) aNil)))) aNil))) (aCons (fLst (aCons (fName 9) (aCons (fName 9) aNil))) aNil)))))) (sRet (fC (.bl false))) sSkip)
    (sSeq (sApp 10 (fUn gNeg (fC (.int 1))))
    (sFor (iRg1 (pInt (fC (.int 4)))) (.nm 11) (sSeq (sSet 12 (fCall1 phi__law_turned_blind (aCons (fName 2) (aCons (fName 4) (aCons (fName 5) (aCons (fName 7) aNil))))))
    (sIf (fNot (fTest (fCall phi__law_equal (aCons (fLst (aCons (fCall phi_read (aCons (fName 4) (aCons (fName 12) aNil))) (aCons (fCall phi_looked_at (aCons (fName 4) (aCons (fName 12) aNil))) aNil))) (aCons (fLst (aCons (fName 6) (aCons (fName 9) aNil))) aNil))))) (sRet (fC (.bl false))) sSkip)))))))) sSkip))))))
    (sSeq (sSet 13 (fTup (aCons (fC (.int 4)) (aCons (fTup (aCons (fC (.int 1)) (aCons (fC .non) aNil))) (aCons (fC (.str "one")) (aCons (fC (.int 3)) (aCons (fTup (aCons (fTup (aCons (fC (.int 0)) (aCons (fC (.str "stop")) aNil))) (aCons (fTup (aCons (fC (.int 2)) (aCons (fC (.str "keep")) aNil))) aNil))) (aCons (fC (.str "skip")) aNil))))))))
    (sRet (fBin (gEq false) (fCall phi_looked_at (aCons (fName 13) (aCons (fTup (aCons (fC (.int 1)) (aCons (fC (.int 2)) (aCons (fC (.int 3)) (aCons (fC (.int 2)) (aCons (fC (.int 0)) (aCons (fC (.int 0)) (aCons (fC (.int 0)) aNil)))))))) aNil))) (fLst (aCons (fC (.int 0)) (aCons (fC (.int 2)) (aCons (fC (.int 3)) (aCons (fC (.int 6)) aNil)))))))))
def phi_law_09 : F0 := phi0 1 15 g_law_09
theorem e_law_09 : ∀ ds r, phi_law_09 ds = some r → ds.length = 1 ∧ run0 15 g_law_09 ds = some r := fun _ _ h => phi_run h
theorem n_law_09 : ∀ ds r, phi_law_09 ds = some r → ds.length = 1 := fun ds r h => (e_law_09 ds r h).1
-- slots of _law_long_file: bag form_here use_here base size body_here top worth size_here found k
def g__law_long_file : FS :=
  (sSeq (sUnp (.tp [3, 4]) (fTup (aCons (fBin gIx (fName 1) (fC (.int 0))) (aCons (fBin gAdd (fC (.int 10)) (fCall1 phi__law_grab (aCons (fName 0) (aCons (fC (.int 140)) aNil)))) aNil))))
    (sSeq (sSet 5 (fLc (iRg1 (pInt (fName 4))) (.nm 10) fYes (fCall1 phi__law_grab (aCons (fName 0) (aCons (fName 3) aNil))) [10]))
    (sSeq (sSet 6 (fBin gIx (fName 1) (fC (.int 3))))
    (sSeq (sSet 7 (fBin gIx (fLst (aCons (fName 4) (aCons (fName 4) (aCons (fName 6) (aCons (fBin gAdd (fName 6) (fC (.int 1))) (aCons (fBin gAdd (fName 6) (fName 3)) (aCons (fCall1 phi__law_grab (aCons (fName 0) (aCons (fBin gMul (fName 3) (fName 3)) aNil))) aNil))))))) (fCall1 phi__law_grab (aCons (fName 0) (aCons (fC (.int 6)) aNil)))))
    (sSeq (sSet 7 (fBin gMin (fName 7) (fBin gSub (fBin gMul (fName 3) (fName 3)) (fC (.int 1)))))
    (sSeq (sSet 8 (fIf (fTest (fBin (gEq false) (fBin gIx (fName 1) (fC (.int 2))) (fC (.str "high")))) (fLst (aCons (fBin gDiv (fName 7) (fName 3)) (aCons (fBin gMod (fB1 gInt (fName 7)) (fName 3)) aNil))) (fLst (aCons (fBin gMod (fB1 gInt (fName 7)) (fName 3)) (aCons (fBin gDiv (fName 7) (fName 3)) aNil)))))
    (sSeq (sOwn 9 (fBin gAdd (fBin gAdd (fLst (aCons (fC (.int 1)) aNil)) (fName 8)) (fName 5)))
    (sSeq (sIf (fTest (fBin (gEq false) (fName 2) (fC (.str "check")))) (sApp 9 (fBin gMod (fB1 gInt (fBin gAdd (fB1 gSum (fName 5)) (fB1 gInt (fBin (gEq false) (fCall1 phi__law_grab (aCons (fName 0) (aCons (fC (.int 4)) aNil))) (fC (.int 0)))))) (fName 3))) sSkip)
    (sRet (fB1 gTuple (fBin gAdd (fName 9) (fBin gMul (fLst (aCons (fC (.int 0)) aNil)) (fCall1 phi__law_grab (aCons (fName 0) (aCons (fC (.int 3)) aNil)))))))))))))))
def phi__law_long_file : F1 := phi1 3 11 g__law_long_file
theorem e__law_long_file : ∀ ds r, phi__law_long_file ds = some r → ds.length = 3 ∧ run1 11 g__law_long_file ds = some r := fun _ _ h => phi_run1 h
theorem n__law_long_file : ∀ ds r, phi__law_long_file ds = some r → ds.length = 3 := fun ds r h => (e__law_long_file ds r h).1
-- slots of _law_told: form_here row found e
def g__law_told : FS :=
  (sSeq (sSet 2 (fC .non))
    (sSeq (sTry 3 "Refused" (sSet 2 (fLst (aCons (fCall phi_read (aCons (fName 0) (aCons (fName 1) aNil))) (aCons (fCall phi_looked_at (aCons (fName 0) (aCons (fName 1) aNil))) aNil)))) (xCall xi_read (aCons (fName 0) (aCons (fName 1) aNil))) (hSet 2 (hTup (hCons (hFld "Refused" "index") (hCons (hFld "Refused" "word") (fun _ => aNil))))))
    (sRet (fName 2))))
def phi__law_told : F0 := phi0 2 4 g__law_told
theorem e__law_told : ∀ ds r, phi__law_told ds = some r → ds.length = 2 ∧ run0 4 g__law_told ds = some r := fun _ _ h => phi_run h
theorem n__law_told : ∀ ds r, phi__law_told ds = some r → ds.length = 2 := fun ds r h => (e__law_told ds r h).1
-- slots of law: script at bag use_here base top ends form_here turn row told_here blind bad due f k
def g_law_13 : FS :=
  (sSeq (sFor (iRg1 (pInt (fBin gMax (fC (.int 1)) (fBin gMin (fC (.int 6)) (fB1 gLen (fName 0)))))) (.nm 1) (sSeq (sOwn 2 (fCall phi__law_bag (aCons (fName 0) (aCons (fName 1) aNil))))
    (sFor (iSeq (fTup (aCons (fC (.str "keep")) (aCons (fC (.str "check")) (aCons (fC (.str "skip")) aNil))))) (.nm 3) (sSeq (sSet 4 (fBin gIx (fLst (aCons (fC (.int 2)) (aCons (fC (.int 16)) (aCons (fC (.int 255)) (aCons (fC (.int 256)) aNil))))) (fCall1 phi__law_grab (aCons (fName 2) (aCons (fC (.int 4)) aNil)))))
    (sSeq (sSet 5 (fBin gIx (fLst (aCons (fBin gAdd (fC (.int 9)) (fCall1 phi__law_grab (aCons (fName 2) (aCons (fC (.int 150)) aNil)))) (aCons (fBin gSub (fBin gMul (fName 4) (fName 4)) (fC (.int 1))) (aCons (fC (.int 65535)) (aCons (fCall1 phi__law_grab (aCons (fName 2) (aCons (fBin gMul (fName 4) (fName 4)) aNil))) aNil))))) (fCall1 phi__law_grab (aCons (fName 2) (aCons (fC (.int 4)) aNil)))))
    (sSeq (sSet 6 (fBin gIx (fLst (aCons (fTup aNil) (aCons (fTup (aCons (fTup (aCons (fC (.int 0)) (aCons (fC (.str "stop")) aNil))) aNil)) (aCons (fTup (aCons (fTup (aCons (fC (.int 0)) (aCons (fC (.str "end")) aNil))) aNil)) aNil)))) (fCall1 phi__law_grab (aCons (fName 2) (aCons (fC (.int 3)) aNil)))))
    (sSeq (sSet 7 (fTup (aCons (fName 4) (aCons (fTup aNil) (aCons (fBin gIx (fLst (aCons (fC (.str "high")) (aCons (fC (.str "low")) aNil))) (fCall1 phi__law_grab (aCons (fName 2) (aCons (fC (.int 2)) aNil)))) (aCons (fName 5) (aCons (fBin gAdd (fName 6) (fTup (aCons (fTup (aCons (fC (.int 1)) (aCons (fName 3) aNil))) aNil))) (aCons (fC (.str "refuse")) aNil))))))))
    (sFor (iRg1 (pInt (fC (.int 5)))) (.nm 8) (sSeq (sSet 9 (fCall1 phi__law_long_file (aCons (fName 2) (aCons (fName 7) (aCons (fName 3) aNil)))))
    (sSeq (sUnp (.tp [10, 11, 12]) (fCall phi__law_reading (aCons (fName 7) (aCons (fName 9) aNil))))
    (sSeq (sSet 13 (fName 12))
    (sSeq (sIf (fTest (fBin (gIs false) (fName 12) (fC .non))) (sSet 13 (fLst (aCons (fName 10) (aCons (fLc (iRg1 (pInt (fB1 gLen (fName 9)))) (.nm 15) (fTest (fBin (gIn true) (fName 15) (fName 11))) (fName 15) [15]) aNil)))) sSkip)
    (sIf (fNot (fTest (fCall phi__law_equal (aCons (fLst (aCons (fCall phi_refusal (aCons (fName 7) (aCons (fName 9) aNil))) (aCons (fCall phi__law_told (aCons (fName 7) (aCons (fName 9) aNil))) aNil))) (aCons (fLst (aCons (fName 12) (aCons (fName 13) aNil))) aNil))))) (sRet (fC (.bl false))) sSkip)))))))))))))
    (sSeq (sSet 14 (fTup (aCons (fC (.int 256)) (aCons (fTup aNil) (aCons (fC (.str "low")) (aCons (fC (.int 65535)) (aCons (fTup (aCons (fTup (aCons (fC (.int 1)) (aCons (fC (.str "keep")) aNil))) aNil)) (aCons (fC (.str "refuse")) aNil))))))))
    (sRet (fAndV (fBin (gEq false) (fCall phi_refusal (aCons (fName 14) (aCons (fTup (aCons (fC (.int 1)) (aCons (fC (.int 255)) (aCons (fC (.int 255)) (aCons (fC (.int 0)) aNil))))) aNil))) (fTup (aCons (fC (.int 4)) (aCons (fC (.str "short")) aNil)))) (fBin (gEq false) (fCall phi_read (aCons (fName 14) (aCons (fTup (aCons (fC (.int 1)) (aCons (fC (.int 2)) (aCons (fC (.int 0)) (aCons (fC (.int 7)) (aCons (fC (.int 8)) aNil)))))) aNil))) (fTup (aCons (fTup (aCons (fC (.int 1)) (aCons (fTup (aCons (fC (.int 7)) (aCons (fC (.int 8)) aNil))) aNil))) aNil)))))))
def phi_law_13 : F0 := phi0 1 16 g_law_13
theorem e_law_13 : ∀ ds r, phi_law_13 ds = some r → ds.length = 1 ∧ run0 16 g_law_13 ds = some r := fun _ _ h => phi_run h
theorem n_law_13 : ∀ ds r, phi_law_13 ds = some r → ds.length = 1 := fun ds r h => (e_law_13 ds r h).1
-- slots of _law_free: bag base size k
def g__law_free : FS :=
  (sRet (fB1 gTuple (fLc (iRg1 (pInt (fCall1 phi__law_grab (aCons (fName 0) (aCons (fBin gAdd (fName 2) (fC (.int 1))) aNil))))) (.nm 3) fYes (fCall1 phi__law_grab (aCons (fName 0) (aCons (fName 1) aNil))) [3])))
def phi__law_free : F1 := phi1 3 4 g__law_free
theorem e__law_free : ∀ ds r, phi__law_free ds = some r → ds.length = 3 ∧ run1 4 g__law_free ds = some r := fun _ _ h => phi_run1 h
theorem n__law_free : ∀ ds r, phi__law_free ds = some r → ds.length = 3 := fun ds r h => (e__law_free ds r h).1
-- slots of _law_any_file: bag form_here found
def g__law_any_file : FS :=
  (sSeq (sIf (fTest (fBin (gEq false) (fCall1 phi__law_grab (aCons (fName 0) (aCons (fC (.int 6)) aNil))) (fC (.int 0)))) (sRet (fCall1 phi__law_free (aCons (fName 0) (aCons (fBin gIx (fName 1) (fC (.int 0))) (aCons (fC (.int 12)) aNil))))) sSkip)
    (sSeq (sSet 2 (fSl (fCall1 phi__law_written (aCons (fName 0) (aCons (fName 1) (aCons (fBin gIx (fLst (aCons (fC (.int 3)) (aCons (fC (.int 8)) aNil))) (fCall1 phi__law_grab (aCons (fName 0) (aCons (fC (.int 2)) aNil)))) aNil)))) pNo (pInt (fC (.int 200)))))
    (sRet (fIf (fTest (fBin (gEq false) (fCall1 phi__law_grab (aCons (fName 0) (aCons (fC (.int 6)) aNil))) (fC (.int 0)))) (fSl (fName 2) pNo (pInt (fCall1 phi__law_grab (aCons (fName 0) (aCons (fBin gAdd (fB1 gLen (fName 2)) (fC (.int 1))) aNil))))) (fName 2)))))
def phi__law_any_file : F1 := phi1 2 3 g__law_any_file
theorem e__law_any_file : ∀ ds r, phi__law_any_file ds = some r → ds.length = 2 ∧ run1 3 g__law_any_file ds = some r := fun _ _ h => phi_run1 h
theorem n__law_any_file : ∀ ds r, phi__law_any_file ds = some r → ds.length = 2 := fun ds r h => (e__law_any_file ds r h).1
-- slots of _law_heard: way form_here row found e
def g__law_heard : FS :=
  (sSeq (sSet 3 (fC .non))
    (sSeq (sTry 4 "Refused" (sSet 3 (fTup (aCons (fC (.str "told")) (aCons (fIf (fTest (fBin (gEq false) (fName 0) (fC (.int 0)))) (fCall phi_read (aCons (fName 1) (aCons (fName 2) aNil))) (fCall phi_read (aRev (aCons (fName 2) (aCons (fName 1) aNil))))) aNil)))) (xTail (fC (.str "told")) (xIf (fTest (fBin (gEq false) (fName 0) (fC (.int 0)))) (xCall xi_read (aCons (fName 1) (aCons (fName 2) aNil))) (xCall xi_read (aRev (aCons (fName 2) (aCons (fName 1) aNil)))))) (hSet 3 (hIf (hAnd (hTst (hYes "Refused")) (hTst (hYes "Refused"))) (hTup (hCons (fun _ => (fC (.str "refused"))) (hCons (hTup (hCons (hFld "Refused" "index") (hCons (hFld "Refused" "word") (fun _ => aNil)))) (fun _ => aNil)))) (fun _ => (fC (.str "odd"))))))
    (sRet (fName 3))))
def phi__law_heard : F0 := phi0 3 5 g__law_heard
theorem e__law_heard : ∀ ds r, phi__law_heard ds = some r → ds.length = 3 ∧ run0 5 g__law_heard ds = some r := fun _ _ h => phi_run h
theorem n__law_heard : ∀ ds r, phi__law_heard ds = some r → ds.length = 3 := fun ds r h => (e__law_heard ds r h).1
-- slots of law: script at bag turn form_here trial row told_here blind bad due a
def g_law_07 : FS :=
  (sSeq (sFor (iRg1 (pInt (fBin gMax (fC (.int 1)) (fBin gMin (fC (.int 6)) (fB1 gLen (fName 0)))))) (.nm 1) (sSeq (sOwn 2 (fCall phi__law_bag (aCons (fName 0) (aCons (fName 1) aNil))))
    (sFor (iRg1 (pInt (fC (.int 4)))) (.nm 3) (sSeq (sSet 4 (fCall1 phi__law_wide_form (aCons (fName 2) aNil)))
    (sFor (iRg1 (pInt (fC (.int 5)))) (.nm 5) (sSeq (sSet 6 (fCall1 phi__law_any_file (aCons (fName 2) (aCons (fName 4) aNil))))
    (sSeq (sUnp (.tp [7, 8, 9]) (fCall phi__law_reading (aCons (fName 4) (aCons (fName 6) aNil))))
    (sSeq (sIf (fNot (fTest (fCall phi__law_equal (aCons (fLst (aCons (fCall phi_refusal (aCons (fName 4) (aCons (fName 6) aNil))) (aCons (fCall phi_refusal (aRev (aCons (fName 6) (aCons (fName 4) aNil)))) aNil))) (aCons (fLst (aCons (fName 9) (aCons (fName 9) aNil))) aNil))))) (sRet (fC (.bl false))) sSkip)
    (sSeq (sSet 10 (fIf (fTest (fBin (gIs false) (fName 9) (fC .non))) (fTup (aCons (fC (.str "told")) (aCons (fName 7) aNil))) (fTup (aCons (fC (.str "refused")) (aCons (fName 9) aNil)))))
    (sIf (fNot (fTest (fCall phi__law_equal (aCons (fLst (aCons (fCall phi__law_heard (aCons (fC (.int 0)) (aCons (fName 4) (aCons (fName 6) aNil)))) (aCons (fCall phi__law_heard (aCons (fC (.int 1)) (aCons (fName 4) (aCons (fName 6) aNil)))) aNil))) (aCons (fLst (aCons (fName 10) (aCons (fName 10) aNil))) aNil))))) (sRet (fC (.bl false))) sSkip))))))))))
    (sSeq (sSet 11 (fTup (aCons (fC (.int 4)) (aCons (fTup (aCons (fC (.int 1)) (aCons (fC .non) aNil))) (aCons (fC (.str "one")) (aCons (fC (.int 3)) (aCons (fTup (aCons (fTup (aCons (fC (.int 0)) (aCons (fC (.str "stop")) aNil))) (aCons (fTup (aCons (fC (.int 2)) (aCons (fC (.str "keep")) aNil))) aNil))) (aCons (fC (.str "skip")) aNil))))))))
    (sRet (fAndV (fBin (gEq false) (fCall phi_read (aCons (fName 11) (aCons (fTup (aCons (fC (.int 1)) (aCons (fC (.int 2)) (aCons (fC (.int 2)) (aCons (fC (.int 2)) (aCons (fC (.int 3)) (aCons (fC (.int 1)) (aCons (fC (.int 0)) aNil)))))))) aNil))) (fTup (aCons (fTup (aCons (fC (.int 2)) (aCons (fTup (aCons (fC (.int 3)) (aCons (fC (.int 1)) aNil))) aNil))) aNil))) (fBin (gEq false) (fCall phi_refusal (aCons (fName 11) (aCons (fTup (aCons (fC (.int 1)) (aCons (fC (.int 2)) (aCons (fC (.int 0)) (aCons (fC (.int 0)) aNil))))) aNil))) (fTup (aCons (fC (.int 3)) (aCons (fC (.str "behind")) aNil))))))))
def phi_law_07 : F0 := phi0 1 12 g_law_07
theorem e_law_07 : ∀ ds r, phi_law_07 ds = some r → ds.length = 1 ∧ run0 12 g_law_07 ds = some r := fun _ _ h => phi_run h
theorem n_law_07 : ∀ ds r, phi_law_07 ds = some r → ds.length = 1 := fun ds r h => (e_law_07 ds r h).1
-- slots of _law_longest: form_here base
def g__law_longest : FS :=
  (sSeq (sSet 1 (fBin gIx (fName 0) (fC (.int 0))))
    (sRet (fBin gMin (fBin gIx (fName 0) (fC (.int 3))) (fIf (fTest (fBin (gEq false) (fBin gIx (fName 0) (fC (.int 2))) (fC (.str "one")))) (fBin gSub (fName 1) (fC (.int 1))) (fBin gSub (fBin gMul (fName 1) (fName 1)) (fC (.int 1)))))))
def phi__law_longest : F0 := phi0 1 2 g__law_longest
theorem e__law_longest : ∀ ds r, phi__law_longest ds = some r → ds.length = 1 ∧ run0 2 g__law_longest ds = some r := fun _ _ h => phi_run h
theorem n__law_longest : ∀ ds r, phi__law_longest ds = some r → ds.length = 1 := fun ds r h => (e__law_longest ds r h).1
-- slots of _law_content: bag form_here many_here most_here rows found k top size body_here row j
def g__law_content : FS :=
  (sSeq (sSet 4 (fLc (iSeq (fBin gIx (fName 1) (fC (.int 4)))) (.nm 10) (fTest (fBin (gIn false) (fBin gIx (fName 10) (fC (.int 1))) (fTup (aCons (fC (.str "keep")) (aCons (fC (.str "check")) aNil))))) (fName 10) [10]))
    (sSeq (sOwn 5 (fLst aNil))
    (sSeq (sFor (iRg1 (pInt (fBin gMul (fCall1 phi__law_grab (aCons (fName 0) (aCons (fBin gAdd (fName 2) (fC (.int 1))) aNil))) (fB1 gInt (fBin (gEq true) (fName 4) (fLst aNil)))))) (.nm 6) (sSeq (sSet 7 (fBin gMin (fCall phi__law_longest (aCons (fName 1) aNil)) (fName 3)))
    (sSeq (sSet 8 (fBin gIx (fLst (aCons (fCall1 phi__law_grab (aCons (fName 0) (aCons (fBin gAdd (fName 7) (fC (.int 1))) aNil))) (aCons (fCall1 phi__law_grab (aCons (fName 0) (aCons (fBin gAdd (fBin gMin (fName 7) (fC (.int 2))) (fC (.int 1))) aNil))) aNil))) (fCall1 phi__law_grab (aCons (fName 0) (aCons (fC (.int 2)) aNil)))))
    (sSeq (sSet 9 (fB1 gTuple (fLc (iRg1 (pInt (fName 8))) (.nm 11) fYes (fCall1 phi__law_grab (aCons (fName 0) (aCons (fBin gIx (fName 1) (fC (.int 0))) aNil))) [11])))
    (sApp 5 (fTup (aCons (fBin gIx (fBin gIx (fName 4) (fCall1 phi__law_grab (aCons (fName 0) (aCons (fB1 gLen (fName 4)) aNil)))) (fC (.int 0))) (aCons (fName 9) aNil))))))))
    (sRet (fB1 gTuple (fName 5))))))
def phi__law_content : F1 := phi1 4 12 g__law_content
theorem e__law_content : ∀ ds r, phi__law_content ds = some r → ds.length = 4 ∧ run1 12 g__law_content ds = some r := fun _ _ h => phi_run1 h
theorem n__law_content : ∀ ds r, phi__law_content ds = some r → ds.length = 4 := fun ds r h => (e__law_content ds r h).1
-- slots of _law_files: base size rows k longer row sign
def g__law_files : FS :=
  (sSeq (sSet 2 (fLst (aCons (fTup aNil) aNil)))
    (sSeq (sFor (iRg1 (pInt (fName 1))) (.nm 3) (sSeq (sSet 4 (fLst aNil))
    (sSeq (sFor (iSeq (fName 2)) (.nm 5) (sSet 4 (fBin gAdd (fName 4) (fLc (iRg1 (pInt (fName 0))) (.nm 6) fYes (fBin gAdd (fName 5) (fTup (aCons (fName 6) aNil))) [6]))))
    (sSet 2 (fName 4)))))
    (sRet (fName 2))))
def phi__law_files : F0 := phi0 2 7 g__law_files
theorem e__law_files : ∀ ds r, phi__law_files ds = some r → ds.length = 2 ∧ run0 7 g__law_files ds = some r := fun _ _ h => phi_run h
theorem n__law_files : ∀ ds r, phi__law_files ds = some r → ds.length = 2 := fun ds r h => (e__law_files ds r h).1
-- slots of _law_is_least: form_here content_here row size other_row told_here blind bad
def g__law_is_least : FS :=
  (sSeq (sFor (iRg1 (pInt (fBin gAdd (fB1 gLen (fName 2)) (fC (.int 1))))) (.nm 3) (sFor (iSeq (fCall phi__law_files (aCons (fBin gIx (fName 0) (fC (.int 0))) (aCons (fName 3) aNil)))) (.nm 4) (sSeq (sUnp (.tp [5, 6, 7]) (fCall phi__law_reading (aCons (fName 0) (aCons (fName 4) aNil))))
    (sIf (fAnd (fTest (fBin (gIs false) (fName 7) (fC .non))) (fTest (fBin (gEq false) (fName 5) (fName 1)))) (sRet (fBin (gEq false) (fName 4) (fName 2))) sSkip))))
    (sRet (fC (.bl false))))
def phi__law_is_least : F0 := phi0 3 8 g__law_is_least
theorem e__law_is_least : ∀ ds r, phi__law_is_least ds = some r → ds.length = 3 ∧ run0 8 g__law_is_least ds = some r := fun _ _ h => phi_run h
theorem n__law_is_least : ∀ ds r, phi__law_is_least ds = some r → ds.length = 3 := fun ds r h => (e__law_is_least ds r h).1
-- slots of _law_put: form_here content_here base found tag_here body_here size signs_here ends mark row
def g__law_put : FS :=
  (sSeq (sPar [(2, false), (3, true)] (aCons (fBin gIx (fName 0) (fC (.int 0))) (aCons (fLc (iSeq (fBin gIx (fName 0) (fC (.int 1)))) (.nm 9) fYes (fIf (fTest (fBin (gIs false) (fName 9) (fC .non))) (fC (.int 0)) (fName 9)) [9]) aNil)))
    (sSeq (sFor (iSeq (fName 1)) (.tp [4, 5]) (sSeq (sSet 6 (fB1 gLen (fName 5)))
    (sSeq (sSet 7 (fDct ["one", "high", "low"] (aCons (fLst (aCons (fName 6) aNil)) (aCons (fLst (aCons (fBin gDiv (fName 6) (fName 2)) (aCons (fBin gMod (fB1 gInt (fName 6)) (fName 2)) aNil))) (aCons (fLst (aCons (fBin gMod (fB1 gInt (fName 6)) (fName 2)) (aCons (fBin gDiv (fName 6) (fName 2)) aNil))) aNil)))))
    (sSeq (sOwn 3 (fBin gAdd (fBin gAdd (fBin gAdd (fName 3) (fLst (aCons (fName 4) aNil))) (fBin gDx (fName 7) (fBin gIx (fName 0) (fC (.int 2))))) (fB1 gList (fName 5))))
    (sIf (fTest (fBin (gEq false) (fCall phi__law_use (aCons (fName 0) (aCons (fName 4) aNil))) (fC (.str "check")))) (sApp 3 (fBin gMod (fB1 gInt (fB1 gSum (fB1 gList (fName 5)))) (fName 2))) sSkip)))))
    (sSeq (sSet 8 (fLc (iSeq (fBin gIx (fName 0) (fC (.int 4)))) (.nm 10) (fTest (fBin (gIn false) (fBin gIx (fName 10) (fC (.int 1))) (fTup (aCons (fC (.str "end")) (aCons (fC (.str "stop")) aNil))))) (fBin gIx (fName 10) (fC (.int 0))) [10]))
    (sRet (fB1 gTuple (fBin gAdd (fName 3) (fSl (fName 8) pNo (pInt (fC (.int 1))))))))))
def phi__law_put : F0 := phi0 2 11 g__law_put
theorem e__law_put : ∀ ds r, phi__law_put ds = some r → ds.length = 2 ∧ run0 11 g__law_put ds = some r := fun _ _ h => phi_run h
theorem n__law_put : ∀ ds r, phi__law_put ds = some r → ds.length = 2 := fun ds r h => (e__law_put ds r h).1
-- slots of _length_signs: form length high low
def g__length_signs : FS :=
  (sSeq (sIf (fTest (fBin (gEq false) (fBin gIx (fName 0) (fC dc_WIDTH)) (fC (.str "one")))) (sRet (fLst (aCons (fName 1) aNil))) sSkip)
    (sSeq (sSet 2 (fBin gDiv (fName 1) (fBin gIx (fName 0) (fC dc_BASE))))
    (sSeq (sSet 3 (fBin gMod (fName 1) (fBin gIx (fName 0) (fC dc_BASE))))
    (sRet (fIf (fTest (fBin (gEq false) (fBin gIx (fName 0) (fC dc_WIDTH)) (fC (.str "high")))) (fLst (aCons (fName 2) (aCons (fName 3) aNil))) (fLst (aCons (fName 3) (aCons (fName 2) aNil))))))))
def phi__length_signs : F0 := phi0 2 4 g__length_signs
theorem e__length_signs : ∀ ds r, phi__length_signs ds = some r → ds.length = 2 ∧ run0 4 g__length_signs ds = some r := fun _ _ h => phi_run h
theorem n__length_signs : ∀ ds r, phi__length_signs ds = some r → ds.length = 2 := fun ds r h => (e__length_signs ds r h).1
-- slots of _chunk_signs: form tag body check
def g__chunk_signs : FS :=
  (sSeq (sSet 3 (fIf (fTest (fBin (gEq false) (fCall phi_use_of (aCons (fName 0) (aCons (fName 1) aNil))) (fC (.str "check")))) (fLst (aCons (fBin gMod (fB1 gSum (fName 2)) (fBin gIx (fName 0) (fC dc_BASE))) aNil)) (fLst aNil)))
    (sRet (fBin gAdd (fBin gAdd (fBin gAdd (fLst (aCons (fName 1) aNil)) (fCall phi__length_signs (aCons (fName 0) (aCons (fB1 gLen (fName 2)) aNil)))) (fB1 gList (fName 2))) (fName 3))))
def phi__chunk_signs : F0 := phi0 3 4 g__chunk_signs
theorem e__chunk_signs : ∀ ds r, phi__chunk_signs ds = some r → ds.length = 3 ∧ run0 4 g__chunk_signs ds = some r := fun _ _ h => phi_run h
theorem n__chunk_signs : ∀ ds r, phi__chunk_signs ds = some r → ds.length = 3 := fun ds r h => (e__chunk_signs ds r h).1
-- slots of _greatest_length: form base written
def g__greatest_length : FS :=
  (sSeq (sSet 1 (fBin gIx (fName 0) (fC dc_BASE)))
    (sSeq (sSet 2 (fIf (fTest (fBin (gEq false) (fBin gIx (fName 0) (fC dc_WIDTH)) (fC (.str "one")))) (fBin gSub (fName 1) (fC (.int 1))) (fBin gSub (fBin gMul (fName 1) (fName 1)) (fC (.int 1)))))
    (sRet (fBin gMin (fBin gIx (fName 0) (fC dc_MOST)) (fName 2)))))
def phi__greatest_length : F0 := phi0 1 3 g__greatest_length
theorem e__greatest_length : ∀ ds r, phi__greatest_length ds = some r → ds.length = 1 ∧ run0 3 g__greatest_length ds = some r := fun _ _ h => phi_run h
theorem n__greatest_length : ∀ ds r, phi__greatest_length ds = some r → ds.length = 1 := fun ds r h => (e__greatest_length ds r h).1
-- slots of _is_chunk: form value tag body
def g__is_chunk : FS :=
  (sSeq (sIf (fOr (fNot (fTest (fBin gIsi (fName 1) (fC (.op (.ty "tuple")))))) (fTest (fBin (gEq true) (fB1 gLen (fName 1)) (fC (.int 2))))) (sRet (fC (.bl false))) sSkip)
    (sSeq (sUnp (.tp [2, 3]) (fName 1))
    (sSeq (sIf (fOr (fNot (fTest (fCall phi_is_sign (aCons (fName 2) (aCons (fBin gIx (fName 0) (fC dc_BASE)) aNil))))) (fTest (fBin (gIn true) (fCall phi_use_of (aCons (fName 0) (aCons (fName 2) aNil))) (fC dc_TOLD_USES)))) (sRet (fC (.bl false))) sSkip)
    (sRet (fAndV (fCall phi_are_signs (aCons (fName 3) (aCons (fBin gIx (fName 0) (fC dc_BASE)) aNil))) (fBin (gCmp fun i j => decide (i ≤ j)) (fB1 gLen (fName 3)) (fCall phi__greatest_length (aCons (fName 0) aNil))))))))
def phi__is_chunk : F0 := phi0 2 4 g__is_chunk
theorem e__is_chunk : ∀ ds r, phi__is_chunk ds = some r → ds.length = 2 ∧ run0 4 g__is_chunk ds = some r := fun _ _ h => phi_run h
theorem n__is_chunk : ∀ ds r, phi__is_chunk ds = some r → ds.length = 2 := fun ds r h => (e__is_chunk ds r h).1
-- slots of is_content: form value chunk
def g_is_content : FS :=
  (sSeq (sDrop (fCall phi_check_format (aCons (fName 0) aNil)))
    (sRet (fAndV (fBin gIsi (fName 1) (fC (.op (.ty "tuple")))) (fB1 gAll (fLc (iSeq (fName 1)) (.nm 2) fYes (fCall phi__is_chunk (aCons (fName 0) (aCons (fName 2) aNil))) [2])))))
def phi_is_content : F0 := phi0 2 3 g_is_content
theorem e_is_content : ∀ ds r, phi_is_content ds = some r → ds.length = 2 ∧ run0 3 g_is_content ds = some r := fun _ _ h => phi_run h
theorem n_is_content : ∀ ds r, phi_is_content ds = some r → ds.length = 2 := fun ds r h => (e_is_content ds r h).1
-- slots of check_content: form content
def g_check_content : FS :=
  (sIf (fNot (fTest (fCall phi_is_content (aCons (fName 0) (aCons (fName 1) aNil))))) sStuck sSkip)
def phi_check_content : F0 := phi0 2 2 g_check_content
theorem e_check_content : ∀ ds r, phi_check_content ds = some r → ds.length = 2 ∧ run0 2 g_check_content ds = some r := fun _ _ h => phi_run h
theorem n_check_content : ∀ ds r, phi_check_content ds = some r → ds.length = 2 := fun ds r h => (e_check_content ds r h).1
-- slots of write: form content signs tag body last mark
def g_write : FS :=
  (sSeq (sDrop (fCall phi_check_content (aCons (fName 0) (aCons (fName 1) aNil))))
    (sSeq (sOwn 2 (fLc (iSeq (fBin gIx (fName 0) (fC dc_HEAD))) (.nm 6) fYes (fIf (fTest (fBin (gIs false) (fName 6) (fC .non))) (fC (.int 0)) (fName 6)) [6]))
    (sSeq (sFor (iSeq (fName 1)) (.tp [3, 4]) (sExt 2 (fCall phi__chunk_signs (aCons (fName 0) (aCons (fName 3) (aCons (fName 4) aNil))))))
    (sSeq (sSet 5 (fCall phi_end_tag (aCons (fName 0) aNil)))
    (sSeq (sIf (fTest (fBin (gIs true) (fName 5) (fC .non))) (sApp 2 (fName 5)) sSkip)
    (sRet (fB1 gTuple (fName 2))))))))
def phi_write : F0 := phi0 2 7 g_write
theorem e_write : ∀ ds r, phi_write ds = some r → ds.length = 2 ∧ run0 7 g_write ds = some r := fun _ _ h => phi_run h
theorem n_write : ∀ ds r, phi_write ds = some r → ds.length = 2 := fun ds r h => (e_write ds r h).1
-- slots of law: script at bag turn form_here content_here due made base size wide use_here row b k
def g_law_11 : FS :=
  (sSeq (sFor (iRg1 (pInt (fBin gMax (fC (.int 1)) (fBin gMin (fC (.int 5)) (fB1 gLen (fName 0)))))) (.nm 1) (sSeq (sOwn 2 (fCall phi__law_bag (aCons (fName 0) (aCons (fName 1) aNil))))
    (sSeq (sFor (iRg1 (pInt (fC (.int 5)))) (.nm 3) (sSeq (sSet 4 (fCall1 phi__law_wide_form (aCons (fName 2) aNil)))
    (sSeq (sSet 5 (fCall1 phi__law_content (aCons (fName 2) (aCons (fName 4) (aCons (fBin gIx (fLst (aCons (fC (.int 8)) (aCons (fC (.int 20)) aNil))) (fB1 gInt (fBin (gEq false) (fName 3) (fC (.int 4))))) (aCons (fBin gIx (fLst (aCons (fC (.int 3)) (aCons (fC (.int 20)) aNil))) (fCall1 phi__law_grab (aCons (fName 2) (aCons (fC (.int 2)) aNil)))) aNil))))))
    (sSeq (sSet 6 (fCall phi__law_put (aCons (fName 4) (aCons (fName 5) aNil))))
    (sSeq (sSet 7 (fLst (aCons (fCall phi_write (aCons (fName 4) (aCons (fName 5) aNil))) (aCons (fCall phi_write (aRev (aCons (fName 5) (aCons (fName 4) aNil)))) aNil))))
    (sSeq (sIf (fNot (fTest (fCall phi__law_equal (aCons (fName 7) (aCons (fLst (aCons (fName 6) (aCons (fName 6) aNil))) aNil))))) (sRet (fC (.bl false))) sSkip)
    (sIf (fNot (fTest (fCall phi__law_equal (aCons (fCall phi_read (aCons (fName 4) (aCons (fName 6) aNil))) (aCons (fName 5) aNil))))) (sRet (fC (.bl false))) sSkip)))))))
    (sSeq (sUnp (.tp [8, 9]) (fTup (aCons (fBin gIx (fLst (aCons (fC (.int 16)) (aCons (fC (.int 32)) (aCons (fC (.int 255)) (aCons (fC (.int 256)) aNil))))) (fCall1 phi__law_grab (aCons (fName 2) (aCons (fC (.int 4)) aNil)))) (aCons (fBin gAdd (fC (.int 200)) (fCall1 phi__law_grab (aCons (fName 2) (aCons (fC (.int 500)) aNil)))) aNil))))
    (sSeq (sPar [(10, false), (11, false)] (aCons (fBin gIx (fLst (aCons (fC (.str "high")) (aCons (fC (.str "low")) aNil))) (fCall1 phi__law_grab (aCons (fName 2) (aCons (fC (.int 2)) aNil)))) (aCons (fBin gIx (fLst (aCons (fC (.str "keep")) (aCons (fC (.str "check")) aNil))) (fCall1 phi__law_grab (aCons (fName 2) (aCons (fC (.int 2)) aNil)))) aNil)))
    (sSeq (sSet 4 (fTup (aCons (fName 8) (aCons (fTup (aCons (fC .non) (aCons (fC (.int 3)) aNil))) (aCons (fName 10) (aCons (fC (.int 65535)) (aCons (fTup (aCons (fTup (aCons (fC (.int 2)) (aCons (fName 11) aNil))) aNil)) (aCons (fC (.str "refuse")) aNil))))))))
    (sSeq (sSet 5 (fTup (aCons (fTup (aCons (fC (.int 2)) (aCons (fB1 gTuple (fLc (iRg1 (pInt (fBin gMin (fName 9) (fBin gSub (fBin gMul (fName 8) (fName 8)) (fC (.int 1)))))) (.nm 14) fYes (fCall1 phi__law_grab (aCons (fName 2) (aCons (fName 8) aNil))) [14])) aNil))) (aCons (fTup (aCons (fC (.int 2)) (aCons (fTup aNil) aNil))) aNil))))
    (sSeq (sSet 12 (fCall phi_write (aCons (fName 4) (aCons (fName 5) aNil))))
    (sSeq (sIf (fNot (fTest (fCall phi__law_equal (aCons (fLst (aCons (fName 12) (aCons (fCall phi_read (aCons (fName 4) (aCons (fName 12) aNil))) aNil))) (aCons (fLst (aCons (fCall phi__law_put (aCons (fName 4) (aCons (fName 5) aNil))) (aCons (fName 5) aNil))) aNil))))) (sRet (fC (.bl false))) sSkip)
    (sSeq (sSet 4 (fCall1 phi__law_drawn_form (aCons (fName 2) (aCons (fBin gIx (fLst (aCons (fC (.int 2)) (aCons (fC (.int 3)) aNil))) (fCall1 phi__law_grab (aCons (fName 2) (aCons (fC (.int 2)) aNil)))) (aCons (fC (.int 2)) (aCons (fC (.int 2)) (aCons (fC (.int 3)) aNil)))))))
    (sSeq (sSet 5 (fCall1 phi__law_content (aCons (fName 2) (aCons (fName 4) (aCons (fC (.int 1)) (aCons (fC (.int 2)) aNil))))))
    (sSeq (sSet 12 (fCall phi_write (aCons (fName 4) (aCons (fName 5) aNil))))
    (sIf (fAnd (fTest (fBin (gCmp fun i j => decide (i < j)) (fB1 gLen (fName 12)) (fBin gIx (fLst (aCons (fC (.int 0)) (aCons (fC (.int 0)) (aCons (fC (.int 10)) (aCons (fC (.int 7)) aNil))))) (fBin gIx (fName 4) (fC (.int 0)))))) (fNot (fTest (fCall phi__law_is_least (aCons (fName 4) (aCons (fName 5) (aCons (fName 12) aNil))))))) (sRet (fC (.bl false))) sSkip)))))))))))))
    (sSeq (sSet 13 (fTup (aCons (fC (.int 4)) (aCons (fTup (aCons (fC .non) (aCons (fC (.int 2)) aNil))) (aCons (fC (.str "one")) (aCons (fC (.int 2)) (aCons (fTup (aCons (fTup (aCons (fC (.int 0)) (aCons (fC (.str "end")) aNil))) (aCons (fTup (aCons (fC (.int 1)) (aCons (fC (.str "check")) aNil))) (aCons (fTup (aCons (fC (.int 3)) (aCons (fC (.str "keep")) aNil))) aNil)))) (aCons (fC (.str "refuse")) aNil))))))))
    (sRet (fBin (gEq false) (fCall phi_write (aCons (fName 13) (aCons (fTup (aCons (fTup (aCons (fC (.int 1)) (aCons (fTup (aCons (fC (.int 3)) (aCons (fC (.int 1)) aNil))) aNil))) (aCons (fTup (aCons (fC (.int 3)) (aCons (fTup aNil) aNil))) aNil))) aNil))) (fTup (aCons (fC (.int 0)) (aCons (fC (.int 2)) (aCons (fC (.int 1)) (aCons (fC (.int 2)) (aCons (fC (.int 3)) (aCons (fC (.int 1)) (aCons (fC (.int 0)) (aCons (fC (.int 3)) (aCons (fC (.int 0)) (aCons (fC (.int 0)) aNil)))))))))))))))
def phi_law_11 : F0 := phi0 1 15 g_law_11
theorem e_law_11 : ∀ ds r, phi_law_11 ds = some r → ds.length = 1 ∧ run0 15 g_law_11 ds = some r := fun _ _ h => phi_run h
theorem n_law_11 : ∀ ds r, phi_law_11 ds = some r → ds.length = 1 := fun ds r h => (e_law_11 ds r h).1
end
end Dv

set_option Elab.async false
set_option linter.all false
set_option maxRecDepth 100000
set_option maxHeartbeats 4000000
namespace Dv
open PySem PySem.Spec PyProof.Rows L2
theorem wt : (Str.ofString "keep" ≠ Str.ofString "check") ∧ (Str.ofString "keep" ≠ Str.ofString "skip") ∧ (Str.ofString "keep" ≠ Str.ofString "end") ∧ (Str.ofString "keep" ≠ Str.ofString "stop") ∧ (Str.ofString "keep" ≠ Str.ofString "refuse") ∧ (Str.ofString "keep" ≠ Str.ofString "") ∧ (Str.ofString "check" ≠ Str.ofString "keep") ∧ (Str.ofString "check" ≠ Str.ofString "skip") ∧ (Str.ofString "check" ≠ Str.ofString "end") ∧ (Str.ofString "check" ≠ Str.ofString "stop") ∧ (Str.ofString "check" ≠ Str.ofString "refuse") ∧ (Str.ofString "check" ≠ Str.ofString "") ∧ (Str.ofString "skip" ≠ Str.ofString "keep") ∧ (Str.ofString "skip" ≠ Str.ofString "check") ∧ (Str.ofString "skip" ≠ Str.ofString "end") ∧ (Str.ofString "skip" ≠ Str.ofString "stop") ∧ (Str.ofString "skip" ≠ Str.ofString "refuse") ∧ (Str.ofString "skip" ≠ Str.ofString "") ∧ (Str.ofString "end" ≠ Str.ofString "keep") ∧ (Str.ofString "end" ≠ Str.ofString "check") ∧ (Str.ofString "end" ≠ Str.ofString "skip") ∧ (Str.ofString "end" ≠ Str.ofString "stop") ∧ (Str.ofString "end" ≠ Str.ofString "refuse") ∧ (Str.ofString "end" ≠ Str.ofString "") ∧ (Str.ofString "stop" ≠ Str.ofString "keep") ∧ (Str.ofString "stop" ≠ Str.ofString "check") ∧ (Str.ofString "stop" ≠ Str.ofString "skip") ∧ (Str.ofString "stop" ≠ Str.ofString "end") ∧ (Str.ofString "stop" ≠ Str.ofString "refuse") ∧ (Str.ofString "stop" ≠ Str.ofString "") ∧ (Str.ofString "refuse" ≠ Str.ofString "keep") ∧ (Str.ofString "refuse" ≠ Str.ofString "check") ∧ (Str.ofString "refuse" ≠ Str.ofString "skip") ∧ (Str.ofString "refuse" ≠ Str.ofString "end") ∧ (Str.ofString "refuse" ≠ Str.ofString "stop") ∧ (Str.ofString "refuse" ≠ Str.ofString "") ∧ (Str.ofString "" ≠ Str.ofString "keep") ∧ (Str.ofString "" ≠ Str.ofString "check") ∧ (Str.ofString "" ≠ Str.ofString "skip") ∧ (Str.ofString "" ≠ Str.ofString "end") ∧ (Str.ofString "" ≠ Str.ofString "stop") ∧ (Str.ofString "" ≠ Str.ofString "refuse") ∧ (Str.ofString "one" ≠ Str.ofString "high") ∧ (Str.ofString "one" ≠ Str.ofString "low") ∧ (Str.ofString "high" ≠ Str.ofString "one") ∧ (Str.ofString "high" ≠ Str.ofString "low") ∧ (Str.ofString "low" ≠ Str.ofString "one") ∧ (Str.ofString "low" ≠ Str.ofString "high") ∧ (Str.ofString "head" ≠ Str.ofString "tag") ∧ (Str.ofString "head" ≠ Str.ofString "length") ∧ (Str.ofString "head" ≠ Str.ofString "second") ∧ (Str.ofString "head" ≠ Str.ofString "body") ∧ (Str.ofString "head" ≠ Str.ofString "sum") ∧ (Str.ofString "head" ≠ Str.ofString "room") ∧ (Str.ofString "head" ≠ Str.ofString "over") ∧ (Str.ofString "tag" ≠ Str.ofString "head") ∧ (Str.ofString "tag" ≠ Str.ofString "length") ∧ (Str.ofString "tag" ≠ Str.ofString "second") ∧ (Str.ofString "tag" ≠ Str.ofString "body") ∧ (Str.ofString "tag" ≠ Str.ofString "sum") ∧ (Str.ofString "tag" ≠ Str.ofString "room") ∧ (Str.ofString "tag" ≠ Str.ofString "over") ∧ (Str.ofString "length" ≠ Str.ofString "head") ∧ (Str.ofString "length" ≠ Str.ofString "tag") ∧ (Str.ofString "length" ≠ Str.ofString "second") ∧ (Str.ofString "length" ≠ Str.ofString "body") ∧ (Str.ofString "length" ≠ Str.ofString "sum") ∧ (Str.ofString "length" ≠ Str.ofString "room") ∧ (Str.ofString "length" ≠ Str.ofString "over") ∧ (Str.ofString "second" ≠ Str.ofString "head") ∧ (Str.ofString "second" ≠ Str.ofString "tag") ∧ (Str.ofString "second" ≠ Str.ofString "length") ∧ (Str.ofString "second" ≠ Str.ofString "body") ∧ (Str.ofString "second" ≠ Str.ofString "sum") ∧ (Str.ofString "second" ≠ Str.ofString "room") ∧ (Str.ofString "second" ≠ Str.ofString "over") ∧ (Str.ofString "body" ≠ Str.ofString "head") ∧ (Str.ofString "body" ≠ Str.ofString "tag") ∧ (Str.ofString "body" ≠ Str.ofString "length") ∧ (Str.ofString "body" ≠ Str.ofString "second") ∧ (Str.ofString "body" ≠ Str.ofString "sum") ∧ (Str.ofString "body" ≠ Str.ofString "room") ∧ (Str.ofString "body" ≠ Str.ofString "over") ∧ (Str.ofString "sum" ≠ Str.ofString "head") ∧ (Str.ofString "sum" ≠ Str.ofString "tag") ∧ (Str.ofString "sum" ≠ Str.ofString "length") ∧ (Str.ofString "sum" ≠ Str.ofString "second") ∧ (Str.ofString "sum" ≠ Str.ofString "body") ∧ (Str.ofString "sum" ≠ Str.ofString "room") ∧ (Str.ofString "sum" ≠ Str.ofString "over") ∧ (Str.ofString "room" ≠ Str.ofString "head") ∧ (Str.ofString "room" ≠ Str.ofString "tag") ∧ (Str.ofString "room" ≠ Str.ofString "length") ∧ (Str.ofString "room" ≠ Str.ofString "second") ∧ (Str.ofString "room" ≠ Str.ofString "body") ∧ (Str.ofString "room" ≠ Str.ofString "sum") ∧ (Str.ofString "room" ≠ Str.ofString "over") ∧ (Str.ofString "over" ≠ Str.ofString "head") ∧ (Str.ofString "over" ≠ Str.ofString "tag") ∧ (Str.ofString "over" ≠ Str.ofString "length") ∧ (Str.ofString "over" ≠ Str.ofString "second") ∧ (Str.ofString "over" ≠ Str.ofString "body") ∧ (Str.ofString "over" ≠ Str.ofString "sum") ∧ (Str.ofString "over" ≠ Str.ofString "room") ∧ (Str.ofString "head" ≠ Str.ofString "check") ∧ (Str.ofString "head" ≠ Str.ofString "behind") ∧ (Str.ofString "head" ≠ Str.ofString "short") ∧ (Str.ofString "tag" ≠ Str.ofString "check") ∧ (Str.ofString "tag" ≠ Str.ofString "behind") ∧ (Str.ofString "tag" ≠ Str.ofString "short") ∧ (Str.ofString "length" ≠ Str.ofString "check") ∧ (Str.ofString "length" ≠ Str.ofString "behind") ∧ (Str.ofString "length" ≠ Str.ofString "short") ∧ (Str.ofString "check" ≠ Str.ofString "head") ∧ (Str.ofString "check" ≠ Str.ofString "tag") ∧ (Str.ofString "check" ≠ Str.ofString "length") ∧ (Str.ofString "check" ≠ Str.ofString "behind") ∧ (Str.ofString "check" ≠ Str.ofString "short") ∧ (Str.ofString "behind" ≠ Str.ofString "head") ∧ (Str.ofString "behind" ≠ Str.ofString "tag") ∧ (Str.ofString "behind" ≠ Str.ofString "length") ∧ (Str.ofString "behind" ≠ Str.ofString "check") ∧ (Str.ofString "behind" ≠ Str.ofString "short") ∧ (Str.ofString "short" ≠ Str.ofString "head") ∧ (Str.ofString "short" ≠ Str.ofString "tag") ∧ (Str.ofString "short" ≠ Str.ofString "length") ∧ (Str.ofString "short" ≠ Str.ofString "check") ∧ (Str.ofString "short" ≠ Str.ofString "behind") := ⟨by decide +kernel, by decide +kernel, by decide +kernel, by decide +kernel, by decide +kernel, by decide +kernel, by decide +kernel, by decide +kernel, by decide +kernel, by decide +kernel, by decide +kernel, by decide +kernel, by decide +kernel, by decide +kernel, by decide +kernel, by decide +kernel, by decide +kernel, by decide +kernel, by decide +kernel, by decide +kernel, by decide +kernel, by decide +kernel, by decide +kernel, by decide +kernel, by decide +kernel, by decide +kernel, by decide +kernel, by decide +kernel, by decide +kernel, by decide +kernel, by decide +kernel, by decide +kernel, by decide +kernel, by decide +kernel, by decide +kernel, by decide +kernel, by decide +kernel, by decide +kernel, by decide +kernel, by decide +kernel, by decide +kernel, by decide +kernel, by decide +kernel, by decide +kernel, by decide +kernel, by decide +kernel, by decide +kernel, by decide +kernel, by decide +kernel, by decide +kernel, by decide +kernel, by decide +kernel, by decide +kernel, by decide +kernel, by decide +kernel, by decide +kernel, by decide +kernel, by decide +kernel, by decide +kernel, by decide +kernel, by decide +kernel, by decide +kernel, by decide +kernel, by decide +kernel, by decide +kernel, by decide +kernel, by decide +kernel, by decide +kernel, by decide +kernel, by decide +kernel, by decide +kernel, by decide +kernel, by decide +kernel, by decide +kernel, by decide +kernel, by decide +kernel, by decide +kernel, by decide +kernel, by decide +kernel, by decide +kernel, by decide +kernel, by decide +kernel, by decide +kernel, by decide +kernel, by decide +kernel, by decide +kernel, by decide +kernel, by decide +kernel, by decide +kernel, by decide +kernel, by decide +kernel, by decide +kernel, by decide +kernel, by decide +kernel, by decide +kernel, by decide +kernel, by decide +kernel, by decide +kernel, by decide +kernel, by decide +kernel, by decide +kernel, by decide +kernel, by decide +kernel, by decide +kernel, by decide +kernel, by decide +kernel, by decide +kernel, by decide +kernel, by decide +kernel, by decide +kernel, by decide +kernel, by decide +kernel, by decide +kernel, by decide +kernel, by decide +kernel, by decide +kernel, by decide +kernel, by decide +kernel, by decide +kernel, by decide +kernel, by decide +kernel, by decide +kernel, by decide +kernel, by decide +kernel, by decide +kernel, by decide +kernel, by decide +kernel, by decide +kernel⟩

theorem gIn_t {n : Bool} {x : D} {ds : List D} (h : flatD x = true ∧ ds.all flatD = true) : gIn n x (.tup ds) = some (.d (.bl ((ds.any fun y => eqF y x) != n))) := if_pos h
theorem eqF_s {a b : Str} : eqF (.str a) (.str b) = decide (a = b) := by
  show (a == b) = decide (a = b)
  exact Bool.beq_eq_decide_eq a b
theorem eqF_i {a b : Int} : eqF (.int a) (.int b) = decide (a = b) := by
  show (a == b) = decide (a = b)
  exact Bool.beq_eq_decide_eq a b
theorem eqF_n {b : Int} : eqF .non (.int b) = false := rfl
def isiB (n : String) (t : String) : Bool := if n = "int" then t == "int" || t == "bool" else t == n
theorem gIsi_i : gIsi (.int a) (.op (.ty "int")) = some (.d (.bl true)) ∧ gIsi (.int a) (.op (.ty "bool")) = some (.d (.bl false)) ∧ gIsi (.int a) (.op (.ty "list")) = some (.d (.bl false)) ∧ gIsi (.int a) (.op (.ty "tuple")) = some (.d (.bl false)) ∧ gIsi (.int a) (.op (.ty "str")) = some (.d (.bl false)) := ⟨rfl, rfl, rfl, rfl, rfl⟩
theorem gIsi_b : gIsi (.bl a) (.op (.ty "int")) = some (.d (.bl true)) ∧ gIsi (.bl a) (.op (.ty "bool")) = some (.d (.bl true)) ∧ gIsi (.bl a) (.op (.ty "list")) = some (.d (.bl false)) ∧ gIsi (.bl a) (.op (.ty "tuple")) = some (.d (.bl false)) ∧ gIsi (.bl a) (.op (.ty "str")) = some (.d (.bl false)) := ⟨rfl, rfl, rfl, rfl, rfl⟩
theorem gIsi_t : gIsi (.tup a) (.op (.ty "int")) = some (.d (.bl false)) ∧ gIsi (.tup a) (.op (.ty "bool")) = some (.d (.bl false)) ∧ gIsi (.tup a) (.op (.ty "list")) = some (.d (.bl false)) ∧ gIsi (.tup a) (.op (.ty "tuple")) = some (.d (.bl true)) ∧ gIsi (.tup a) (.op (.ty "str")) = some (.d (.bl false)) := ⟨rfl, rfl, rfl, rfl, rfl⟩
theorem gIsi_s : gIsi (.str a) (.op (.ty "int")) = some (.d (.bl false)) ∧ gIsi (.str a) (.op (.ty "bool")) = some (.d (.bl false)) ∧ gIsi (.str a) (.op (.ty "list")) = some (.d (.bl false)) ∧ gIsi (.str a) (.op (.ty "tuple")) = some (.d (.bl false)) ∧ gIsi (.str a) (.op (.ty "str")) = some (.d (.bl true)) := ⟨rfl, rfl, rfl, rfl, rfl⟩
theorem gIsi_n : gIsi .non (.op (.ty "int")) = some (.d (.bl false)) ∧ gIsi .non (.op (.ty "bool")) = some (.d (.bl false)) ∧ gIsi .non (.op (.ty "list")) = some (.d (.bl false)) ∧ gIsi .non (.op (.ty "tuple")) = some (.d (.bl false)) ∧ gIsi .non (.op (.ty "str")) = some (.d (.bl false)) := ⟨rfl, rfl, rfl, rfl, rfl⟩
theorem gIsi_l : gIsi (.lst a) (.op (.ty "int")) = some (.d (.bl false)) ∧ gIsi (.lst a) (.op (.ty "bool")) = some (.d (.bl false)) ∧ gIsi (.lst a) (.op (.ty "list")) = some (.d (.bl true)) ∧ gIsi (.lst a) (.op (.ty "tuple")) = some (.d (.bl false)) ∧ gIsi (.lst a) (.op (.ty "str")) = some (.d (.bl false)) := ⟨rfl, rfl, rfl, rfl, rfl⟩
theorem gIs_c {n : Bool} : gIs n .non .non = some (.d (.bl (true != n))) ∧ (∀ i, gIs n (.int i) .non = some (.d (.bl (false != n)))) ∧ (∀ i, gIs n (.str i) .non = some (.d (.bl (false != n)))) ∧ (∀ i, gIs n (.tup i) .non = some (.d (.bl (false != n)))) ∧ (∀ i, gIs n (.lst i) .non = some (.d (.bl (false != n)))) ∧ (∀ i, gIs n (.bl i) .non = some (.d (.bl (false != n)))) := by
  refine ⟨rfl, fun _ => rfl, fun _ => rfl, fun _ => rfl, fun _ => rfl, fun _ => rfl⟩
def mkD : Option Int → D | none => .non | some k => .int k
theorem mkD_n : mkD none = .non := rfl
theorem mkD_s {k : Int} : mkD (some k) = .int k := rfl
theorem nc_0 : ((0 : Nat) : Int) = 0 ∧ ((1 : Nat) : Int) = 1 ∧ ((2 : Nat) : Int) = 2 ∧ ((3 : Nat) : Int) = 3 ∧ ((4 : Nat) : Int) = 4 ∧ ((5 : Nat) : Int) = 5 ∧ ((6 : Nat) : Int) = 6 ∧ ((7 : Nat) : Int) = 7 := ⟨rfl, rfl, rfl, rfl, rfl, rfl, rfl, rfl⟩
theorem dcs : dc_BASE = .int 0 ∧ dc_HEAD = .int 1 ∧ dc_MOST = .int 3 ∧ dc_WIDTH = .int 2 ∧ dc_OTHERS = .int 5 ∧ dc_TAGS = .int 4 ∧ dc_TAG = .tup [.str "tag"] ∧ dc_OVER = .tup [.str "over"] ∧ dc_ROOM = .tup [.str "room"] := ⟨rfl, rfl, rfl, rfl, rfl, rfl, rfl, rfl, rfl⟩
theorem rg_len {lo : Int} {n : Nat} : (rgD lo n).length = n := by unfold rgD; simp
theorem kN1_i {j : Int} {ρ : Ev} (h : 0 ≤ j ∧ j ≤ 16777216) : kN1 (some (some j, ρ)) = some (rgD 0 j.toNat, ρ) := kN1_s (by omega)
theorem kN1_u {n : Nat} {ρ : Ev} (h : n ≤ 16777216) : kN1 (some (some (n : Int), ρ)) = some (rgD 0 n, ρ) := kN1_s (by omega)
theorem kN3_u {n : Nat} {ρ : Ev} (h : n ≤ 16777216) : kN3 (some 1) (some (some (n : Int), ρ)) = some (rgD 1 ((n : Int) - 1).toNat, ρ) := kN3_s (by omega)
/-! ### the package's own sides -/
inductive Wd | one | high | low
def Wd.s : Wd → D | .one => .str "one" | .high => .str "high" | .low => .str "low"
inductive Us | keep | check | skip | fin | stop
def Us.s : Us → D | .keep => .str "keep" | .check => .str "check" | .skip => .str "skip" | .fin => .str "end" | .stop => .str "stop"
inductive Ot | skip | refuse
def Ot.s : Ot → D | .skip => .str "skip" | .refuse => .str "refuse"
structure Frm where
  base : Int
  head : List (Option Int)
  width : Wd
  most : Int
  tags : List (Int × Us)
  others : Ot
def tgD (t : Int × Us) : D := .tup [.int t.1, t.2.s]
def Frm.d (f : Frm) : D := .tup [.int f.base, .tup (f.head.map mkD), f.width.s, .int f.most, .tup (f.tags.map tgD), f.others.s]
structure Frm.Ok (f : Frm) : Prop where
  b0 : 2 ≤ f.base
  b1 : f.base ≤ 256
  hd : ∀ k, some k ∈ f.head → 0 ≤ k ∧ k < f.base
  hl : f.head.length ≤ 1000
  m0 : 0 ≤ f.most
  m1 : f.most ≤ 65535
  tg : ∀ t ∈ f.tags, 0 ≤ t.1 ∧ t.1 < f.base
  as : f.tags.Pairwise fun a b => a.1 < b.1
  tl : f.tags.length ≤ 1000
def fileD (xs : List Int) : D := .tup (xs.map D.int)
theorem fd_ix {f : Frm} {i : Int} : gIx f.d (.int i) = kIx (atI [.int f.base, .tup (f.head.map mkD), f.width.s, .int f.most, .tup (f.tags.map tgD), f.others.s] i) := rfl
theorem fi_ix {xs : List Int} {i : Int} : gIx (fileD xs) (.int i) = kIx (atI (xs.map D.int) i) := rfl
theorem fi_len {xs : List Int} : gLen (fileD xs) = some (.d (.int xs.length)) := by unfold fileD; rw [gLen_t, List.length_map]
theorem fi_it {xs : List Int} {ρ : Ev} : kI2 (some (fileD xs, ρ)) = some (xs.map D.int, ρ) := rfl
local macro_rules | `(tactic| walk_at "ev") => `(tactic| simp only [kRet_s, ev_name, ev_c, nm_val, nm_own, nm_bor, der_d, der_nw, der_sl, sl_own, sl_bor, sl_val, ev_bin, kBin_s, kBin2_s, kBin3_s, kBin4_s, ev_b1, kOne_s, kOne2_s, kRetD_s, ev_un, kUn1_s, kUn12_s, gNeg_i, ev_test, kTst_s, ev_and, ev_or, ev_not, kAnd_t, kAnd_f, kOr_t, kOr_f, kNot_s, ev_notV, kBl_s, ev_andV, ev_orV, kAndV_t, kAndV_f, kOrV_t, kOrV_f, ev_if, kIfE_t, kIfE_f, ev_yes, ev_ch, kCh_s, kCh2_s, kCh3_s, kCh4_s, kCh5_t, kCh5_f, ev_nil, ev_cons, kC1_s, kC2_s, ev_rev, kRv_s, escs_nil, escs_cons, kX1_s, kX2_s, esc_d, esc_nw, esc_sl, escS_own, escS_val, ev_tup, kT1_s, kT2_s, ev_lst, kL1_s, kL2_s, ev_pno, ev_pzero, ev_pint, kPI_s, ev_sl, kS1_s, kS2_s, kS3_s, kS4_s, ev_lrg, kR1_s, kR2_s, ev_call, kF1_s, kF2_s, kF3_s, ders_nil, ders_cons, kD1_s, kD2_s, rt_d, rt_nw, ev_call1, kG1_s, kG2_s, kG3_s, kG4_s, ow_own, ow_bor, put_own, put_bor, ev_iseq, kI1_s, kI2_t, kI2_l, kI2_f, ev_irg1, kN1_u, kN1_i, ev_irg2, kN2_s, kN3_u, ev_lc, kV1_s, kV2_s, ev_seq, kSeq_n, kSeq_r, kSeq_b, kSeq_c, ev_skip, ev_break, ev_cont, ev_retN, ev_ret, kRt_s, ev_sif, kIf_t, kIf_f, ev_drop, kDr_s, ev_set, kSt_s, kSt2_s, ev_own, kOw_s, ev_unp, kUn_s, kUn2_s, kNx_s, bt_nm, bt_tp, sa_nil, sa_cons, ev_par, kPa_s, sp_nil, sp_own, sp_val, ev_app, kAp_s, kAp2_s, kAp3_s, kAp4_s, ev_sti, kSi_s, kSi2_s, kSi3_s, kSi4_s, kSi5_s, kSi6_s, ev_aug, kAg_s, kAg2_s, val_s, ev_for, kFo_s, loop_nil, loop_cons, kLp_s, kLp_n, kLp_c, kLp_b, kLp_r, ev_while, while_s, kWh_f, kWh_t, kWh_n, kWh_c, kWh_b, kWh_r, lc_nil, lc_cons, kLc1_s, kLc2_t, kLc2_f, kLc3_s, kLc4_s, run0_k, kE0_r, kE0_n, rtOf_d, rtOf_nw, rtOf_sl, rtS_own, run1_k, kE1_r, kE1_n, kE2_s, bor_s, gAdd_i, gAdd_l, gAdd_t, gSub_i, gMul_i, gMod_i, gDiv_i, gPow_i, gEq_i, gEq_s, gEq_b, gCmp_i, gIs_n, gInt_i, gInt_b, gMax_i, gMin_i, gAbs_i, gTup_t, gTup_l, gLen_t, gLen_l, gLen_f, gIx_t, gIx_l, gIx_f, kIx_s, at_0, at_1, at_2, at_3, at_4, at_5, gSl_t, gSl_l,
  List.map_cons, List.map_nil, List.cons_append, List.nil_append, List.append_nil, List.length_cons, List.length_nil, List.replicate_succ, List.replicate_zero, Nat.reduceSub, Nat.reduceAdd, List.getElem?_cons_zero, List.getElem?_cons_succ, List.getElem?_nil, List.set_cons_zero, List.set_cons_succ, List.set_nil, Nat.zero_add, Nat.add_zero,
  List.all_cons, List.all_nil, notSl, Bool.and_true, Bool.true_and, Bool.or_true, Bool.true_or, Bool.and_false, Bool.false_and, Bool.or_false, Bool.false_or, if_true, if_false, Bool.false_eq_true, reduceIte, Bool.not_true, Bool.not_false, Bool.bne_true, Bool.bne_false, decide_true, decide_false, wipeE, backE, backS, nc_0, List.length_map, rg_len, Nat.reduceLeDiff, fd_ix, fi_ix, fi_len, fi_it, dcs, eq_self, Int.reduceEq, Int.reduceLT, Int.reduceLE, Int.reduceAdd, Int.reduceSub, Int.reduceMul, Int.reduceToNat, gIs_c, mkD_n, mkD_s, items, and_true, true_and, and_self, bne_self_eq_false, wt, gIn_t, gIsi_i, gIsi_t, gIsi_s, gIsi_n, gIsi_b, flatD, eqF_s, eqF_i, eqF_n, List.any_cons, List.any_nil, Rt.o, Option.bind_some, phi0_s, phi1_s, List.reverse_cons, List.reverse_nil, decide_eq_true_eq, *])
theorem int_ok {i : Int} : phi_is_integer [.int i] = some (.d (.bl true)) := by
  unfold phi_is_integer g_is_integer
  walk_at "ev"
theorem int_non : phi_is_integer [.non] = some (.d (.bl false)) := by
  unfold phi_is_integer g_is_integer
  walk_at "ev"
theorem sign_ok {i b : Int} (h0 : 0 ≤ i) (h1 : i < b) : phi_is_sign [.int i, .int b] = some (.d (.bl true)) := by
  have e := int_ok (i := i)
  unfold phi_is_sign g_is_sign
  walk_at "ev"
theorem word_use (u : Us) : phi__is_word [u.s, dc_USES] = some (.d (.bl true)) := by
  unfold phi__is_word g__is_word dc_USES
  cases u <;> (unfold Us.s; walk_at "ev")
theorem word_wide (u : Wd) : phi__is_word [u.s, dc_WIDTHS] = some (.d (.bl true)) := by
  unfold phi__is_word g__is_word dc_WIDTHS
  cases u <;> (unfold Wd.s; walk_at "ev")
theorem word_other (u : Ot) : phi__is_word [u.s, .tup [.str "skip", .str "refuse"]] = some (.d (.bl true)) := by
  unfold phi__is_word g__is_word
  cases u <;> (unfold Ot.s; walk_at "ev")
end Dv

set_option Elab.async false
set_option linter.all false
set_option maxRecDepth 100000
set_option maxHeartbeats 4000000
namespace Dv
open PySem PySem.Spec PyProof.Rows L2
local macro_rules | `(tactic| walk_at "ev") => `(tactic| simp only [kRet_s, ev_name, ev_c, nm_val, nm_own, nm_bor, der_d, der_nw, der_sl, sl_own, sl_bor, sl_val, ev_bin, kBin_s, kBin2_s, kBin3_s, kBin4_s, ev_b1, kOne_s, kOne2_s, kRetD_s, ev_un, kUn1_s, kUn12_s, gNeg_i, ev_test, kTst_s, ev_and, ev_or, ev_not, kAnd_t, kAnd_f, kOr_t, kOr_f, kNot_s, ev_notV, kBl_s, ev_andV, ev_orV, kAndV_t, kAndV_f, kOrV_t, kOrV_f, ev_if, kIfE_t, kIfE_f, ev_yes, ev_ch, kCh_s, kCh2_s, kCh3_s, kCh4_s, kCh5_t, kCh5_f, ev_nil, ev_cons, kC1_s, kC2_s, ev_rev, kRv_s, escs_nil, escs_cons, kX1_s, kX2_s, esc_d, esc_nw, esc_sl, escS_own, escS_val, ev_tup, kT1_s, kT2_s, ev_lst, kL1_s, kL2_s, ev_pno, ev_pzero, ev_pint, kPI_s, ev_sl, kS1_s, kS2_s, kS3_s, kS4_s, ev_lrg, kR1_s, kR2_s, ev_call, kF1_s, kF2_s, kF3_s, ders_nil, ders_cons, kD1_s, kD2_s, rt_d, rt_nw, ev_call1, kG1_s, kG2_s, kG3_s, kG4_s, ow_own, ow_bor, put_own, put_bor, ev_iseq, kI1_s, kI2_t, kI2_l, kI2_f, ev_irg1, kN1_u, kN1_i, ev_irg2, kN2_s, kN3_u, ev_lc, kV1_s, kV2_s, ev_seq, kSeq_n, kSeq_r, kSeq_b, kSeq_c, ev_skip, ev_break, ev_cont, ev_retN, ev_ret, kRt_s, ev_sif, kIf_t, kIf_f, ev_drop, kDr_s, ev_set, kSt_s, kSt2_s, ev_own, kOw_s, ev_unp, kUn_s, kUn2_s, kNx_s, bt_nm, bt_tp, sa_nil, sa_cons, ev_par, kPa_s, sp_nil, sp_own, sp_val, ev_app, kAp_s, kAp2_s, kAp3_s, kAp4_s, ev_sti, kSi_s, kSi2_s, kSi3_s, kSi4_s, kSi5_s, kSi6_s, ev_aug, kAg_s, kAg2_s, val_s, ev_for, kFo_s, loop_nil, loop_cons, kLp_s, kLp_n, kLp_c, kLp_b, kLp_r, ev_while, while_s, kWh_f, kWh_t, kWh_n, kWh_c, kWh_b, kWh_r, lc_nil, lc_cons, kLc1_s, kLc2_t, kLc2_f, kLc3_s, kLc4_s, run0_k, kE0_r, kE0_n, rtOf_d, rtOf_nw, rtOf_sl, rtS_own, run1_k, kE1_r, kE1_n, kE2_s, bor_s, gAdd_i, gAdd_l, gAdd_t, gSub_i, gMul_i, gMod_i, gDiv_i, gPow_i, gEq_i, gEq_s, gEq_b, gCmp_i, gIs_n, gInt_i, gInt_b, gMax_i, gMin_i, gAbs_i, gTup_t, gTup_l, gLen_t, gLen_l, gLen_f, gIx_t, gIx_l, gIx_f, kIx_s, at_0, at_1, at_2, at_3, at_4, at_5, gSl_t, gSl_l,
  List.map_cons, List.map_nil, List.cons_append, List.nil_append, List.append_nil, List.length_cons, List.length_nil, List.replicate_succ, List.replicate_zero, Nat.reduceSub, Nat.reduceAdd, List.getElem?_cons_zero, List.getElem?_cons_succ, List.getElem?_nil, List.set_cons_zero, List.set_cons_succ, List.set_nil, Nat.zero_add, Nat.add_zero,
  List.all_cons, List.all_nil, notSl, Bool.and_true, Bool.true_and, Bool.or_true, Bool.true_or, Bool.and_false, Bool.false_and, Bool.or_false, Bool.false_or, if_true, if_false, Bool.false_eq_true, reduceIte, Bool.not_true, Bool.not_false, Bool.bne_true, Bool.bne_false, decide_true, decide_false, wipeE, backE, backS, nc_0, List.length_map, rg_len, Nat.reduceLeDiff, fd_ix, fi_ix, fi_len, fi_it, dcs, eq_self, Int.reduceEq, Int.reduceLT, Int.reduceLE, Int.reduceAdd, Int.reduceSub, Int.reduceMul, Int.reduceToNat, gIs_c, mkD_n, mkD_s, items, and_true, true_and, and_self, bne_self_eq_false, wt, gIn_t, gIsi_i, gIsi_t, gIsi_s, gIsi_n, gIsi_b, flatD, eqF_s, eqF_i, eqF_n, List.any_cons, List.any_nil, Rt.o, Option.bind_some, phi0_s, phi1_s, List.reverse_cons, List.reverse_nil, decide_eq_true_eq, *])
/-! ### comprehensions, loops -/
theorem lc_gen {t : Tg} {ft : FT} {fe : FE} {vs : List Nat} {ρ : Ev} {f : D → List D} (hf : ∀ d, (f d).length ≤ 1) : ∀ {ds acc : List D},
    (∀ d ∈ ds, ∀ ds' acc, acc.length < 16777216 → lcD t ft fe vs (d :: ds') ρ acc = lcD t ft fe vs ds' ρ (acc ++ f d)) → acc.length + ds.length ≤ 16777216 →
    lcD t ft fe vs ds ρ acc = some (acc ++ ds.flatMap f, ρ)
  | [], acc, _, _ => by rw [lc_nil, List.flatMap_nil, List.append_nil]
  | d :: ds, acc, h, hl => by
    rw [List.length_cons] at hl
    rw [h d (by simp) ds acc (by omega), lc_gen hf (fun d hd => h d (by simp [hd])) (by rw [List.length_append]; have := hf d; omega), List.flatMap_cons, List.append_assoc]
theorem lc_map {t : Tg} {ft : FT} {fe : FE} {vs : List Nat} {ρ : Ev} {f : D → D} {ds : List D} (h : ∀ d ∈ ds, ∀ ds' acc, acc.length < 16777216 → lcD t ft fe vs (d :: ds') ρ acc = lcD t ft fe vs ds' ρ (acc ++ [f d])) (hl : ds.length ≤ 16777216) :
    lcD t ft fe vs ds ρ [] = some (ds.map f, ρ) := by
  rw [lc_gen (f := fun d => [f d]) (fun _ => by simp) h (by simpa using hl), List.nil_append]
  congr 2
  induction ds with
  | nil => rfl
  | cons d ds ih => rw [List.flatMap_cons, List.map_cons, ih (fun d hd => h d (by simp [hd])) (by simp at hl; omega)]; rfl
  
theorem bls_true : ∀ n, blsD (List.replicate n (.bl true)) = some (List.replicate n true)
  | 0 => rfl
  | n + 1 => by rw [List.replicate_succ, blsD, bls_true n]; rfl
theorem all_true {n : Nat} : gAll (.lst (List.replicate n (.bl true))) = some (.d (.bl true)) := by
  show ((blsD _).bind fun ns => some (Opd.d (.bl (ns.all _root_.id)))) = _
  rw [bls_true, Option.bind_some]
  congr 3
  simp
theorem lc_true {t : Tg} {ft : FT} {fe : FE} {vs : List Nat} {ρ : Ev} {ds : List D} (h : ∀ d ∈ ds, ∀ ds' acc, acc.length < 16777216 → lcD t ft fe vs (d :: ds') ρ acc = lcD t ft fe vs ds' ρ (acc ++ [.bl true])) (hl : ds.length ≤ 16777216) :
    lcD t ft fe vs ds ρ [] = some (List.replicate ds.length (.bl true), ρ) := by
  rw [lc_map (f := fun _ => .bl true) h hl, List.map_const']
theorem rg_mem {d : D} {lo : Int} {n : Nat} (h : d ∈ rgD lo n) : ∃ j, j < n ∧ d = .int (lo + (j : Nat)) := by
  unfold rgD at h
  obtain ⟨j, h1, rfl⟩ := List.mem_map.mp h
  exact ⟨j, List.mem_range.mp h1, rfl⟩
theorem at_map {α β : Type} {g : α → β} {xs : List α} {k : Int} {x : α} (h0 : 0 ≤ k) (h : xs[k.toNat]? = some x) : atI (xs.map g) k = some (g x) := by
  have e : k = ((k.toNat : Nat) : Int) := by omega
  rw [e, at_cast, List.getElem?_map, h]; rfl
theorem at_neg1 {α : Type} {xs : List α} {x : α} : atI (xs ++ [x]) (-1) = some x := by
  unfold atI ixN
  rw [if_neg (by decide), if_pos (by rw [List.length_append, List.length_singleton]; omega), Option.bind_some, List.length_append, List.length_singleton, show (-1 + ((xs.length + 1 : Nat) : Int)).toNat = xs.length by omega]
  simp
/-! ### formats and files are right -/
theorem signs_ok {xs : List Int} {b : Int} (hl : xs.length ≤ 16777216) (h : ∀ x ∈ xs, 0 ≤ x ∧ x < b) : phi_are_signs [fileD xs, .int b] = some (.d (.bl true)) := by
  have e0 : gIsi (fileD xs) (.op (.ty "tuple")) = some (.d (.bl true)) := rfl
  unfold phi_are_signs g_are_signs
  have e := lc_true (t := .nm 2) (ft := fYes) (fe := fCall phi_is_sign (aCons (fName 2) (aCons (fName 1) aNil))) (vs := [2]) (ρ := [.val (fileD xs), .val (.int b), .un]) (ds := xs.map .int) (fun d hd ds' acc ha => by
    obtain ⟨x, hx, rfl⟩ := List.mem_map.mp hd
    have e := sign_ok (h x hx).1 (h x hx).2
    walk_at "ev") (by simpa using hl)
  have e2 := all_true (n := xs.length)
  simp only [List.length_map] at e
  walk_at "ev"
theorem head_ok {f : Frm} (o : f.Ok) : phi__is_head [.tup (f.head.map mkD), .int f.base] = some (.d (.bl true)) := by
  unfold phi__is_head g__is_head
  have e := lc_true (t := .nm 2) (ft := fYes) (fe := fOrV (fBin (gIs false) (fName 2) (fC .non)) (fCall phi_is_sign (aCons (fName 2) (aCons (fName 1) aNil)))) (vs := [2]) (ρ := [.val (.tup (f.head.map mkD)), .val (.int f.base), .un]) (ds := f.head.map mkD) (fun d hd ds' acc ha => by
    obtain ⟨x, hx, rfl⟩ := List.mem_map.mp hd
    cases x with
    | none => walk_at "ev"
    | some k =>
      have e := sign_ok (o.hd k hx).1 (o.hd k hx).2
      walk_at "ev") (by have := o.hl; simp; omega)
  have e2 := all_true (n := f.head.length)
  simp only [List.length_map] at e
  walk_at "ev"
theorem tag_ok {t : Int × Us} {b : Int} (h : 0 ≤ t.1 ∧ t.1 < b) : phi__is_tag [tgD t, .int b] = some (.d (.bl true)) := by
  have e := sign_ok h.1 h.2
  have e2 := word_use t.2
  unfold phi__is_tag g__is_tag tgD
  walk_at "ev"
abbrev tgE : FE := fBin (gCmp fun i j => decide (i < j)) (fBin gIx (fBin gIx (fName 0) (fBin gSub (fName 3) (fC (.int 1)))) (fC (.int 0))) (fBin gIx (fBin gIx (fName 0) (fName 3)) (fC (.int 0)))
theorem tags_1 {f : Frm} (o : f.Ok) : lcD (.nm 2) fYes (fCall phi__is_tag (aCons (fName 2) (aCons (fName 1) aNil))) [2] (f.tags.map tgD) [.val (.tup (f.tags.map tgD)), .val (.int f.base), .un, .un] [] = some (List.replicate f.tags.length (.bl true), [.val (.tup (f.tags.map tgD)), .val (.int f.base), .un, .un]) := by
  have hl := o.tl
  have e := lc_true (t := .nm 2) (ft := fYes) (fe := fCall phi__is_tag (aCons (fName 2) (aCons (fName 1) aNil))) (vs := [2]) (ρ := [.val (.tup (f.tags.map tgD)), .val (.int f.base), .un, .un]) (ds := f.tags.map tgD) (fun d hd ds' acc ha => by
    obtain ⟨x, hx, rfl⟩ := List.mem_map.mp hd
    have e := tag_ok (o.tg x hx)
    walk_at "ev") (by simp; omega)
  simpa only [List.length_map] using e
theorem tags_2 {f : Frm} (o : f.Ok) : lcD (.nm 3) fYes tgE [3] (rgD 1 ((f.tags.length : Int) - 1).toNat) [.val (.tup (f.tags.map tgD)), .val (.int f.base), .un, .un] [] = some (List.replicate ((f.tags.length : Int) - 1).toNat (.bl true), [.val (.tup (f.tags.map tgD)), .val (.int f.base), .un, .un]) := by
  have hl := o.tl
  have e := lc_true (t := .nm 3) (ft := fYes) (fe := tgE) (vs := [3]) (ρ := [.val (.tup (f.tags.map tgD)), .val (.int f.base), .un, .un]) (ds := rgD 1 ((f.tags.length : Int) - 1).toNat) (fun d hd ds' acc ha => by
    obtain ⟨j, hj, rfl⟩ := rg_mem hd
    have h1 : j < f.tags.length := by omega
    have h2 : j + 1 < f.tags.length := by omega
    have e1 : atI (f.tags.map tgD) (1 + (j : Int) - 1) = some (tgD f.tags[j]) := at_map (by omega) (by rw [show (1 + (j : Int) - 1).toNat = j by omega]; exact List.getElem?_eq_getElem h1)
    have e2 : atI (f.tags.map tgD) (1 + (j : Int)) = some (tgD f.tags[j + 1]) := at_map (by omega) (by rw [show (1 + (j : Int)).toNat = j + 1 by omega]; exact List.getElem?_eq_getElem h2)
    have e3 : f.tags[j].1 < f.tags[j + 1].1 := List.pairwise_iff_getElem.mp o.as _ _ h1 h2 (by omega)
    have e4 : ∀ t, tgD t = .tup [.int t.1, t.2.s] := fun _ => rfl
    unfold tgE
    walk_at "ev") (by rw [rg_len]; omega)
  rwa [rg_len] at e
theorem tags_ok {f : Frm} (o : f.Ok) : phi__are_tags [.tup (f.tags.map tgD), .int f.base] = some (.d (.bl true)) := by
  have e := tags_1 o
  have e4 := tags_2 o
  have e2 := all_true (n := f.tags.length)
  have e3 := all_true (n := ((f.tags.length : Int) - 1).toNat)
  have h5 : f.tags.length ≤ 16777216 := by have := o.tl; omega
  unfold tgE at e4
  unfold phi__are_tags g__are_tags
  walk_at "ev"
theorem form_ok {f : Frm} (o : f.Ok) : phi_is_format [f.d] = some (.d (.bl true)) := by
  have e0 : ∀ ρ : Ev, bindT (.tp [1, 2, 3, 4, 5, 6]) f.d ρ = setAll [1, 2, 3, 4, 5, 6] [.int f.base, .tup (f.head.map mkD), f.width.s, .int f.most, .tup (f.tags.map tgD), f.others.s] ρ := fun _ => rfl
  have e7 : gIsi f.d (.op (.ty "tuple")) = some (.d (.bl true)) := rfl
  have e8 : gLen f.d = some (.d (.int 6)) := rfl
  unfold phi_is_format g_is_format
  have e1 := int_ok (i := f.base)
  have e2 := int_ok (i := f.most)
  have e3 := head_ok o
  have e4 := tags_ok o
  have e5 := word_wide f.width
  have e6 := word_other f.others
  have b0 := o.b0
  have b1 := o.b1
  have b2 : ¬ f.most < 0 := by have := o.m0; omega
  walk_at "ev"
theorem cform_ok {f : Frm} (o : f.Ok) : phi_check_format [f.d] = some (.d .non) := by
  unfold phi_check_format g_check_format
  have e := form_ok o
  walk_at "ev"
theorem file_ok {f : Frm} {xs : List Int} (o : f.Ok) (hl : xs.length ≤ 16777216) (h : ∀ x ∈ xs, 0 ≤ x ∧ x < f.base) : phi_is_file [f.d, fileD xs] = some (.d (.bl true)) := by
  unfold phi_is_file g_is_file
  have e := cform_ok o
  have e2 := signs_ok hl h
  walk_at "ev"
theorem cfile_ok {f : Frm} {xs : List Int} (o : f.Ok) (hl : xs.length ≤ 16777216) (h : ∀ x ∈ xs, 0 ≤ x ∧ x < f.base) : phi_check_file [f.d, fileD xs] = some (.d .non) := by
  unfold phi_check_file g_check_file
  have e := file_ok o hl h
  walk_at "ev"
end Dv

set_option Elab.async false
set_option linter.all false
set_option maxRecDepth 100000
set_option maxHeartbeats 4000000
namespace Dv
open PySem PySem.Spec PyProof.Rows L2
local macro_rules | `(tactic| walk_at "ev") => `(tactic| simp only [kRet_s, ev_name, ev_c, nm_val, nm_own, nm_bor, der_d, der_nw, der_sl, sl_own, sl_bor, sl_val, ev_bin, kBin_s, kBin2_s, kBin3_s, kBin4_s, ev_b1, kOne_s, kOne2_s, kRetD_s, ev_un, kUn1_s, kUn12_s, gNeg_i, ev_test, kTst_s, ev_and, ev_or, ev_not, kAnd_t, kAnd_f, kOr_t, kOr_f, kNot_s, ev_notV, kBl_s, ev_andV, ev_orV, kAndV_t, kAndV_f, kOrV_t, kOrV_f, ev_if, kIfE_t, kIfE_f, ev_yes, ev_ch, kCh_s, kCh2_s, kCh3_s, kCh4_s, kCh5_t, kCh5_f, ev_nil, ev_cons, kC1_s, kC2_s, ev_rev, kRv_s, escs_nil, escs_cons, kX1_s, kX2_s, esc_d, esc_nw, esc_sl, escS_own, escS_val, ev_tup, kT1_s, kT2_s, ev_lst, kL1_s, kL2_s, ev_pno, ev_pzero, ev_pint, kPI_s, ev_sl, kS1_s, kS2_s, kS3_s, kS4_s, ev_lrg, kR1_s, kR2_s, ev_call, kF1_s, kF2_s, kF3_s, ders_nil, ders_cons, kD1_s, kD2_s, rt_d, rt_nw, ev_call1, kG1_s, kG2_s, kG3_s, kG4_s, ow_own, ow_bor, put_own, put_bor, ev_iseq, kI1_s, kI2_t, kI2_l, kI2_f, ev_irg1, kN1_u, kN1_i, ev_irg2, kN2_s, kN3_u, ev_lc, kV1_s, kV2_s, ev_seq, kSeq_n, kSeq_r, kSeq_b, kSeq_c, ev_skip, ev_break, ev_cont, ev_retN, ev_ret, kRt_s, ev_sif, kIf_t, kIf_f, ev_drop, kDr_s, ev_set, kSt_s, kSt2_s, ev_own, kOw_s, ev_unp, kUn_s, kUn2_s, kNx_s, bt_nm, bt_tp, sa_nil, sa_cons, ev_par, kPa_s, sp_nil, sp_own, sp_val, ev_app, kAp_s, kAp2_s, kAp3_s, kAp4_s, ev_sti, kSi_s, kSi2_s, kSi3_s, kSi4_s, kSi5_s, kSi6_s, ev_aug, kAg_s, kAg2_s, val_s, ev_for, kFo_s, loop_nil, loop_cons, kLp_s, kLp_n, kLp_c, kLp_b, kLp_r, ev_while, while_s, kWh_f, kWh_t, kWh_n, kWh_c, kWh_b, kWh_r, lc_nil, lc_cons, kLc1_s, kLc2_t, kLc2_f, kLc3_s, kLc4_s, run0_k, kE0_r, kE0_n, rtOf_d, rtOf_nw, rtOf_sl, rtS_own, run1_k, kE1_r, kE1_n, kE2_s, bor_s, gAdd_i, gAdd_l, gAdd_t, gSub_i, gMul_i, gMod_i, gDiv_i, gPow_i, gEq_i, gEq_s, gEq_b, gCmp_i, gIs_n, gInt_i, gInt_b, gMax_i, gMin_i, gAbs_i, gTup_t, gTup_l, gLen_t, gLen_l, gLen_f, gIx_t, gIx_l, gIx_f, kIx_s, at_0, at_1, at_2, at_3, at_4, at_5, gSl_t, gSl_l,
  List.map_cons, List.map_nil, List.cons_append, List.nil_append, List.append_nil, List.length_cons, List.length_nil, List.replicate_succ, List.replicate_zero, Nat.reduceSub, Nat.reduceAdd, List.getElem?_cons_zero, List.getElem?_cons_succ, List.getElem?_nil, List.set_cons_zero, List.set_cons_succ, List.set_nil, Nat.zero_add, Nat.add_zero,
  List.all_cons, List.all_nil, notSl, Bool.and_true, Bool.true_and, Bool.or_true, Bool.true_or, Bool.and_false, Bool.false_and, Bool.or_false, Bool.false_or, if_true, if_false, Bool.false_eq_true, reduceIte, Bool.not_true, Bool.not_false, Bool.bne_true, Bool.bne_false, decide_true, decide_false, wipeE, backE, backS, nc_0, List.length_map, rg_len, Nat.reduceLeDiff, fd_ix, fi_ix, fi_len, fi_it, dcs, eq_self, Int.reduceEq, Int.reduceLT, Int.reduceLE, Int.reduceAdd, Int.reduceSub, Int.reduceMul, Int.reduceToNat, gIs_c, mkD_n, mkD_s, items, and_true, true_and, and_self, bne_self_eq_false, wt, gIn_t, gIsi_i, gIsi_t, gIsi_s, gIsi_n, gIsi_b, flatD, eqF_s, eqF_i, eqF_n, List.any_cons, List.any_nil, Rt.o, Option.bind_some, phi0_s, phi1_s, List.reverse_cons, List.reverse_nil, decide_eq_true_eq, *])
/-! ### the stands -/
inductive Std
  | head (k : Nat) | tag | length (u : Us) | second (u : Us) (first : Int) | body (u : Us) (left total : Int) | sum (t : Int) | room | over
def Std.d : Std → D
  | .head k => .tup [.str "head", .int k]
  | .tag => .tup [.str "tag"]
  | .length u => .tup [.str "length", u.s]
  | .second u a => .tup [.str "second", u.s, .int a]
  | .body u n t => .tup [.str "body", u.s, .int n, .int t]
  | .sum t => .tup [.str "sum", .int t]
  | .room => .tup [.str "room"]
  | .over => .tup [.str "over"]
def optD : Option Std → D | none => .non | some s => s.d
def useL : List (Int × Us) → Int → Option Us
  | [], _ => none
  | t :: ts, s => if t.1 = s then some t.2 else useL ts s
def othU : Ot → Option Us | .skip => some .skip | .refuse => none
def useOf (f : Frm) (s : Int) : Option Us := match useL f.tags s with | some u => some u | none => othU f.others
def useD : Option Us → D | some u => u.s | none => .str "refuse"
def behM (f : Frm) (k : Nat) : Std := if k < f.head.length then .head k else .tag
def behB (u : Us) (due : Int) : Std := match u with | .check => .sum due | _ => .tag
def behL (u : Us) (n : Int) : Std := if 0 < n then .body u n 0 else behB u 0
def tagS : Option Us → Option Std
  | none => none
  | some .fin => some .room
  | some .stop => some .over
  | some u => some (.length u)
def leastL (f : Frm) (s : Int) : Int := match f.width with | .high => s * f.base | _ => s
def bothL (f : Frm) (a s : Int) : Int := match f.width with | .high => a * f.base + s | _ => s * f.base + a
def addT (f : Frm) (u : Us) (t s : Int) : Int := match u with | .check => (t + s) % f.base | _ => t
def firstS (f : Frm) (u : Us) (s : Int) : Option Std := if f.most < leastL f s then none else match f.width with | .one => some (behL u s) | _ => some (.second u s)
def step (f : Frm) : Std → Int → Option Std
  | .head k, s => match f.head[k]? with
    | some (some m) => if m = s then some (behM f (k + 1)) else none
    | _ => some (behM f (k + 1))
  | .tag, s => tagS (useOf f s)
  | .length u, s => firstS f u s
  | .second u a, s => if f.most < bothL f a s then none else some (behL u (bothL f a s))
  | .body u n t, s => if 1 < n then some (.body u (n - 1) (addT f u t s)) else some (behB u (addT f u t s))
  | .sum t, s => if s = t then some .tag else none
  | .room, _ => some .room
  | .over, _ => none
/-- a stand of a format -/
def Std.Ok (f : Frm) : Std → Prop
  | .head k => k < f.head.length
  | .second _ a => 0 ≤ a ∧ a < f.base
  | _ => True
theorem step_ok {f : Frm} {s s' : Std} {x : Int} (hx : 0 ≤ x ∧ x < f.base) (h : step f s x = some s') : s'.Ok f := by
  have bm : ∀ k, (behM f k).Ok f := fun k => by
    unfold behM; split
    · assumption
    · trivial
  have bb : ∀ u t, (behB u t).Ok f := fun u t => by cases u <;> trivial
  have bl : ∀ u t, (behL u t).Ok f := fun u t => by unfold behL; split; trivial; exact bb _ _
  unfold step at h
  split at h
  · split at h
    · split at h <;> cases h; exact bm _
    · cases h; exact bm _
  · unfold tagS at h; split at h <;> cases h <;> trivial
  · unfold firstS at h; split at h
    · cases h
    · split at h <;> cases h
      · exact bl _ _
      · exact hx
  · split at h <;> cases h; exact bl _ _
  · split at h <;> cases h
    · trivial
    · exact bb _ _
  · split at h <;> cases h; trivial
  · cases h; trivial
  · cases h
theorem mul_s {a b : Int} (ha : 0 ≤ a) (ha2 : a ≤ 400000) (hb : 0 ≤ b) (hb2 : b ≤ 400000) : gMul (.int a) (.int b) = some (.d (.int (a * b))) := by
  apply gMul_i
  have := Nat.log2_le_self a.natAbs
  have := Nat.log2_le_self b.natAbs
  omega
theorem bm_ok {f : Frm} {k : Nat} : phi_behind_marks [f.d, .int k] = some (.d (behM f k).d) := by
  unfold phi_behind_marks g_behind_marks behM
  by_cases h : k < f.head.length
  · have h2 : (k : Int) < f.head.length := by omega
    rw [if_pos h]
    unfold Std.d
    walk_at "ev"
  · have h2 : ¬ (k : Int) < f.head.length := by omega
    rw [if_neg h]
    unfold Std.d
    walk_at "ev"
theorem first_ok {f : Frm} : phi_first_stand [f.d] = some (.d (behM f 0).d) := by
  have e : phi_behind_marks [f.d, .int 0] = some (.d (behM f 0).d) := bm_ok (k := 0)
  unfold phi_first_stand g_first_stand
  walk_at "ev"
theorem bb_ok {u : Us} {t : Int} : phi__behind_body [u.s, .int t] = some (.d (behB u t).d) := by
  unfold phi__behind_body g__behind_body behB
  cases u <;> (unfold Us.s Std.d; walk_at "ev")
theorem bl_ok {u : Us} {n : Int} : phi__behind_length [u.s, .int n] = some (.d (behL u n).d) := by
  have e := bb_ok (u := u) (t := 0)
  unfold phi__behind_length g__behind_length behL
  by_cases h : 0 < n
  · rw [if_pos h]
    unfold Std.d
    walk_at "ev"
  · rw [if_neg h]
    walk_at "ev"
theorem bs_ok {f : Frm} {u : Us} {n t s : Int} (o : f.Ok) : phi__behind_body_sign [f.d, (Std.body u n t).d, .int s] = some (.d (if 1 < n then Std.body u (n - 1) (addT f u t s) else behB u (addT f u t s)).d) := by
  have e1 := bb_ok (u := u) (t := addT f u t s)
  have hb : 0 < f.base := by have := o.b0; omega
  unfold phi__behind_body_sign g__behind_body_sign
  by_cases h : 1 < n
  · rw [if_pos h]
    cases u <;> (dsimp only [Us.s, Std.d, addT] at *; walk_at "ev")
  · rw [if_neg h]
    cases u <;> (dsimp only [Us.s, Std.d, addT, behB] at *; walk_at "ev")
theorem wide_high {w : Wd} : gEq false w.s (.str "high") = some (.d (.bl (match w with | .high => true | _ => false))) := by
  cases w <;> (unfold Wd.s; rw [gEq_s]; simp [wt])
theorem wide_one {w : Wd} : gEq false w.s (.str "one") = some (.d (.bl (match w with | .one => true | _ => false))) := by
  cases w <;> (unfold Wd.s; rw [gEq_s]; simp [wt])
theorem bf_ok {f : Frm} {u : Us} {s : Int} (o : f.Ok) (hs : 0 ≤ s ∧ s < f.base) : phi__behind_first [f.d, u.s, .int s] = some (.d (optD (firstS f u s))) := by
  have e := bl_ok (u := u) (n := s)
  have b0 := o.b0
  have b1 := o.b1
  have e2 := mul_s (a := s) (b := f.base) hs.1 (by omega) (by omega) (by omega)
  have w1 := wide_high (w := f.width)
  have w2 := wide_one (w := f.width)
  unfold phi__behind_first g__behind_first
  by_cases h : f.most < leastL f s
  · unfold firstS
    rw [if_pos h]
    unfold leastL at h
    cases hw : f.width <;> (rw [hw] at h w1 w2; dsimp only at h w1 w2; unfold optD; walk_at "ev")
  · unfold firstS
    rw [if_neg h]
    unfold leastL at h
    cases hw : f.width <;> (rw [hw] at h w1 w2; dsimp only at h w1 w2; unfold optD; dsimp only; first | (walk_at "ev"; done) | (unfold Std.d; walk_at "ev"))
theorem bk_ok {f : Frm} {k : Nat} {s : Int} (hk : k < f.head.length) : phi__behind_mark [f.d, .int k, .int s] = some (.d (optD (step f (.head k) s))) := by
  have e0 : atI (f.head.map mkD) (k : Int) = some (mkD f.head[k]) := at_map (by omega) (List.getElem?_eq_getElem hk)
  have e1 : phi_behind_marks [f.d, .int ((k : Int) + 1)] = some (.d (behM f (k + 1)).d) := bm_ok (k := k + 1)
  unfold phi__behind_mark g__behind_mark
  dsimp only [step]
  rw [List.getElem?_eq_getElem hk]
  cases hm : f.head[k] with
  | none =>
    rw [hm] at e0
    unfold optD
    walk_at "ev"
  | some m =>
    rw [hm] at e0
    dsimp only
    by_cases h : m = s
    · rw [if_pos h]
      unfold optD
      walk_at "ev"
    · rw [if_neg h]
      unfold optD
      walk_at "ev"
theorem b2_ok {f : Frm} {u : Us} {a s : Int} (o : f.Ok) (ha : 0 ≤ a ∧ a < f.base) (hs : 0 ≤ s ∧ s < f.base) : phi__behind_second [f.d, u.s, .int a, .int s] = some (.d (optD (step f (.second u a) s))) := by
  have e := bl_ok (u := u) (n := bothL f a s)
  have b0 := o.b0
  have b1 := o.b1
  have e2 := mul_s (a := s) (b := f.base) hs.1 (by omega) (by omega) (by omega)
  have e3 := mul_s (a := a) (b := f.base) ha.1 (by omega) (by omega) (by omega)
  have w1 := wide_high (w := f.width)
  unfold phi__behind_second g__behind_second
  dsimp only [step]
  by_cases h : f.most < bothL f a s
  · rw [if_pos h]
    unfold bothL at h e
    cases hw : f.width <;> (rw [hw] at h w1 e; dsimp only at h w1 e; unfold optD; walk_at "ev")
  · rw [if_neg h]
    unfold bothL at h e ⊢
    cases hw : f.width <;> (rw [hw] at h w1 e; dsimp only at h w1 e; unfold optD; dsimp only; walk_at "ev")
end Dv

set_option Elab.async false
set_option linter.all false
set_option maxRecDepth 100000
set_option maxHeartbeats 4000000
namespace Dv
open PySem PySem.Spec PyProof.Rows L2
local macro_rules | `(tactic| walk_at "ev") => `(tactic| simp only [kRet_s, ev_name, ev_c, nm_val, nm_own, nm_bor, der_d, der_nw, der_sl, sl_own, sl_bor, sl_val, ev_bin, kBin_s, kBin2_s, kBin3_s, kBin4_s, ev_b1, kOne_s, kOne2_s, kRetD_s, ev_un, kUn1_s, kUn12_s, gNeg_i, ev_test, kTst_s, ev_and, ev_or, ev_not, kAnd_t, kAnd_f, kOr_t, kOr_f, kNot_s, ev_notV, kBl_s, ev_andV, ev_orV, kAndV_t, kAndV_f, kOrV_t, kOrV_f, ev_if, kIfE_t, kIfE_f, ev_yes, ev_ch, kCh_s, kCh2_s, kCh3_s, kCh4_s, kCh5_t, kCh5_f, ev_nil, ev_cons, kC1_s, kC2_s, ev_rev, kRv_s, escs_nil, escs_cons, kX1_s, kX2_s, esc_d, esc_nw, esc_sl, escS_own, escS_val, ev_tup, kT1_s, kT2_s, ev_lst, kL1_s, kL2_s, ev_pno, ev_pzero, ev_pint, kPI_s, ev_sl, kS1_s, kS2_s, kS3_s, kS4_s, ev_lrg, kR1_s, kR2_s, ev_call, kF1_s, kF2_s, kF3_s, ders_nil, ders_cons, kD1_s, kD2_s, rt_d, rt_nw, ev_call1, kG1_s, kG2_s, kG3_s, kG4_s, ow_own, ow_bor, put_own, put_bor, ev_iseq, kI1_s, kI2_t, kI2_l, kI2_f, ev_irg1, kN1_u, kN1_i, ev_irg2, kN2_s, kN3_u, ev_lc, kV1_s, kV2_s, ev_seq, kSeq_n, kSeq_r, kSeq_b, kSeq_c, ev_skip, ev_break, ev_cont, ev_retN, ev_ret, kRt_s, ev_sif, kIf_t, kIf_f, ev_drop, kDr_s, ev_set, kSt_s, kSt2_s, ev_own, kOw_s, ev_unp, kUn_s, kUn2_s, kNx_s, bt_nm, bt_tp, sa_nil, sa_cons, ev_par, kPa_s, sp_nil, sp_own, sp_val, ev_app, kAp_s, kAp2_s, kAp3_s, kAp4_s, ev_sti, kSi_s, kSi2_s, kSi3_s, kSi4_s, kSi5_s, kSi6_s, ev_aug, kAg_s, kAg2_s, val_s, ev_for, kFo_s, loop_nil, loop_cons, kLp_s, kLp_n, kLp_c, kLp_b, kLp_r, ev_while, while_s, kWh_f, kWh_t, kWh_n, kWh_c, kWh_b, kWh_r, lc_nil, lc_cons, kLc1_s, kLc2_t, kLc2_f, kLc3_s, kLc4_s, run0_k, kE0_r, kE0_n, rtOf_d, rtOf_nw, rtOf_sl, rtS_own, run1_k, kE1_r, kE1_n, kE2_s, bor_s, gAdd_i, gAdd_l, gAdd_t, gSub_i, gMul_i, gMod_i, gDiv_i, gPow_i, gEq_i, gEq_s, gEq_b, gCmp_i, gIs_n, gInt_i, gInt_b, gMax_i, gMin_i, gAbs_i, gTup_t, gTup_l, gLen_t, gLen_l, gLen_f, gIx_t, gIx_l, gIx_f, kIx_s, at_0, at_1, at_2, at_3, at_4, at_5, gSl_t, gSl_l,
  List.map_cons, List.map_nil, List.cons_append, List.nil_append, List.append_nil, List.length_cons, List.length_nil, List.replicate_succ, List.replicate_zero, Nat.reduceSub, Nat.reduceAdd, List.getElem?_cons_zero, List.getElem?_cons_succ, List.getElem?_nil, List.set_cons_zero, List.set_cons_succ, List.set_nil, Nat.zero_add, Nat.add_zero,
  List.all_cons, List.all_nil, notSl, Bool.and_true, Bool.true_and, Bool.or_true, Bool.true_or, Bool.and_false, Bool.false_and, Bool.or_false, Bool.false_or, if_true, if_false, Bool.false_eq_true, reduceIte, Bool.not_true, Bool.not_false, Bool.bne_true, Bool.bne_false, decide_true, decide_false, wipeE, backE, backS, nc_0, List.length_map, rg_len, Nat.reduceLeDiff, fd_ix, fi_ix, fi_len, fi_it, dcs, eq_self, Int.reduceEq, Int.reduceLT, Int.reduceLE, Int.reduceAdd, Int.reduceSub, Int.reduceMul, Int.reduceToNat, gIs_c, mkD_n, mkD_s, items, and_true, true_and, and_self, bne_self_eq_false, wt, gIn_t, gIsi_i, gIsi_t, gIsi_s, gIsi_n, gIsi_b, flatD, eqF_s, eqF_i, eqF_n, List.any_cons, List.any_nil, Rt.o, Option.bind_some, phi0_s, phi1_s, List.reverse_cons, List.reverse_nil, decide_eq_true_eq, *])

/-! ### stands along a file -/
theorem tg_bind {t : Int × Us} {ρ : Ev} {i j : Nat} : bindT (.tp [i, j]) (tgD t) ρ = setAll [i, j] [.int t.1, t.2.s] ρ := rfl
abbrev uoB : FS := sIf (fTest (fBin (gEq false) (fName 2) (fName 1))) (sRet (fName 3)) sSkip
theorem uo_loop {f : Frm} {s : Int} : ∀ (ts : List (Int × Us)) (a b : Sl), (useL ts s = none → ∃ a' b', loopD (.tp [2, 3]) uoB (ts.map tgD) [.val f.d, .val (.int s), a, b] = some (.nx [.val f.d, .val (.int s), a', b'])) ∧
    (∀ u, useL ts s = some u → ∃ ρ, loopD (.tp [2, 3]) uoB (ts.map tgD) [.val f.d, .val (.int s), a, b] = some (.rt (.d u.s) ρ))
  | [], a, b => ⟨fun _ => ⟨a, b, rfl⟩, fun u h => nomatch h⟩
  | t :: ts, a, b => by
    have ih := uo_loop (f := f) (s := s) ts (.val (.int t.1)) (.val t.2.s)
    have hb := tg_bind (t := t) (ρ := [.val f.d, .val (.int s), a, b]) (i := 2) (j := 3)
    unfold useL
    by_cases h : t.1 = s
    · rw [if_pos h]
      refine ⟨fun h => (nomatch h), fun u hu => ?_⟩
      cases hu
      refine ⟨[.val f.d, .val (.int s), .val (.int t.1), .val t.2.s], ?_⟩
      walk_at "ev"
    · rw [if_neg h]
      have e : loopD (.tp [2, 3]) uoB ((t :: ts).map tgD) [.val f.d, .val (.int s), a, b] = loopD (.tp [2, 3]) uoB (ts.map tgD) [.val f.d, .val (.int s), .val (.int t.1), .val t.2.s] := by
        clear ih
        walk_at "ev"
      rw [e]
      exact ih
theorem use_ok {f : Frm} {s : Int} : phi_use_of [f.d, .int s] = some (.d (useD (useOf f s))) := by
  have h := uo_loop (f := f) (s := s) f.tags .un .un
  unfold useOf
  cases e : useL f.tags s with
  | none =>
    obtain ⟨a, b, e2⟩ := h.1 e
    have e3 : f.others.s = useD (othU f.others) := by cases f.others <;> rfl
    rw [← e3]
    unfold phi_use_of g_use_of
    walk_at "ev"
  | some u =>
    obtain ⟨r, e2⟩ := h.2 u e
    unfold phi_use_of g_use_of useD
    walk_at "ev"
theorem bt_ok {f : Frm} {s : Int} : phi__behind_tag [f.d, .int s] = some (.d (optD (step f .tag s))) := by
  have e := use_ok (f := f) (s := s)
  unfold phi__behind_tag g__behind_tag
  dsimp only [step]
  cases hu : useOf f s with
  | none =>
    rw [hu] at e
    dsimp only [useD, tagS, optD] at *
    walk_at "ev"
  | some u =>
    rw [hu] at e
    cases u <;> (dsimp only [useD, tagS, optD, Us.s, Std.d] at *; walk_at "ev")
theorem next_ok {f : Frm} {st : Std} {s : Int} (o : f.Ok) (h : st.Ok f) (hs : 0 ≤ s ∧ s < f.base) : phi_next_stand [f.d, st.d, .int s] = some (.d (optD (step f st s))) := by
  cases st with
  | head k =>
    have e := bk_ok (s := s) (show k < f.head.length from h)
    unfold phi_next_stand g_next_stand
    dsimp only [Std.d]
    walk_at "ev"
  | tag =>
    have e := bt_ok (f := f) (s := s)
    unfold phi_next_stand g_next_stand
    dsimp only [Std.d]
    walk_at "ev"
  | length u =>
    have e : phi__behind_first [f.d, u.s, .int s] = some (.d (optD (step f (.length u) s))) := bf_ok (u := u) o hs
    unfold phi_next_stand g_next_stand
    dsimp only [Std.d]
    walk_at "ev"
  | second u a =>
    have e := b2_ok (u := u) o h hs
    unfold phi_next_stand g_next_stand
    dsimp only [Std.d]
    walk_at "ev"
  | body u n t =>
    have e := bs_ok (u := u) (n := n) (t := t) (s := s) o
    have e2 : optD (step f (.body u n t) s) = (if 1 < n then Std.body u (n - 1) (addT f u t s) else behB u (addT f u t s)).d := by
      dsimp only [step]
      split <;> rfl
    rw [e2]
    unfold phi_next_stand g_next_stand
    dsimp only [Std.d] at *
    walk_at "ev"
  | sum t =>
    unfold phi_next_stand g_next_stand
    dsimp only [Std.d, step]
    by_cases h : s = t
    · rw [if_pos h]
      dsimp only [optD, Std.d]
      walk_at "ev"
    · rw [if_neg h]
      dsimp only [optD, Std.d]
      walk_at "ev"
  | room =>
    unfold phi_next_stand g_next_stand
    dsimp only [Std.d, step, optD]
    walk_at "ev"
  | over =>
    unfold phi_next_stand g_next_stand
    dsimp only [Std.d, step, optD]
    walk_at "ev"
def beh (f : Frm) : Std → List Int → Option Std
  | st, [] => some st
  | st, x :: xs => match step f st x with | none => none | some s => beh f s xs
def alongF (f : Frm) : Std → List Int → List (Option Std)
  | st, [] => [some st]
  | st, x :: xs => some st :: match step f st x with | none => [none] | some s => alongF f s xs
theorem along_last {f : Frm} : ∀ (xs : List Int) (st : Std), ∃ l, alongF f st xs = l ++ [beh f st xs]
  | [], st => ⟨[], rfl⟩
  | x :: xs, st => by
    unfold alongF beh
    cases e : step f st x with
    | none => exact ⟨[some st], rfl⟩
    | some s =>
      obtain ⟨l, h⟩ := along_last xs s
      exact ⟨some st :: l, by dsimp only; rw [h]; rfl⟩
theorem is_std {n : Bool} {s : Std} : gIs n s.d .non = some (.d (.bl (false != n))) := by cases s <;> rfl
abbrev saB : FS := sSeq (sSet 2 (fCall phi_next_stand (aCons (fName 0) (aCons (fName 2) (aCons (fName 4) aNil)))))
    (sSeq (sApp 3 (fName 2))
    (sIf (fTest (fBin (gIs false) (fName 2) (fC .non))) sBreak sSkip))
theorem sa_loop {f : Frm} (o : f.Ok) {fl : D} : ∀ (xs : List Int) (st : Std) (l : List D) (a : Sl), st.Ok f → (∀ x ∈ xs, 0 ≤ x ∧ x < f.base) → l.length + xs.length < 16777216 →
    ∃ v a', loopD (.nm 4) saB (xs.map .int) [.val f.d, .val fl, .val st.d, .own (l ++ [st.d]), a] = some (.nx [.val f.d, .val fl, .val v, .own (l ++ (alongF f st xs).map optD), a'])
  | [], st, l, a, _, _, _ => ⟨st.d, a, rfl⟩
  | x :: xs, st, l, a, h, hx, hl => by
    have e := next_ok o h (hx x (by simp))
    rw [List.length_cons] at hl
    have h2 : (l ++ [st.d]).length < 16777216 := by rw [List.length_append, List.length_singleton]; omega
    unfold alongF
    cases es : step f st x with
    | none =>
      rw [es] at e
      refine ⟨.non, .val (.int x), ?_⟩
      have e3 : ∀ l : List D, l ++ List.map optD (some st :: [none]) = (l ++ [st.d]) ++ [.non] := fun l => by simp [optD]
      dsimp only
      rw [e3]
      dsimp only [optD] at e
      clear e3
      walk_at "ev"
    | some s =>
      rw [es] at e
      obtain ⟨v, a', ih⟩ := sa_loop o xs s (l ++ [st.d]) (.val (.int x)) (step_ok (hx x (by simp)) es) (fun y hy => hx y (by simp [hy])) (by rw [List.length_append, List.length_singleton]; omega)
      refine ⟨v, a', ?_⟩
      have e3 : l ++ List.map optD (some st :: alongF f s xs) = (l ++ [st.d]) ++ List.map optD (alongF f s xs) := by simp [optD]
      dsimp only
      rw [e3, ← ih]
      have e4 := is_std (n := false) (s := s)
      dsimp only [optD] at e
      clear e3 ih
      walk_at "ev"
theorem behM_ok {f : Frm} {k : Nat} : (behM f k).Ok f := by
  unfold behM; split
  · assumption
  · trivial
theorem sal_ok {f : Frm} {xs : List Int} (o : f.Ok) (hx : ∀ x ∈ xs, 0 ≤ x ∧ x < f.base) (hl : xs.length < 16777216) : phi_stands_along [f.d, fileD xs] = some (.nw ((alongF f (behM f 0) xs).map optD)) := by
  obtain ⟨v, a, e⟩ := sa_loop o (fl := fileD xs) xs (behM f 0) [] .un behM_ok hx (by simpa using hl)
  rw [List.nil_append, List.nil_append] at e
  have e1 := first_ok (f := f)
  unfold phi_stands_along g_stands_along
  walk_at "ev"
theorem sb_ok {f : Frm} {xs : List Int} (o : f.Ok) (hx : ∀ x ∈ xs, 0 ≤ x ∧ x < f.base) (hl : xs.length < 16777216) : phi_stand_behind [f.d, fileD xs] = some (.d (optD (beh f (behM f 0) xs))) := by
  have e := sal_ok o hx hl
  have e1 := cfile_ok o (by omega) hx
  obtain ⟨l, e2⟩ := along_last (f := f) xs (behM f 0)
  rw [e2, List.map_append, List.map_singleton] at e
  have e3 := at_neg1 (xs := l.map optD) (x := optD (beh f (behM f 0) xs))
  clear e2
  unfold phi_stand_behind g_stand_behind
  walk_at "ev"
end Dv

set_option Elab.async false
set_option linter.all false
set_option maxRecDepth 100000
set_option maxHeartbeats 4000000
namespace Dv
open PySem PySem.Spec PyProof.Rows L2
local macro_rules | `(tactic| walk_at "ev") => `(tactic| simp only [kRet_s, ev_name, ev_c, nm_val, nm_own, nm_bor, der_d, der_nw, der_sl, sl_own, sl_bor, sl_val, ev_bin, kBin_s, kBin2_s, kBin3_s, kBin4_s, ev_b1, kOne_s, kOne2_s, kRetD_s, ev_un, kUn1_s, kUn12_s, gNeg_i, ev_test, kTst_s, ev_and, ev_or, ev_not, kAnd_t, kAnd_f, kOr_t, kOr_f, kNot_s, ev_notV, kBl_s, ev_andV, ev_orV, kAndV_t, kAndV_f, kOrV_t, kOrV_f, ev_if, kIfE_t, kIfE_f, ev_yes, ev_ch, kCh_s, kCh2_s, kCh3_s, kCh4_s, kCh5_t, kCh5_f, ev_nil, ev_cons, kC1_s, kC2_s, ev_rev, kRv_s, escs_nil, escs_cons, kX1_s, kX2_s, esc_d, esc_nw, esc_sl, escS_own, escS_val, ev_tup, kT1_s, kT2_s, ev_lst, kL1_s, kL2_s, ev_pno, ev_pzero, ev_pint, kPI_s, ev_sl, kS1_s, kS2_s, kS3_s, kS4_s, ev_lrg, kR1_s, kR2_s, ev_call, kF1_s, kF2_s, kF3_s, ders_nil, ders_cons, kD1_s, kD2_s, rt_d, rt_nw, ev_call1, kG1_s, kG2_s, kG3_s, kG4_s, ow_own, ow_bor, put_own, put_bor, ev_iseq, kI1_s, kI2_t, kI2_l, kI2_f, ev_irg1, kN1_u, kN1_i, ev_irg2, kN2_s, kN3_u, ev_lc, kV1_s, kV2_s, ev_seq, kSeq_n, kSeq_r, kSeq_b, kSeq_c, ev_skip, ev_break, ev_cont, ev_retN, ev_ret, kRt_s, ev_sif, kIf_t, kIf_f, ev_drop, kDr_s, ev_set, kSt_s, kSt2_s, ev_own, kOw_s, ev_unp, kUn_s, kUn2_s, kNx_s, bt_nm, bt_tp, sa_nil, sa_cons, ev_par, kPa_s, sp_nil, sp_own, sp_val, ev_app, kAp_s, kAp2_s, kAp3_s, kAp4_s, ev_sti, kSi_s, kSi2_s, kSi3_s, kSi4_s, kSi5_s, kSi6_s, ev_aug, kAg_s, kAg2_s, val_s, ev_for, kFo_s, loop_nil, loop_cons, kLp_s, kLp_n, kLp_c, kLp_b, kLp_r, ev_while, while_s, kWh_f, kWh_t, kWh_n, kWh_c, kWh_b, kWh_r, lc_nil, lc_cons, kLc1_s, kLc2_t, kLc2_f, kLc3_s, kLc4_s, run0_k, kE0_r, kE0_n, rtOf_d, rtOf_nw, rtOf_sl, rtS_own, run1_k, kE1_r, kE1_n, kE2_s, bor_s, gAdd_i, gAdd_l, gAdd_t, gSub_i, gMul_i, gMod_i, gDiv_i, gPow_i, gEq_i, gEq_s, gEq_b, gCmp_i, gIs_n, gInt_i, gInt_b, gMax_i, gMin_i, gAbs_i, gTup_t, gTup_l, gLen_t, gLen_l, gLen_f, gIx_t, gIx_l, gIx_f, kIx_s, at_0, at_1, at_2, at_3, at_4, at_5, gSl_t, gSl_l,
  List.map_cons, List.map_nil, List.cons_append, List.nil_append, List.append_nil, List.length_cons, List.length_nil, List.replicate_succ, List.replicate_zero, Nat.reduceSub, Nat.reduceAdd, List.getElem?_cons_zero, List.getElem?_cons_succ, List.getElem?_nil, List.set_cons_zero, List.set_cons_succ, List.set_nil, Nat.zero_add, Nat.add_zero,
  List.all_cons, List.all_nil, notSl, Bool.and_true, Bool.true_and, Bool.or_true, Bool.true_or, Bool.and_false, Bool.false_and, Bool.or_false, Bool.false_or, if_true, if_false, Bool.false_eq_true, reduceIte, Bool.not_true, Bool.not_false, Bool.bne_true, Bool.bne_false, decide_true, decide_false, wipeE, backE, backS, nc_0, List.length_map, rg_len, Nat.reduceLeDiff, fd_ix, fi_ix, fi_len, fi_it, dcs, eq_self, Int.reduceEq, Int.reduceLT, Int.reduceLE, Int.reduceAdd, Int.reduceSub, Int.reduceMul, Int.reduceToNat, gIs_c, mkD_n, mkD_s, items, and_true, true_and, and_self, bne_self_eq_false, wt, gIn_t, gIsi_i, gIsi_t, gIsi_s, gIsi_n, gIsi_b, flatD, eqF_s, eqF_i, eqF_n, List.any_cons, List.any_nil, Rt.o, Option.bind_some, phi0_s, phi1_s, List.reverse_cons, List.reverse_nil, decide_eq_true_eq, *])
/-! ### the law's own sides: places -/
theorem ints_map : ∀ {xs : List Int}, intsD (xs.map .int) = some xs
  | [] => rfl
  | x :: xs => by rw [List.map_cons, intsD, ints_map (xs := xs)]; rfl
theorem sum_file {xs : List Int} : gSum (fileD xs) = some (.d (.int xs.sum)) := by
  show ((intsD (xs.map .int)).bind _) = _
  rw [ints_map]; rfl
theorem cut_map {xs : List Int} {p q : Int} (hp : 0 ≤ p) (hq : p ≤ q) : Dv.cutD (xs.map D.int) (some p) (some q) = ((xs.drop p.toNat).take (q - p).toNat).map D.int := by
  unfold Dv.cutD HT.sIx
  dsimp only
  rw [if_neg (by omega), if_neg (by omega), List.length_map, ← List.map_drop, ← List.map_take]
  congr 1
  by_cases h : p.toNat ≤ xs.length
  · rw [Nat.min_eq_left h]
    apply List.ext_getElem? 
    intro i
    rw [List.getElem?_take, List.getElem?_take]
    by_cases h2 : i < (q - p).toNat
    · rw [if_pos h2]
      by_cases h3 : i < min q.toNat xs.length - p.toNat
      · rw [if_pos h3]
      · rw [if_neg h3, List.getElem?_drop, List.getElem?_eq_none (by omega)]
    · rw [if_neg h2, if_neg (by omega)]
  · rw [List.drop_eq_nil_of_le (by omega), List.drop_eq_nil_of_le (by omega)]
    simp
theorem fi_sl {xs : List Int} {p q : Int} (hp : 0 ≤ p) (hq : p ≤ q) : gSl (fileD xs) (some p) (some q) = some (.d (fileD ((xs.drop p.toNat).take (q - p).toNat))) := by
  unfold fileD
  rw [gSl_t, cut_map hp hq]
theorem fi_at {xs : List Int} {k : Int} {x : Int} {ys : List Int} (h0 : 0 ≤ k) (h : xs.drop k.toNat = x :: ys) : atI (xs.map D.int) k = some (.int x) := by
  apply at_map h0
  have := List.getElem?_drop (xs := xs) (i := k.toNat) (j := 0)
  rw [h] at this
  simpa using this.symm
theorem tg_ix {t : Int × Us} {i : Int} : gIx (tgD t) (.int i) = kIx (atI [.int t.1, t.2.s] i) := rfl
def useE : Option Us → D | some u => u.s | none => .str ""
abbrev luB : FS := sIf (fTest (fBin (gEq false) (fBin gIx (fName 2) (fC (.int 0))) (fName 1))) (sRet (fBin gIx (fName 2) (fC (.int 1)))) sSkip
theorem lu_loop {f : Frm} {s : Int} {R : FS} {r : Option Rt} : ∀ (ts : List (Int × Us)) (a : Sl), (useL ts s = none → ∀ a', kE0 (R [.val f.d, .val (.int s), a']) = r) → (∀ u, useL ts s = some u → r = some (.d u.s)) →
    kE0 (kSeq R (loopD (.nm 2) luB (ts.map tgD) [.val f.d, .val (.int s), a])) = r
  | [], a, h1, _ => h1 rfl a
  | t :: ts, a, h1, h2 => by
    have hb : ∀ i, gIx (tgD t) (.int i) = kIx (atI [.int t.1, t.2.s] i) := fun _ => rfl
    unfold useL at h1 h2
    by_cases h : t.1 = s
    · rw [if_pos h] at h2
      rw [h2 _ rfl]
      clear h1 h2
      walk_at "ev"
    · rw [if_neg h] at h1 h2
      have ih := lu_loop (f := f) (R := R) ts (.val (tgD t)) h1 h2
      rw [← ih]
      clear h1 h2 ih
      walk_at "ev"
theorem law_use {f : Frm} {s : Int} : phi__law_use [f.d, .int s] = some (.d (useE (useOf f s))) := by
  have e := lu_loop (f := f) (s := s) (R := (sRet (fIf (fTest (fBin (gEq false) (fBin gIx (fName 0) (fC (.int 5))) (fC (.str "skip")))) (fC (.str "skip")) (fC (.str ""))))) (r := some (.d (useE (useOf f s)))) f.tags .un (fun h a' => by
      unfold useOf
      rw [h]
      have hd : ∀ i, gIx f.d (.int i) = kIx (atI [.int f.base, .tup (f.head.map mkD), f.width.s, .int f.most, .tup (f.tags.map tgD), f.others.s] i) := fun _ => rfl
      cases ho : f.others <;> (rw [ho] at hd; dsimp only [Ot.s, othU, useE, Us.s] at *; clear h; walk_at "ev")) (fun u h => by unfold useOf; rw [h]; rfl)
  unfold phi__law_use g__law_use
  walk_at "ev"
inductive Lo | ok (w : Int) (p : Nat) | short (n : Nat) | long (i : Nat)
def Lo.d : Lo → D
  | .ok w p => .tup [.int w, .int p]
  | .short n => .tup [.non, .tup [.int n, .str "short"]]
  | .long i => .tup [.non, .tup [.int i, .str "length"]]
def longG (f : Frm) (n k : Nat) (a : Int) (ys : List Int) : Lo := if f.most < leastL f a then .long k else match ys with
  | [] => .short n
  | b :: _ => if bothL f a b ≤ f.most then .ok (bothL f a b) (k + 2) else .long (k + 1)
def longF (f : Frm) (n k : Nat) : List Int → Lo
  | [] => .short n
  | a :: ys => match f.width with
    | .one => if a ≤ f.most then .ok a (k + 1) else .long k
    | _ => longG f n k a ys
theorem drop_len {xs ys : List Int} {k : Nat} (h : xs.drop k = ys) (h2 : k ≤ xs.length) : xs.length = k + ys.length := by
  rw [← h, List.length_drop]; omega
theorem law_long {f : Frm} {xs : List Int} {k : Nat} (o : f.Ok) (hk : k ≤ xs.length) (hx : ∀ x ∈ xs, 0 ≤ x ∧ x < f.base) : phi__law_long [f.d, fileD xs, .int k] = some (.d (longF f xs.length k (xs.drop k)).d) := by
  have b0 := o.b0
  have b1 := o.b1
  cases hy : xs.drop k with
  | nil =>
    have hn := drop_len hy hk
    have h1 : (xs.length : Int) ≤ k := by simp at hn; omega
    unfold longF Lo.d phi__law_long g__law_long
    clear hy hx hn
    walk_at "ev"
  | cons a ys =>
    have hn := drop_len hy hk
    rw [List.length_cons] at hn
    have h1 : ¬ (xs.length : Int) ≤ k := by omega
    have hxs : ∀ z ∈ a :: ys, 0 ≤ z ∧ z < f.base := fun z hz => hx z (List.mem_of_mem_drop (hy ▸ hz))
    have ha := hxs a (by simp)
    have e1 : atI (xs.map D.int) (k : Int) = some (.int a) := fi_at (by omega) hy
    have e2 := mul_s (a := a) (b := f.base) ha.1 (by omega) (by omega) (by omega)
    have w1 := wide_high (w := f.width)
    have w2 := wide_one (w := f.width)
    have key : f.width ≠ .one → phi__law_long [f.d, fileD xs, .int k] = some (.d (longG f xs.length k a ys).d) := by
      intro hw1
      unfold longG
      by_cases h2 : f.most < leastL f a
      · rw [if_pos h2]
        dsimp only [Lo.d]
        unfold leastL at h2
        unfold phi__law_long g__law_long
        clear hx hxs hy hn
        cases hw : f.width <;> (rw [hw] at h2 w1 w2 hw1; first | exact absurd rfl hw1 | (dsimp only at h2 w1 w2; clear hw1; walk_at "ev"))
      · rw [if_neg h2]
        cases ys with
        | nil =>
          have h3 : (xs.length : Int) ≤ (k : Int) + 1 := by simp at hn; omega
          dsimp only [Lo.d]
          unfold leastL at h2
          unfold phi__law_long g__law_long
          clear hx hxs hy hn
          cases hw : f.width <;> (rw [hw] at h2 w1 w2 hw1; first | exact absurd rfl hw1 | (dsimp only at h2 w1 w2; clear hw1; walk_at "ev"))
        | cons b ys =>
          have h3 : ¬ (xs.length : Int) ≤ (k : Int) + 1 := by simp at hn; omega
          have hb := hxs b (by simp)
          have e3 : atI (xs.map D.int) ((k : Int) + 1) = some (.int b) := fi_at (ys := ys) (by omega) (by rw [show ((k : Int) + 1).toNat = k + 1 by omega, ← List.drop_drop, hy]; rfl)
          have e4 := mul_s (a := b) (b := f.base) hb.1 (by omega) (by omega) (by omega)
          have c1 : (((k + 1 : Nat)) : Int) = (k : Int) + 1 := by omega
          have c2 : (((k + 2 : Nat)) : Int) = (k : Int) + 2 := by omega
          dsimp only
          unfold leastL at h2
          by_cases h4 : bothL f a b ≤ f.most
          · rw [if_pos h4]
            dsimp only [Lo.d]
            unfold bothL at *
            unfold phi__law_long g__law_long
            clear hx hxs hy hn
            cases hw : f.width <;> (rw [hw] at h2 w1 w2 hw1 h4; first | exact absurd rfl hw1 | (dsimp only at h2 w1 w2 h4 ⊢; clear hw1; walk_at "ev"))
          · rw [if_neg h4]
            dsimp only [Lo.d]
            unfold bothL at *
            unfold phi__law_long g__law_long
            clear hx hxs hy hn
            cases hw : f.width <;> (rw [hw] at h2 w1 w2 hw1 h4; first | exact absurd rfl hw1 | (dsimp only at h2 w1 w2 h4 ⊢; clear hw1; walk_at "ev"))
    unfold longF
    cases hw : f.width with
    | one =>
      dsimp only
      have c1 : (((k + 1 : Nat)) : Int) = (k : Int) + 1 := by omega
      rw [hw] at w1 w2
      dsimp only at w1 w2
      clear key hx hxs hy hn
      by_cases h : a ≤ f.most
      · rw [if_pos h]
        dsimp only [Lo.d]
        unfold phi__law_long g__law_long
        walk_at "ev"
      · rw [if_neg h]
        dsimp only [Lo.d]
        unfold phi__law_long g__law_long
        walk_at "ev"
    | high => rw [key (by rw [hw]; exact fun h => nomatch h)]
    | low => rw [key (by rw [hw]; exact fun h => nomatch h)]
end Dv

set_option Elab.async false
set_option linter.all false
set_option maxRecDepth 100000
set_option maxHeartbeats 4000000
namespace Dv
open PySem PySem.Spec PyProof.Rows L2
local macro_rules | `(tactic| walk_at "ev") => `(tactic| simp only [kRet_s, ev_name, ev_c, nm_val, nm_own, nm_bor, der_d, der_nw, der_sl, sl_own, sl_bor, sl_val, ev_bin, kBin_s, kBin2_s, kBin3_s, kBin4_s, ev_b1, kOne_s, kOne2_s, kRetD_s, ev_un, kUn1_s, kUn12_s, gNeg_i, ev_test, kTst_s, ev_and, ev_or, ev_not, kAnd_t, kAnd_f, kOr_t, kOr_f, kNot_s, ev_notV, kBl_s, ev_andV, ev_orV, kAndV_t, kAndV_f, kOrV_t, kOrV_f, ev_if, kIfE_t, kIfE_f, ev_yes, ev_ch, kCh_s, kCh2_s, kCh3_s, kCh4_s, kCh5_t, kCh5_f, ev_nil, ev_cons, kC1_s, kC2_s, ev_rev, kRv_s, escs_nil, escs_cons, kX1_s, kX2_s, esc_d, esc_nw, esc_sl, escS_own, escS_val, ev_tup, kT1_s, kT2_s, ev_lst, kL1_s, kL2_s, ev_pno, ev_pzero, ev_pint, kPI_s, ev_sl, kS1_s, kS2_s, kS3_s, kS4_s, ev_lrg, kR1_s, kR2_s, ev_call, kF1_s, kF2_s, kF3_s, ders_nil, ders_cons, kD1_s, kD2_s, rt_d, rt_nw, ev_call1, kG1_s, kG2_s, kG3_s, kG4_s, ow_own, ow_bor, put_own, put_bor, ev_iseq, kI1_s, kI2_t, kI2_l, kI2_f, ev_irg1, kN1_u, kN1_i, ev_irg2, kN2_s, kN3_u, ev_lc, kV1_s, kV2_s, ev_seq, kSeq_n, kSeq_r, kSeq_b, kSeq_c, ev_skip, ev_break, ev_cont, ev_retN, ev_ret, kRt_s, ev_sif, kIf_t, kIf_f, ev_drop, kDr_s, ev_set, kSt_s, kSt2_s, ev_own, kOw_s, ev_unp, kUn_s, kUn2_s, kNx_s, bt_nm, bt_tp, sa_nil, sa_cons, ev_par, kPa_s, sp_nil, sp_own, sp_val, ev_app, kAp_s, kAp2_s, kAp3_s, kAp4_s, ev_sti, kSi_s, kSi2_s, kSi3_s, kSi4_s, kSi5_s, kSi6_s, ev_aug, kAg_s, kAg2_s, val_s, ev_for, kFo_s, loop_nil, loop_cons, kLp_s, kLp_n, kLp_c, kLp_b, kLp_r, ev_while, while_s, kWh_f, kWh_t, kWh_n, kWh_c, kWh_b, kWh_r, lc_nil, lc_cons, kLc1_s, kLc2_t, kLc2_f, kLc3_s, kLc4_s, run0_k, kE0_r, kE0_n, rtOf_d, rtOf_nw, rtOf_sl, rtS_own, run1_k, kE1_r, kE1_n, kE2_s, bor_s, gAdd_i, gAdd_l, gAdd_t, gSub_i, gMul_i, gMod_i, gDiv_i, gPow_i, gEq_i, gEq_s, gEq_b, gCmp_i, gIs_n, gInt_i, gInt_b, gMax_i, gMin_i, gAbs_i, gTup_t, gTup_l, gLen_t, gLen_l, gLen_f, gIx_t, gIx_l, gIx_f, kIx_s, at_0, at_1, at_2, at_3, at_4, at_5, gSl_t, gSl_l,
  List.map_cons, List.map_nil, List.cons_append, List.nil_append, List.append_nil, List.length_cons, List.length_nil, List.replicate_succ, List.replicate_zero, Nat.reduceSub, Nat.reduceAdd, List.getElem?_cons_zero, List.getElem?_cons_succ, List.getElem?_nil, List.set_cons_zero, List.set_cons_succ, List.set_nil, Nat.zero_add, Nat.add_zero,
  List.all_cons, List.all_nil, notSl, Bool.and_true, Bool.true_and, Bool.or_true, Bool.true_or, Bool.and_false, Bool.false_and, Bool.or_false, Bool.false_or, if_true, if_false, Bool.false_eq_true, reduceIte, Bool.not_true, Bool.not_false, Bool.bne_true, Bool.bne_false, decide_true, decide_false, wipeE, backE, backS, nc_0, List.length_map, rg_len, Nat.reduceLeDiff, fd_ix, fi_ix, fi_len, fi_it, dcs, eq_self, Int.reduceEq, Int.reduceLT, Int.reduceLE, Int.reduceAdd, Int.reduceSub, Int.reduceMul, Int.reduceToNat, gIs_c, mkD_n, mkD_s, items, and_true, true_and, and_self, bne_self_eq_false, wt, gIn_t, gIsi_i, gIsi_t, gIsi_s, gIsi_n, gIsi_b, flatD, eqF_s, eqF_i, eqF_n, List.any_cons, List.any_nil, Rt.o, Option.bind_some, phi0_s, phi1_s, List.reverse_cons, List.reverse_nil, decide_eq_true_eq, *])

/-! ### the law's own stand -/
theorem beh_room {f : Frm} : ∀ (ys : List Int), beh f .room ys = some .room
  | [] => rfl
  | y :: ys => by unfold beh; dsimp only [step]; exact beh_room ys
def totF (f : Frm) (u : Us) (zs : List Int) : Int := match u with | .check => zs.sum % f.base | _ => 0
theorem beh_cons {f : Frm} {st : Std} {x : Int} {xs : List Int} : beh f st (x :: xs) = (match step f st x with | none => none | some s => beh f s xs) := rfl
def tOk (f : Frm) (u : Us) (t : Int) : Prop := match u with | .check => 0 ≤ t ∧ t < f.base | _ => t = 0
theorem beh_body {f : Frm} {u : Us} (hb : 0 < f.base) : ∀ (zs : List Int) (n t : Int), 0 < n → tOk f u t → beh f (.body u n t) zs = if (zs.length : Int) < n then some (.body u (n - zs.length) (match u with | .check => (t + zs.sum) % f.base | _ => 0)) else beh f (behB u (match u with | .check => (t + (zs.take n.toNat).sum) % f.base | _ => 0)) (zs.drop n.toNat)
  | [], n, t, hn, ht => by
    rw [if_pos (by simpa using hn)]
    unfold beh
    cases u <;> dsimp only [tOk] at ht ⊢ <;> simp
    case check => exact (Int.emod_eq_of_lt ht.1 ht.2).symm
    all_goals exact ht
  | z :: zs, n, t, hn, ht => by
    rw [beh_cons]
    dsimp only [step]
    have ht' : tOk f u (addT f u t z) := by
      cases u <;> dsimp only [addT, tOk] at ht ⊢
      case check => exact ⟨Int.emod_nonneg _ (by omega), Int.emod_lt_of_pos _ hb⟩
      all_goals exact ht
    by_cases h1 : 1 < n
    · rw [if_pos h1]
      dsimp only
      rw [beh_body hb zs (n - 1) _ (by omega) ht']
      have en : n.toNat = (n - 1).toNat + 1 := by omega
      rw [List.length_cons, en, List.take_succ_cons, List.drop_succ_cons]
      by_cases h2 : (zs.length : Int) < n - 1
      · rw [if_pos h2, if_pos (by omega)]
        cases u <;> dsimp only [addT] <;> congr 2
        case check.e_total => rw [List.sum_cons, Int.emod_add_emod, Int.add_assoc]
        all_goals omega
      · rw [if_neg h2, if_neg (by omega)]
        cases u <;> dsimp only [addT]
        case check => rw [List.sum_cons, Int.emod_add_emod, Int.add_assoc]
    · rw [if_neg h1]
      have en : n.toNat = 1 := by omega
      rw [List.length_cons, if_neg (by omega), en]
      cases u <;> dsimp only [addT, tOk] at ht ⊢ <;> simp
      all_goals rw [ht]
theorem beh_len {f : Frm} {u : Us} {zs : List Int} {n : Int} (hb : 0 < f.base) (hn : 0 ≤ n) : beh f (behL u n) zs = if (zs.length : Int) < n then some (.body u (n - zs.length) (totF f u zs)) else beh f (behB u (totF f u (zs.take n.toNat))) (zs.drop n.toNat) := by
  unfold behL totF
  by_cases h : 0 < n
  · rw [if_pos h, beh_body hb zs n 0 h (by cases u <;> dsimp only [tOk] <;> omega)]
    cases u <;> dsimp only <;> simp
  · have h0 : n = 0 := by omega
    subst h0
    rw [if_neg h, if_neg (by omega)]
    cases u <;> simp
/-- what the two sides say behind a tag that begins a chunk -/
theorem beh_long {f : Frm} {u : Us} {ys : List Int} {n k : Nat} (hn : n = k + ys.length) : beh f (.length u) ys = match longF f n k ys with
    | .short _ => (match ys with | [] => some (.length u) | a :: _ => some (.second u a))
    | .long _ => none
    | .ok w p => beh f (behL u w) (ys.drop (p - k)) := by
  cases ys with
  | nil => rfl
  | cons a ys =>
    rw [beh_cons]
    unfold longF longG
    dsimp only [step, firstS]
    cases hw : f.width with
    | one =>
      have el : leastL f a = a := by unfold leastL; rw [hw]
      rw [el]
      dsimp only
      by_cases h : a ≤ f.most
      · rw [if_pos h, if_neg (by omega)]
        dsimp only
        rw [show k + 1 - k = 1 by omega]; rfl
      · rw [if_neg h, if_pos (by omega)]
    | high =>
      dsimp only
      by_cases h : f.most < leastL f a
      · rw [if_pos h, if_pos h]
      · rw [if_neg h, if_neg h]
        cases ys with
        | nil => rfl
        | cons b ys =>
          dsimp only
          rw [beh_cons]
          dsimp only [step]
          by_cases h2 : bothL f a b ≤ f.most
          · rw [if_pos h2, if_neg (by omega)]
            dsimp only
            rw [show k + 2 - k = 2 by omega]; rfl
          · rw [if_neg h2, if_pos (by omega)]
    | low =>
      dsimp only
      by_cases h : f.most < leastL f a
      · rw [if_pos h, if_pos h]
      · rw [if_neg h, if_neg h]
        cases ys with
        | nil => rfl
        | cons b ys =>
          dsimp only
          rw [beh_cons]
          dsimp only [step]
          by_cases h2 : bothL f a b ≤ f.most
          · rw [if_pos h2, if_neg (by omega)]
            dsimp only
            rw [show k + 2 - k = 2 by omega]; rfl
          · rw [if_neg h2, if_pos (by omega)]
theorem long_ok {f : Frm} {ys : List Int} {n k p : Nat} {w : Int} (o : f.Ok) (hx : ∀ x ∈ ys, 0 ≤ x ∧ x < f.base) (h : longF f n k ys = .ok w p) : 0 ≤ w ∧ w ≤ f.most ∧ k < p ∧ p ≤ k + ys.length := by
  have b0 := o.b0
  unfold longF longG at h
  cases ys with
  | nil => cases h
  | cons a ys =>
    have ha := hx a (by simp)
    dsimp only at h
    cases hw : f.width with
    | one =>
      rw [hw] at h
      dsimp only at h
      split at h <;> cases h
      simp; omega
    | high =>
      rw [hw] at h
      dsimp only at h
      split at h
      · cases h
      · cases ys with
        | nil => cases h
        | cons b ys =>
          have hb := hx b (by simp)
          dsimp only at h
          split at h <;> cases h
          rename_i h2
          refine ⟨?_, h2, by omega, by simp⟩
          unfold bothL
          rw [hw]
          have := Int.mul_nonneg ha.1 (show 0 ≤ f.base by omega)
          dsimp only; omega
    | low =>
      rw [hw] at h
      dsimp only at h
      split at h
      · cases h
      · cases ys with
        | nil => cases h
        | cons b ys =>
          have hb := hx b (by simp)
          dsimp only at h
          split at h <;> cases h
          rename_i h2
          refine ⟨?_, h2, by omega, by simp⟩
          unfold bothL
          rw [hw]
          have := Int.mul_nonneg hb.1 (show 0 ≤ f.base by omega)
          dsimp only; omega
end Dv

set_option Elab.async false
set_option linter.all false
set_option maxRecDepth 100000
set_option maxHeartbeats 4000000
namespace Dv
open PySem PySem.Spec PyProof.Rows L2
local macro_rules | `(tactic| walk_at "ev") => `(tactic| simp only [kRet_s, ev_name, ev_c, nm_val, nm_own, nm_bor, der_d, der_nw, der_sl, sl_own, sl_bor, sl_val, ev_bin, kBin_s, kBin2_s, kBin3_s, kBin4_s, ev_b1, kOne_s, kOne2_s, kRetD_s, ev_un, kUn1_s, kUn12_s, gNeg_i, ev_test, kTst_s, ev_and, ev_or, ev_not, kAnd_t, kAnd_f, kOr_t, kOr_f, kNot_s, ev_notV, kBl_s, ev_andV, ev_orV, kAndV_t, kAndV_f, kOrV_t, kOrV_f, ev_if, kIfE_t, kIfE_f, ev_yes, ev_ch, kCh_s, kCh2_s, kCh3_s, kCh4_s, kCh5_t, kCh5_f, ev_nil, ev_cons, kC1_s, kC2_s, ev_rev, kRv_s, escs_nil, escs_cons, kX1_s, kX2_s, esc_d, esc_nw, esc_sl, escS_own, escS_val, ev_tup, kT1_s, kT2_s, ev_lst, kL1_s, kL2_s, ev_pno, ev_pzero, ev_pint, kPI_s, ev_sl, kS1_s, kS2_s, kS3_s, kS4_s, ev_lrg, kR1_s, kR2_s, ev_call, kF1_s, kF2_s, kF3_s, ders_nil, ders_cons, kD1_s, kD2_s, rt_d, rt_nw, ev_call1, kG1_s, kG2_s, kG3_s, kG4_s, ow_own, ow_bor, put_own, put_bor, ev_iseq, kI1_s, kI2_t, kI2_l, kI2_f, ev_irg1, kN1_u, kN1_i, ev_irg2, kN2_s, kN3_u, ev_lc, kV1_s, kV2_s, ev_seq, kSeq_n, kSeq_r, kSeq_b, kSeq_c, ev_skip, ev_break, ev_cont, ev_retN, ev_ret, kRt_s, ev_sif, kIf_t, kIf_f, ev_drop, kDr_s, ev_set, kSt_s, kSt2_s, ev_own, kOw_s, ev_unp, kUn_s, kUn2_s, kNx_s, bt_nm, bt_tp, sa_nil, sa_cons, ev_par, kPa_s, sp_nil, sp_own, sp_val, ev_app, kAp_s, kAp2_s, kAp3_s, kAp4_s, ev_sti, kSi_s, kSi2_s, kSi3_s, kSi4_s, kSi5_s, kSi6_s, ev_aug, kAg_s, kAg2_s, val_s, ev_for, kFo_s, loop_nil, loop_cons, kLp_s, kLp_n, kLp_c, kLp_b, kLp_r, ev_while, while_s, kWh_f, kWh_t, kWh_n, kWh_c, kWh_b, kWh_r, lc_nil, lc_cons, kLc1_s, kLc2_t, kLc2_f, kLc3_s, kLc4_s, run0_k, kE0_r, kE0_n, rtOf_d, rtOf_nw, rtOf_sl, rtS_own, run1_k, kE1_r, kE1_n, kE2_s, bor_s, gAdd_i, gAdd_l, gAdd_t, gSub_i, gMul_i, gMod_i, gDiv_i, gPow_i, gEq_i, gEq_s, gEq_b, gCmp_i, gIs_n, gInt_i, gInt_b, gMax_i, gMin_i, gAbs_i, gTup_t, gTup_l, gLen_t, gLen_l, gLen_f, gIx_t, gIx_l, gIx_f, kIx_s, at_0, at_1, at_2, at_3, at_4, at_5, gSl_t, gSl_l,
  List.map_cons, List.map_nil, List.cons_append, List.nil_append, List.append_nil, List.length_cons, List.length_nil, List.replicate_succ, List.replicate_zero, Nat.reduceSub, Nat.reduceAdd, List.getElem?_cons_zero, List.getElem?_cons_succ, List.getElem?_nil, List.set_cons_zero, List.set_cons_succ, List.set_nil, Nat.zero_add, Nat.add_zero,
  List.all_cons, List.all_nil, notSl, Bool.and_true, Bool.true_and, Bool.or_true, Bool.true_or, Bool.and_false, Bool.false_and, Bool.or_false, Bool.false_or, if_true, if_false, Bool.false_eq_true, reduceIte, Bool.not_true, Bool.not_false, Bool.bne_true, Bool.bne_false, decide_true, decide_false, wipeE, backE, backS, nc_0, List.length_map, rg_len, Nat.reduceLeDiff, fd_ix, fi_ix, fi_len, fi_it, dcs, eq_self, Int.reduceEq, Int.reduceLT, Int.reduceLE, Int.reduceAdd, Int.reduceSub, Int.reduceMul, Int.reduceToNat, gIs_c, mkD_n, mkD_s, items, and_true, true_and, and_self, bne_self_eq_false, wt, gIn_t, gIsi_i, gIsi_t, gIsi_s, gIsi_n, gIsi_b, flatD, eqF_s, eqF_i, eqF_n, List.any_cons, List.any_nil, Rt.o, Option.bind_some, phi0_s, phi1_s, List.reverse_cons, List.reverse_nil, decide_eq_true_eq, *])
abbrev stH : FS := (sSeq (sIf (fTest (fBin (gCmp fun i j => decide (j ≤ i)) (fName 3) (fName 2))) (sRet (fTup (aCons (fC (.str "head")) (aCons (fName 3) aNil)))) sSkip)
    (sIf (fAnd (fTest (fBin (gIs true) (fBin gIx (fBin gIx (fName 0) (fC (.int 1))) (fName 3)) (fC .non))) (fTest (fBin (gEq true) (fBin gIx (fBin gIx (fName 0) (fC (.int 1))) (fName 3)) (fBin gIx (fName 1) (fName 3))))) (sRet (fC .non)) sSkip))
abbrev stC : FT := (fTest (fBin (gCmp fun i j => decide (i < j)) (fName 4) (fName 2)))
abbrev stW : FS := (sSeq (sSet 5 (fCall phi__law_use (aCons (fName 0) (aCons (fBin gIx (fName 1) (fName 4)) aNil))))
    (sSeq (sIf (fTest (fBin (gIn false) (fName 5) (fTup (aCons (fC (.str "")) (aCons (fC (.str "end")) (aCons (fC (.str "stop")) aNil)))))) (sSeq (sSet 6 (fIf (fTest (fBin (gEq false) (fName 5) (fC (.str "end")))) (fTup (aCons (fC (.str "room")) aNil)) (fTup (aCons (fC (.str "over")) aNil))))
    (sRet (fIf (fOr (fTest (fBin (gEq false) (fName 5) (fC (.str "")))) (fAnd (fTest (fBin (gEq false) (fName 5) (fC (.str "stop")))) (fTest (fBin (gCmp fun i j => decide (i < j)) (fBin gAdd (fName 4) (fC (.int 1))) (fName 2))))) (fC .non) (fName 6)))) sSkip)
    (sSeq (sUnp (.tp [7, 8]) (fCall phi__law_long (aCons (fName 0) (aCons (fName 1) (aCons (fBin gAdd (fName 4) (fC (.int 1))) aNil)))))
    (sSeq (sIf (fTest (fBin (gIs false) (fName 7) (fC .non))) (sSeq (sIf (fTest (fBin (gEq true) (fBin gIx (fName 8) (fC (.int 1))) (fC (.str "short")))) (sRet (fC .non)) sSkip)
    (sRet (fIf (fTest (fBin (gEq false) (fBin gAdd (fName 4) (fC (.int 1))) (fName 2))) (fTup (aCons (fC (.str "length")) (aCons (fName 5) aNil))) (fTup (aCons (fC (.str "second")) (aCons (fName 5) (aCons (fBin gIx (fName 1) (fBin gAdd (fName 4) (fC (.int 1)))) aNil))))))) sSkip)
    (sSeq (sSet 9 (fIf (fTest (fBin (gEq false) (fName 5) (fC (.str "check")))) (fBin gMod (fB1 gInt (fB1 gSum (fSl (fName 1) (pInt (fName 8)) (pInt (fBin gAdd (fName 8) (fName 7)))))) (fBin gIx (fName 0) (fC (.int 0)))) (fC (.int 0))))
    (sSeq (sIf (fTest (fBin (gCmp fun i j => decide (j < i)) (fBin gAdd (fName 8) (fName 7)) (fName 2))) (sRet (fTup (aCons (fC (.str "body")) (aCons (fName 5) (aCons (fBin gSub (fBin gAdd (fName 8) (fName 7)) (fName 2)) (aCons (fName 9) aNil)))))) sSkip)
    (sSeq (sSet 4 (fBin gAdd (fName 8) (fName 7)))
    (sIf (fTest (fBin (gEq false) (fName 5) (fC (.str "check")))) (sSeq (sIf (fTest (fBin (gEq false) (fName 4) (fName 2))) (sRet (fTup (aCons (fC (.str "sum")) (aCons (fName 9) aNil)))) sSkip)
    (sSeq (sIf (fTest (fBin (gEq true) (fBin gIx (fName 1) (fName 4)) (fName 9))) (sRet (fC .non)) sSkip)
    (sSet 4 (fBin gAdd (fName 4) (fC (.int 1)))))) sSkip))))))))
abbrev stE : FS := (sRet (fTup (aCons (fC (.str "tag")) aNil)))
abbrev stR : FS := (sSeq (sSet 4 (fB1 gLen (fBin gIx (fName 0) (fC (.int 1)))))
    (sSeq (sWhile wh__law_stand_of_1 (fTest (fBin (gCmp fun i j => decide (i < j)) (fName 4) (fName 2))) (sSeq (sSet 5 (fCall phi__law_use (aCons (fName 0) (aCons (fBin gIx (fName 1) (fName 4)) aNil))))
    (sSeq (sIf (fTest (fBin (gIn false) (fName 5) (fTup (aCons (fC (.str "")) (aCons (fC (.str "end")) (aCons (fC (.str "stop")) aNil)))))) (sSeq (sSet 6 (fIf (fTest (fBin (gEq false) (fName 5) (fC (.str "end")))) (fTup (aCons (fC (.str "room")) aNil)) (fTup (aCons (fC (.str "over")) aNil))))
    (sRet (fIf (fOr (fTest (fBin (gEq false) (fName 5) (fC (.str "")))) (fAnd (fTest (fBin (gEq false) (fName 5) (fC (.str "stop")))) (fTest (fBin (gCmp fun i j => decide (i < j)) (fBin gAdd (fName 4) (fC (.int 1))) (fName 2))))) (fC .non) (fName 6)))) sSkip)
    (sSeq (sUnp (.tp [7, 8]) (fCall phi__law_long (aCons (fName 0) (aCons (fName 1) (aCons (fBin gAdd (fName 4) (fC (.int 1))) aNil)))))
    (sSeq (sIf (fTest (fBin (gIs false) (fName 7) (fC .non))) (sSeq (sIf (fTest (fBin (gEq true) (fBin gIx (fName 8) (fC (.int 1))) (fC (.str "short")))) (sRet (fC .non)) sSkip)
    (sRet (fIf (fTest (fBin (gEq false) (fBin gAdd (fName 4) (fC (.int 1))) (fName 2))) (fTup (aCons (fC (.str "length")) (aCons (fName 5) aNil))) (fTup (aCons (fC (.str "second")) (aCons (fName 5) (aCons (fBin gIx (fName 1) (fBin gAdd (fName 4) (fC (.int 1)))) aNil))))))) sSkip)
    (sSeq (sSet 9 (fIf (fTest (fBin (gEq false) (fName 5) (fC (.str "check")))) (fBin gMod (fB1 gInt (fB1 gSum (fSl (fName 1) (pInt (fName 8)) (pInt (fBin gAdd (fName 8) (fName 7)))))) (fBin gIx (fName 0) (fC (.int 0)))) (fC (.int 0))))
    (sSeq (sIf (fTest (fBin (gCmp fun i j => decide (j < i)) (fBin gAdd (fName 8) (fName 7)) (fName 2))) (sRet (fTup (aCons (fC (.str "body")) (aCons (fName 5) (aCons (fBin gSub (fBin gAdd (fName 8) (fName 7)) (fName 2)) (aCons (fName 9) aNil)))))) sSkip)
    (sSeq (sSet 4 (fBin gAdd (fName 8) (fName 7)))
    (sIf (fTest (fBin (gEq false) (fName 5) (fC (.str "check")))) (sSeq (sIf (fTest (fBin (gEq false) (fName 4) (fName 2))) (sRet (fTup (aCons (fC (.str "sum")) (aCons (fName 9) aNil)))) sSkip)
    (sSeq (sIf (fTest (fBin (gEq true) (fBin gIx (fName 1) (fName 4)) (fName 9))) (sRet (fC .non)) sSkip)
    (sSet 4 (fBin gAdd (fName 4) (fC (.int 1)))))) sSkip)))))))))
    (sRet (fTup (aCons (fC (.str "tag")) aNil)))))
theorem useE_in {u : Option Us} : gIn false (useE u) (.tup [.str "", .str "end", .str "stop"]) = some (.d (.bl (match u with | none => true | some .fin => true | some .stop => true | _ => false))) := by
  cases u with
  | none => rfl
  | some u => cases u <;> rfl
theorem useE_w {u : Option Us} : gEq false (useE u) (.str "") = some (.d (.bl (match u with | none => true | _ => false))) := by
  cases u with
  | none => rfl
  | some u => cases u <;> rfl
theorem useE_end {u : Option Us} : gEq false (useE u) (.str "end") = some (.d (.bl (match u with | some .fin => true | _ => false))) := by
  cases u with
  | none => rfl
  | some u => cases u <;> rfl
theorem useE_stop {u : Option Us} : gEq false (useE u) (.str "stop") = some (.d (.bl (match u with | some .stop => true | _ => false))) := by
  cases u with
  | none => rfl
  | some u => cases u <;> rfl
theorem useE_check {u : Option Us} : gEq false (useE u) (.str "check") = some (.d (.bl (match u with | some .check => true | _ => false))) := by
  cases u with
  | none => rfl
  | some u => cases u <;> rfl
def Us.tells : Us → Bool | .fin => false | .stop => false | _ => true
def Us.isC : Us → Bool | .check => true | _ => false
abbrev StIH (f : Frm) (xs : List Int) (m fuel : Nat) : Prop := ∀ (k : Nat) (c3 c5 c6 c7 c8 c9 : Sl), xs.length - k ≤ m → k ≤ xs.length →
    kE0 (kSeq stE (whileD stC stW fuel [.val f.d, .val (fileD xs), .val (.int xs.length), c3, .val (.int k), c5, c6, c7, c8, c9])) = some (.d (optD (beh f .tag (xs.drop k))))
theorem st_main {f : Frm} {xs : List Int} (o : f.Ok) (hx : ∀ x ∈ xs, 0 ≤ x ∧ x < f.base) {m k fuel : Nat} {c3 c5 c6 c7 c8 c9 : Sl} {s : Int} {ys : List Int} (ih : StIH f xs m fuel) (h1 : xs.length - k ≤ m + 1) (hy : xs.drop k = s :: ys) (hn : xs.length = k + (ys.length + 1)) {u : Us} (hu : useOf f s = some u) (ht : u.tells = true) :
    kE0 (kSeq stE (whileD stC stW (fuel + 1) [.val f.d, .val (fileD xs), .val (.int xs.length), c3, .val (.int k), c5, c6, c7, c8, c9])) = some (.d (optD (beh f (.length u) ys))) := by
  have hb : 0 < f.base := by have := o.b0; omega
  have e2 : (k : Int) < xs.length := by omega
  have hxs : ∀ z ∈ s :: ys, 0 ≤ z ∧ z < f.base := fun z hz => hx z (List.mem_of_mem_drop (hy ▸ hz))
  have e1 : atI (xs.map D.int) (k : Int) = some (.int s) := fi_at (by omega) hy
  have hy1 : xs.drop (k + 1) = ys := by rw [← List.drop_drop, hy]; rfl
  have e3 : phi__law_use [f.d, .int s] = some (.d u.s) := by have := law_use (f := f) (s := s); rw [hu] at this; exact this
  have e4 : phi__law_long [f.d, fileD xs, .int ((k : Int) + 1)] = some (.d (longF f xs.length (k + 1) ys).d) := by
    have := law_long (k := k + 1) o (by omega) hx
    rw [hy1] at this
    exact this
  have j1 : gIn false u.s (.tup [.str "", .str "end", .str "stop"]) = some (.d (.bl false)) := by cases u <;> first | rfl | cases ht
  have j5 : gEq false u.s (.str "check") = some (.d (.bl u.isC)) := by cases u <;> rfl
  rw [beh_long (n := xs.length) (k := k + 1) (by omega)]
  cases hL : longF f xs.length (k + 1) ys with
  | short q =>
    rw [hL] at e4
    dsimp only [Lo.d] at e4 ⊢
    cases ys with
    | nil =>
      have e5 : decide ((k : Int) + 1 = xs.length) = true := decide_eq_true (by simp at hn; omega)
      dsimp only [optD, Std.d]
      clear ih hx hn hy hxs h1 hy1 hL ht hb
      walk_at "ev"
    | cons a zs =>
      have e5 : decide ((k : Int) + 1 = xs.length) = false := decide_eq_false (by simp at hn; omega)
      have e6 : atI (xs.map D.int) ((k : Int) + 1) = some (.int a) := fi_at (ys := zs) (by omega) (by rw [show ((k : Int) + 1).toNat = k + 1 by omega]; exact hy1)
      dsimp only [optD, Std.d]
      clear ih hx hn hy hxs h1 hy1 hL ht hb
      walk_at "ev"
  | long q =>
    rw [hL] at e4
    dsimp only [Lo.d, optD] at e4 ⊢
    clear ih hx hn hy hxs h1 hy1 hL ht hb
    walk_at "ev"
  | ok w p =>
    rw [hL] at e4
    dsimp only [Lo.d] at e4 ⊢
    obtain ⟨w0, w1, p0, p1⟩ := long_ok o (fun z hz => hxs z (by simp [hz])) hL
    have hz : ys.drop (p - (k + 1)) = xs.drop p := by rw [← hy1, List.drop_drop]; congr 1; omega
    rw [hz, beh_len hb w0]
    have hzl : (xs.drop p).length = xs.length - p := List.length_drop
    have e7 : gSl (fileD xs) (some (p : Int)) (some ((p : Int) + w)) = some (.d (fileD ((xs.drop p).take w.toNat))) := by
      rw [fi_sl (by omega) (by omega)]
      congr 5; omega
    have e8 := sum_file (xs := (xs.drop p).take w.toNat)
    have e9 : ∀ z : Int, gMod (.int z) (.int f.base) = some (.d (.int (z % f.base))) := fun z => gMod_i hb
    by_cases hs : ((xs.drop p).length : Int) < w
    · rw [if_pos hs]
      have g1 : (xs.length : Int) < (p : Int) + w := by omega
      have g2 : (p : Int) + w - xs.length = w - (xs.drop p).length := by omega
      have g3 : (xs.drop p).take w.toNat = xs.drop p := List.take_of_length_le (by omega)
      rw [g3] at e7 e8
      clear ih hx hn hy hxs h1 hy1 hL ht hb hz hzl hs g3 e9 w0 w1 p0 p1
      have e9 : ∀ z : Int, gMod (.int z) (.int f.base) = some (.d (.int (z % f.base))) := fun z => gMod_i (by have := o.b0; omega)
      cases u <;> (dsimp only [totF, optD, Std.d, Us.isC] at *; walk_at "ev")
    · rw [if_neg hs]
      have g1 : ¬ (xs.length : Int) < (p : Int) + w := by omega
      have cz : (p : Int) + w = ((p + w.toNat : Nat) : Int) := by omega
      have dz : (xs.drop p).drop w.toNat = xs.drop (p + w.toNat) := List.drop_drop
      rw [dz]
      by_cases hc : u = .check
      · subst hc
        dsimp only [behB, totF]
        dsimp only [Us.isC] at j5
        cases hd : xs.drop (p + w.toNat) with
        | nil =>
          have g4 : decide ((p : Int) + w = xs.length) = true := decide_eq_true (by have := List.drop_eq_nil_iff.mp hd; omega)
          dsimp only [beh, optD, Std.d]
          clear ih hx hn hy hxs h1 hy1 hL ht hb hz hzl hs w0 w1 p0 p1 cz dz hd
          walk_at "ev"
        | cons z zs =>
          have hlz := drop_len hd (by omega)
          rw [List.length_cons] at hlz
          have g4 : decide ((p : Int) + w = xs.length) = false := decide_eq_false (by omega)
          have g5 : atI (xs.map D.int) ((p : Int) + w) = some (.int z) := fi_at (ys := zs) (by omega) (by rw [cz]; exact hd)
          rw [beh_cons]
          dsimp only [step]
          by_cases hz2 : z = ((xs.drop p).take w.toNat).sum % f.base
          · rw [if_pos hz2]
            have g6 : decide (z = ((xs.drop p).take w.toNat).sum % f.base) = true := decide_eq_true hz2
            have hd2 : xs.drop (p + w.toNat + 1) = zs := by rw [← List.drop_drop, hd]; rfl
            have ih2 := ih (p + w.toNat + 1) c3 (.val Us.check.s) c6 (.val (.int w)) (.val (.int p)) (.val (.int (((xs.drop p).take w.toNat).sum % f.base))) (by omega) (by omega)
            rw [hd2, show ((p + w.toNat + 1 : Nat) : Int) = (p : Int) + w + 1 by omega] at ih2
            dsimp only
            rw [← ih2]
            clear ih ih2 hx hn hy hxs h1 hy1 hL ht hb hz hzl hs w0 w1 p0 p1 cz dz hd hlz hz2 hd2
            walk_at "ev"
          · rw [if_neg hz2]
            have g6 : decide (z = ((xs.drop p).take w.toNat).sum % f.base) = false := decide_eq_false hz2
            dsimp only [optD]
            clear ih hx hn hy hxs h1 hy1 hL ht hb hz hzl hs w0 w1 p0 p1 cz dz hd hlz hz2
            walk_at "ev"
      · have j6 : u.isC = false := by cases u <;> first | rfl | exact absurd rfl hc
        rw [j6] at j5
        have j7 : behB u (totF f u ((xs.drop p).take w.toNat)) = .tag := by cases u <;> first | rfl | exact absurd rfl hc
        rw [j7]
        have ih2 := ih (p + w.toNat) c3 (.val u.s) c6 (.val (.int w)) (.val (.int p)) (.val (.int 0)) (by omega) (by omega)
        rw [← ih2, ← cz]
        clear ih ih2 hx hn hy hxs h1 hy1 hL ht hb hz hzl hs w0 w1 p0 p1 cz dz j6 j7 hc
        walk_at "ev"
theorem st_loop {f : Frm} {xs : List Int} (o : f.Ok) (hx : ∀ x ∈ xs, 0 ≤ x ∧ x < f.base) (hl : xs.length ≤ 900000) : ∀ (m k fuel : Nat) (c3 c5 c6 c7 c8 c9 : Sl), xs.length - k ≤ m → k ≤ xs.length → m < fuel →
    kE0 (kSeq stE (whileD stC stW fuel [.val f.d, .val (fileD xs), .val (.int xs.length), c3, .val (.int k), c5, c6, c7, c8, c9])) = some (.d (optD (beh f .tag (xs.drop k)))) := by
  intro m
  induction m with
  | zero =>
    intro k fuel c3 c5 c6 c7 c8 c9 h1 h2 h3
    obtain ⟨fuel, rfl⟩ : ∃ g, fuel = g + 1 := ⟨fuel - 1, by omega⟩
    have e : xs.drop k = [] := List.drop_eq_nil_of_le (by omega)
    have e2 : ¬ (k : Int) < xs.length := by omega
    rw [e]
    dsimp only [beh, optD, Std.d]
    clear h1 h2 h3 e hx hl
    walk_at "ev"
  | succ m ih =>
    intro k fuel c3 c5 c6 c7 c8 c9 h1 h2 h3
    obtain ⟨fuel, rfl⟩ : ∃ g, fuel = g + 1 := ⟨fuel - 1, by omega⟩
    cases hy : xs.drop k with
    | nil =>
      have hn := drop_len hy h2
      have e2 : ¬ (k : Int) < xs.length := by simp at hn; omega
      dsimp only [beh, optD, Std.d]
      clear h1 h2 h3 hx hl hn hy ih
      walk_at "ev"
    | cons s ys =>
      have hn := drop_len hy h2
      rw [List.length_cons] at hn
      have e2 : (k : Int) < xs.length := by omega
      have hxs : ∀ z ∈ s :: ys, 0 ≤ z ∧ z < f.base := fun z hz => hx z (List.mem_of_mem_drop (hy ▸ hz))
      have e1 : atI (xs.map D.int) (k : Int) = some (.int s) := fi_at (by omega) hy
      have hy1 : xs.drop (k + 1) = ys := by rw [← List.drop_drop, hy]; rfl
      have e3 := law_use (f := f) (s := s)
      have e4 : phi__law_long [f.d, fileD xs, .int ((k : Int) + 1)] = some (.d (longF f xs.length (k + 1) ys).d) := by
        have := law_long (k := k + 1) o (by omega) hx
        rw [hy1] at this
        exact this
      have i1 := useE_in (u := useOf f s)
      have i2 := useE_w (u := useOf f s)
      have i3 := useE_end (u := useOf f s)
      have i4 := useE_stop (u := useOf f s)
      have i5 := useE_check (u := useOf f s)
      rw [beh_cons]
      dsimp only [step]
      have main : ∀ u, useOf f s = some u → u.tells = true → kE0 (kSeq stE (whileD stC stW (fuel + 1) [.val f.d, .val (fileD xs), .val (.int xs.length), c3, .val (.int k), c5, c6, c7, c8, c9])) = some (.d (optD (beh f (.length u) ys))) := fun u hu ht => st_main o hx (fun k2 d3 d5 d6 d7 d8 d9 g1 g2 => ih k2 fuel d3 d5 d6 d7 d8 d9 g1 g2 (by omega)) h1 hy hn hu ht
      cases hu : useOf f s with
      | none =>
        rw [hu] at i1 i2 i3 i4 i5 e3
        dsimp only [useE, tagS, optD] at *
        clear ih main hx hl hn hy hxs h1 h2 h3 hy1
        walk_at "ev"
      | some u =>
        cases u with
        | fin =>
          rw [hu] at i1 i2 i3 i4 i5 e3
          dsimp only [tagS] at *
          rw [beh_room]
          dsimp only [useE, optD, Std.d] at *
          clear ih main hx hl hn hy hxs h1 h2 h3 hy1
          walk_at "ev"
        | stop =>
          rw [hu] at i1 i2 i3 i4 i5 e3
          dsimp only [useE, tagS] at *
          cases ys with
          | nil =>
            have e5 : ¬ (k : Int) + 1 < xs.length := by simp at hn; omega
            dsimp only [beh, optD, Std.d]
            clear ih main hx hl hn hy hxs h1 h2 h3 hy1
            walk_at "ev"
          | cons y ys =>
            have e5 : (k : Int) + 1 < xs.length := by simp at hn; omega
            dsimp only [beh, step, optD, Std.d]
            clear ih main hx hl hn hy hxs h1 h2 h3 hy1
            walk_at "ev"
        | keep => exact main _ hu rfl
        | check => exact main _ hu rfl
        | skip => exact main _ hu rfl
end Dv

set_option Elab.async false
set_option linter.all false
set_option maxRecDepth 100000
set_option maxHeartbeats 4000000
namespace Dv
open PySem PySem.Spec PyProof.Rows L2
local macro_rules | `(tactic| walk_at "ev") => `(tactic| simp only [kRet_s, ev_name, ev_c, nm_val, nm_own, nm_bor, der_d, der_nw, der_sl, sl_own, sl_bor, sl_val, ev_bin, kBin_s, kBin2_s, kBin3_s, kBin4_s, ev_b1, kOne_s, kOne2_s, kRetD_s, ev_un, kUn1_s, kUn12_s, gNeg_i, ev_test, kTst_s, ev_and, ev_or, ev_not, kAnd_t, kAnd_f, kOr_t, kOr_f, kNot_s, ev_notV, kBl_s, ev_andV, ev_orV, kAndV_t, kAndV_f, kOrV_t, kOrV_f, ev_if, kIfE_t, kIfE_f, ev_yes, ev_ch, kCh_s, kCh2_s, kCh3_s, kCh4_s, kCh5_t, kCh5_f, ev_nil, ev_cons, kC1_s, kC2_s, ev_rev, kRv_s, escs_nil, escs_cons, kX1_s, kX2_s, esc_d, esc_nw, esc_sl, escS_own, escS_val, ev_tup, kT1_s, kT2_s, ev_lst, kL1_s, kL2_s, ev_pno, ev_pzero, ev_pint, kPI_s, ev_sl, kS1_s, kS2_s, kS3_s, kS4_s, ev_lrg, kR1_s, kR2_s, ev_call, kF1_s, kF2_s, kF3_s, ders_nil, ders_cons, kD1_s, kD2_s, rt_d, rt_nw, ev_call1, kG1_s, kG2_s, kG3_s, kG4_s, ow_own, ow_bor, put_own, put_bor, ev_iseq, kI1_s, kI2_t, kI2_l, kI2_f, ev_irg1, kN1_u, kN1_i, ev_irg2, kN2_s, kN3_u, ev_lc, kV1_s, kV2_s, ev_seq, kSeq_n, kSeq_r, kSeq_b, kSeq_c, ev_skip, ev_break, ev_cont, ev_retN, ev_ret, kRt_s, ev_sif, kIf_t, kIf_f, ev_drop, kDr_s, ev_set, kSt_s, kSt2_s, ev_own, kOw_s, ev_unp, kUn_s, kUn2_s, kNx_s, bt_nm, bt_tp, sa_nil, sa_cons, ev_par, kPa_s, sp_nil, sp_own, sp_val, ev_app, kAp_s, kAp2_s, kAp3_s, kAp4_s, ev_sti, kSi_s, kSi2_s, kSi3_s, kSi4_s, kSi5_s, kSi6_s, ev_aug, kAg_s, kAg2_s, val_s, ev_for, kFo_s, loop_nil, loop_cons, kLp_s, kLp_n, kLp_c, kLp_b, kLp_r, ev_while, while_s, kWh_f, kWh_t, kWh_n, kWh_c, kWh_b, kWh_r, lc_nil, lc_cons, kLc1_s, kLc2_t, kLc2_f, kLc3_s, kLc4_s, run0_k, kE0_r, kE0_n, rtOf_d, rtOf_nw, rtOf_sl, rtS_own, run1_k, kE1_r, kE1_n, kE2_s, bor_s, gAdd_i, gAdd_l, gAdd_t, gSub_i, gMul_i, gMod_i, gDiv_i, gPow_i, gEq_i, gEq_s, gEq_b, gCmp_i, gIs_n, gInt_i, gInt_b, gMax_i, gMin_i, gAbs_i, gTup_t, gTup_l, gLen_t, gLen_l, gLen_f, gIx_t, gIx_l, gIx_f, kIx_s, at_0, at_1, at_2, at_3, at_4, at_5, gSl_t, gSl_l,
  List.map_cons, List.map_nil, List.cons_append, List.nil_append, List.append_nil, List.length_cons, List.length_nil, List.replicate_succ, List.replicate_zero, Nat.reduceSub, Nat.reduceAdd, List.getElem?_cons_zero, List.getElem?_cons_succ, List.getElem?_nil, List.set_cons_zero, List.set_cons_succ, List.set_nil, Nat.zero_add, Nat.add_zero,
  List.all_cons, List.all_nil, notSl, Bool.and_true, Bool.true_and, Bool.or_true, Bool.true_or, Bool.and_false, Bool.false_and, Bool.or_false, Bool.false_or, if_true, if_false, Bool.false_eq_true, reduceIte, Bool.not_true, Bool.not_false, Bool.bne_true, Bool.bne_false, decide_true, decide_false, wipeE, backE, backS, nc_0, List.length_map, rg_len, Nat.reduceLeDiff, fd_ix, fi_ix, fi_len, fi_it, dcs, eq_self, Int.reduceEq, Int.reduceLT, Int.reduceLE, Int.reduceAdd, Int.reduceSub, Int.reduceMul, Int.reduceToNat, gIs_c, mkD_n, mkD_s, items, and_true, true_and, and_self, bne_self_eq_false, wt, gIn_t, gIsi_i, gIsi_t, gIsi_s, gIsi_n, gIsi_b, flatD, eqF_s, eqF_i, eqF_n, List.any_cons, List.any_nil, Rt.o, Option.bind_some, phi0_s, phi1_s, List.reverse_cons, List.reverse_nil, decide_eq_true_eq, *])
/-! ### the law's own stand, from the head on -/
theorem rg_range {n : Nat} : rgD 0 n = (List.range' 0 n).map fun i : Nat => D.int (i : Int) := by
  unfold rgD
  rw [List.range_eq_range']
  apply List.map_congr_left
  intro i _
  rw [Int.zero_add]
theorem sh_loop {f : Frm} {xs : List Int} (o : f.Ok) (hx : ∀ x ∈ xs, 0 ≤ x ∧ x < f.base) (hl : xs.length ≤ 900000) : ∀ (m j : Nat) (c3 : Sl), f.head.length = j + m → j ≤ xs.length →
    kE0 (kSeq stR (loopD (.nm 3) stH ((List.range' j m).map fun i : Nat => D.int (i : Int)) [.val f.d, .val (fileD xs), .val (.int xs.length), c3, .un, .un, .un, .un, .un, .un])) = some (.d (optD (beh f (behM f j) (xs.drop j))))
  | 0, j, c3, hm, hj => by
    have eb : behM f j = .tag := by unfold behM; rw [if_neg (by omega)]
    rw [eb]
    obtain ⟨N, hN⟩ : ∃ N : Nat, N = 1000000 := ⟨_, rfl⟩
    have e := st_loop o hx hl 900000 j N c3 .un .un .un .un .un (by omega) hj (by omega)
    have e0 : ∀ ρ : Ev, wh__law_stand_of_1 ρ = N := fun _ => hN.symm ▸ rfl
    have e1 : (j : Int) = f.head.length := by omega
    rw [e1] at e
    rw [← e]
    clear e hN
    unfold stR
    rw [List.range'_zero]
    walk_at "ev"
  | m + 1, j, c3, hm, hj => by
    have hk : j < f.head.length := by omega
    have eb : behM f j = .head j := by unfold behM; rw [if_pos hk]
    rw [eb, List.range'_succ, List.map_cons]
    have e0 : atI (f.head.map mkD) (j : Int) = some (mkD f.head[j]) := at_map (by omega) (List.getElem?_eq_getElem hk)
    cases hy : xs.drop j with
    | nil =>
      have hn := drop_len hy hj
      have e2 : (xs.length : Int) ≤ j := by simp at hn; omega
      dsimp only [beh, optD, Std.d]
      clear hy hn hx hl hm hj
      walk_at "ev"
    | cons s ys =>
      have hn := drop_len hy hj
      rw [List.length_cons] at hn
      have e2 : ¬ (xs.length : Int) ≤ j := by omega
      have e1 : atI (xs.map D.int) (j : Int) = some (.int s) := fi_at (by omega) hy
      have ih := sh_loop o hx hl m (j + 1) (.val (.int j)) (by omega) (by omega)
      rw [← List.drop_drop, hy, show List.drop 1 (s :: ys) = ys from rfl] at ih
      rw [beh_cons]
      dsimp only [step]
      rw [List.getElem?_eq_getElem hk]
      cases hm2 : f.head[j] with
      | none =>
        rw [hm2] at e0
        dsimp only
        rw [← ih]
        clear ih hy hn hx hl hm hj
        walk_at "ev"
      | some q =>
        rw [hm2] at e0
        dsimp only
        by_cases h : q = s
        · rw [if_pos h]
          have e3 : decide (q = s) = true := decide_eq_true h
          dsimp only
          rw [← ih]
          clear ih hy hn hx hl hm hj h
          walk_at "ev"
        · rw [if_neg h]
          dsimp only [optD]
          clear ih hy hn hx hl hm hj
          walk_at "ev"
theorem stand_of_ok {f : Frm} {xs : List Int} (o : f.Ok) (hx : ∀ x ∈ xs, 0 ≤ x ∧ x < f.base) (hl : xs.length ≤ 900000) : phi__law_stand_of [f.d, fileD xs] = some (.d (optD (beh f (behM f 0) xs))) := by
  have e := sh_loop o hx hl f.head.length 0 .un (by omega) (by omega)
  rw [List.drop_zero] at e
  rw [← e, ← rg_range]
  have h1 : f.head.length ≤ 16777216 := by have := o.hl; omega
  clear e
  unfold phi__law_stand_of g__law_stand_of
  walk_at "ev"
end Dv

set_option Elab.async false
set_option linter.all false
set_option maxRecDepth 100000
set_option maxHeartbeats 4000000
namespace Dv
open PySem PySem.Spec PyProof.Rows L2
theorem isi2_c : (∀ i, gIsi2 "list" "tuple" (.int i) = some (.d (.bl false))) ∧ (∀ i, gIsi2 "list" "tuple" (.str i) = some (.d (.bl false))) ∧ gIsi2 "list" "tuple" .non = some (.d (.bl false)) ∧ (∀ i, gIsi2 "list" "tuple" (.tup i) = some (.d (.bl true))) ∧ (∀ i, gIsi2 "list" "tuple" (.lst i) = some (.d (.bl true))) := ⟨fun _ => rfl, fun _ => rfl, rfl, fun _ => rfl, fun _ => rfl⟩
theorem gEq_n {n : Bool} : gEq n .non .non = some (.d (.bl (true != n))) := rfl
theorem gEq_l {n : Bool} : gEq n (.lst []) (.lst []) = some (.d (.bl (true != n))) := rfl
end Dv

set_option Elab.async false
set_option linter.all false
set_option maxRecDepth 100000
set_option maxHeartbeats 4000000
namespace Dv
open PySem PySem.Spec PyProof.Rows L2
local macro_rules | `(tactic| walk_at "ev") => `(tactic| simp only [kRet_s, ev_name, ev_c, nm_val, nm_own, nm_bor, der_d, der_nw, der_sl, sl_own, sl_bor, sl_val, ev_bin, kBin_s, kBin2_s, kBin3_s, kBin4_s, ev_b1, kOne_s, kOne2_s, kRetD_s, ev_un, kUn1_s, kUn12_s, gNeg_i, ev_test, kTst_s, ev_and, ev_or, ev_not, kAnd_t, kAnd_f, kOr_t, kOr_f, kNot_s, ev_notV, kBl_s, ev_andV, ev_orV, kAndV_t, kAndV_f, kOrV_t, kOrV_f, ev_if, kIfE_t, kIfE_f, ev_yes, ev_ch, kCh_s, kCh2_s, kCh3_s, kCh4_s, kCh5_t, kCh5_f, ev_nil, ev_cons, kC1_s, kC2_s, ev_rev, kRv_s, escs_nil, escs_cons, kX1_s, kX2_s, esc_d, esc_nw, esc_sl, escS_own, escS_val, ev_tup, kT1_s, kT2_s, ev_lst, kL1_s, kL2_s, ev_pno, ev_pzero, ev_pint, kPI_s, ev_sl, kS1_s, kS2_s, kS3_s, kS4_s, ev_lrg, kR1_s, kR2_s, ev_call, kF1_s, kF2_s, kF3_s, ders_nil, ders_cons, kD1_s, kD2_s, rt_d, rt_nw, ev_call1, kG1_s, kG2_s, kG3_s, kG4_s, ow_own, ow_bor, put_own, put_bor, ev_iseq, kI1_s, kI2_t, kI2_l, kI2_f, ev_irg1, kN1_u, kN1_i, ev_irg2, kN2_s, kN3_u, ev_lc, kV1_s, kV2_s, ev_seq, kSeq_n, kSeq_r, kSeq_b, kSeq_c, ev_skip, ev_break, ev_cont, ev_retN, ev_ret, kRt_s, ev_sif, kIf_t, kIf_f, ev_drop, kDr_s, ev_set, kSt_s, kSt2_s, ev_own, kOw_s, ev_unp, kUn_s, kUn2_s, kNx_s, bt_nm, bt_tp, sa_nil, sa_cons, ev_par, kPa_s, sp_nil, sp_own, sp_val, ev_app, kAp_s, kAp2_s, kAp3_s, kAp4_s, ev_sti, kSi_s, kSi2_s, kSi3_s, kSi4_s, kSi5_s, kSi6_s, ev_aug, kAg_s, kAg2_s, val_s, ev_for, kFo_s, loop_nil, loop_cons, kLp_s, kLp_n, kLp_c, kLp_b, kLp_r, ev_while, while_s, kWh_f, kWh_t, kWh_n, kWh_c, kWh_b, kWh_r, lc_nil, lc_cons, kLc1_s, kLc2_t, kLc2_f, kLc3_s, kLc4_s, run0_k, kE0_r, kE0_n, rtOf_d, rtOf_nw, rtOf_sl, rtS_own, run1_k, kE1_r, kE1_n, kE2_s, bor_s, gAdd_i, gAdd_l, gAdd_t, gSub_i, gMul_i, gMod_i, gDiv_i, gPow_i, gEq_i, gEq_s, gEq_b, gCmp_i, gIs_n, gInt_i, gInt_b, gMax_i, gMin_i, gAbs_i, gTup_t, gTup_l, gLen_t, gLen_l, gLen_f, gIx_t, gIx_l, gIx_f, kIx_s, at_0, at_1, at_2, at_3, at_4, at_5, gSl_t, gSl_l,
  List.map_cons, List.map_nil, List.cons_append, List.nil_append, List.append_nil, List.length_cons, List.length_nil, List.replicate_succ, List.replicate_zero, Nat.reduceSub, Nat.reduceAdd, List.getElem?_cons_zero, List.getElem?_cons_succ, List.getElem?_nil, List.set_cons_zero, List.set_cons_succ, List.set_nil, Nat.zero_add, Nat.add_zero,
  List.all_cons, List.all_nil, notSl, Bool.and_true, Bool.true_and, Bool.or_true, Bool.true_or, Bool.and_false, Bool.false_and, Bool.or_false, Bool.false_or, if_true, if_false, Bool.false_eq_true, reduceIte, Bool.not_true, Bool.not_false, Bool.bne_true, Bool.bne_false, decide_true, decide_false, wipeE, backE, backS, nc_0, List.length_map, rg_len, Nat.reduceLeDiff, fd_ix, fi_ix, fi_len, fi_it, dcs, eq_self, Int.reduceEq, Int.reduceLT, Int.reduceLE, Int.reduceAdd, Int.reduceSub, Int.reduceMul, Int.reduceToNat, gIs_c, mkD_n, mkD_s, items, and_true, true_and, and_self, bne_self_eq_false, wt, gIn_t, gIsi_i, gIsi_t, gIsi_s, gIsi_n, gIsi_b, gIsi_l, isi2_c, gEq_n, gEq_l, flatD, eqF_s, eqF_i, eqF_n, List.any_cons, List.any_nil, Rt.o, Option.bind_some, phi0_s, phi1_s, List.reverse_cons, List.reverse_nil, decide_eq_true_eq, *])
/-! ### equal values -/
theorem lc_none {t : Tg} {ft : FT} {fe : FE} {vs : List Nat} {ρ : Ev} {ds : List D} (h : ∀ d ∈ ds, ∀ ds' acc, acc.length < 16777216 → lcD t ft fe vs (d :: ds') ρ acc = lcD t ft fe vs ds' ρ acc) (hl : ds.length ≤ 16777216) : lcD t ft fe vs ds ρ [] = some ([], ρ) := by
  rw [lc_gen (f := fun _ => []) (fun _ => by simp) (fun d hd ds' acc ha => by rw [h d hd ds' acc ha, List.append_nil]) (by simpa using hl)]
  simp
theorem eqv_int {k : Nat} {i : Int} : phiR__law_equal (k + 1) [.int i, .int i] = some (.d (.bl true)) := by
  have e := isi2_c.1
  show phi0 2 3 (g__law_equal (phiR__law_equal k)) _ = _
  unfold g__law_equal
  walk_at "ev"
theorem eqv_str {k : Nat} {i : Str} : phiR__law_equal (k + 1) [.str i, .str i] = some (.d (.bl true)) := by
  have e := isi2_c.2.1
  show phi0 2 3 (g__law_equal (phiR__law_equal k)) _ = _
  unfold g__law_equal
  walk_at "ev"
theorem eqv_non {k : Nat} : phiR__law_equal (k + 1) [.non, .non] = some (.d (.bl true)) := by
  have e := isi2_c.2.2.1
  have e2 := @gEq_n
  show phi0 2 3 (g__law_equal (phiR__law_equal k)) _ = _
  unfold g__law_equal
  walk_at "ev"
theorem eqv_tup {k : Nat} {ds : List D} (hl : ds.length ≤ 1000) (h : ∀ d ∈ ds, phiR__law_equal k [d, d] = some (.d (.bl true))) : phiR__law_equal (k + 1) [.tup ds, .tup ds] = some (.d (.bl true)) := by
  have e := isi2_c.2.2.2.1
  have e2 := @gEq_l
  have e3 := lc_none (t := .nm 2) (ft := fNot (fTest (fCall (phiR__law_equal k) (aCons (fBin gIx (fName 0) (fName 2)) (aCons (fBin gIx (fName 1) (fName 2)) aNil))))) (fe := fName 2) (vs := [2]) (ρ := [.val (.tup ds), .val (.tup ds), .un]) (ds := rgD 0 ds.length) (fun d hd ds' acc ha => by
    obtain ⟨j, hj, rfl⟩ := rg_mem hd
    rw [Int.zero_add]
    have e4 : atI ds (j : Int) = some ds[j] := by rw [at_cast]; exact List.getElem?_eq_getElem hj
    have e5 := h ds[j] (List.getElem_mem hj)
    clear h hd
    walk_at "ev") (by rw [rg_len]; omega)
  have h1 : ds.length ≤ 16777216 := by omega
  clear h
  show phi0 2 3 (g__law_equal (phiR__law_equal k)) _ = _
  unfold g__law_equal
  walk_at "ev"
theorem eqv_lst {k : Nat} {ds : List D} (hl : ds.length ≤ 1000) (h : ∀ d ∈ ds, phiR__law_equal k [d, d] = some (.d (.bl true))) : phiR__law_equal (k + 1) [.lst ds, .lst ds] = some (.d (.bl true)) := by
  have e := isi2_c.2.2.2.2
  have e2 := @gEq_l
  have e3 := lc_none (t := .nm 2) (ft := fNot (fTest (fCall (phiR__law_equal k) (aCons (fBin gIx (fName 0) (fName 2)) (aCons (fBin gIx (fName 1) (fName 2)) aNil))))) (fe := fName 2) (vs := [2]) (ρ := [.val (.lst ds), .val (.lst ds), .un]) (ds := rgD 0 ds.length) (fun d hd ds' acc ha => by
    obtain ⟨j, hj, rfl⟩ := rg_mem hd
    rw [Int.zero_add]
    have e4 : atI ds (j : Int) = some ds[j] := by rw [at_cast]; exact List.getElem?_eq_getElem hj
    have e5 := h ds[j] (List.getElem_mem hj)
    clear h hd
    walk_at "ev") (by rw [rg_len]; omega)
  have h1 : ds.length ≤ 16777216 := by omega
  clear h
  show phi0 2 3 (g__law_equal (phiR__law_equal k)) _ = _
  unfold g__law_equal
  walk_at "ev"
theorem eqv_use {k : Nat} (u : Us) : phiR__law_equal (k + 1) [u.s, u.s] = some (.d (.bl true)) := by
  cases u <;> exact eqv_str
theorem eqv_opt {k : Nat} (s : Option Std) : phiR__law_equal (k + 2) [optD s, optD s] = some (.d (.bl true)) := by
  cases s with
  | none => exact eqv_non
  | some s =>
    cases s <;> (refine eqv_tup (by simp) ?_; simp only [List.forall_mem_cons, List.not_mem_nil, false_implies, implies_true, and_true]; simp only [eqv_int, eqv_str, eqv_use, and_self])
theorem equal_ok {a b : Option Std} : phi__law_equal [.lst [optD a, optD b], .lst [optD a, optD b]] = some (.d (.bl true)) :=
  eqv_lst (k := 7) (by simp) (by simp only [List.forall_mem_cons, List.not_mem_nil, false_implies, implies_true, and_true]; exact ⟨eqv_opt (k := 5) a, eqv_opt (k := 5) b⟩)
end Dv

set_option Elab.async false
set_option linter.all false
set_option maxRecDepth 100000
set_option maxHeartbeats 4000000
namespace Dv
open PySem PySem.Spec PyProof.Rows L2
local macro_rules | `(tactic| walk_at "ev") => `(tactic| simp only [kRet_s, ev_name, ev_c, nm_val, nm_own, nm_bor, der_d, der_nw, der_sl, sl_own, sl_bor, sl_val, ev_bin, kBin_s, kBin2_s, kBin3_s, kBin4_s, ev_b1, kOne_s, kOne2_s, kRetD_s, ev_un, kUn1_s, kUn12_s, gNeg_i, ev_test, kTst_s, ev_and, ev_or, ev_not, kAnd_t, kAnd_f, kOr_t, kOr_f, kNot_s, ev_notV, kBl_s, ev_andV, ev_orV, kAndV_t, kAndV_f, kOrV_t, kOrV_f, ev_if, kIfE_t, kIfE_f, ev_yes, ev_ch, kCh_s, kCh2_s, kCh3_s, kCh4_s, kCh5_t, kCh5_f, ev_nil, ev_cons, kC1_s, kC2_s, ev_rev, kRv_s, escs_nil, escs_cons, kX1_s, kX2_s, esc_d, esc_nw, esc_sl, escS_own, escS_val, ev_tup, kT1_s, kT2_s, ev_lst, kL1_s, kL2_s, ev_pno, ev_pzero, ev_pint, kPI_s, ev_sl, kS1_s, kS2_s, kS3_s, kS4_s, ev_lrg, kR1_s, kR2_s, ev_call, kF1_s, kF2_s, kF3_s, ders_nil, ders_cons, kD1_s, kD2_s, rt_d, rt_nw, ev_call1, kG1_s, kG2_s, kG3_s, kG4_s, ow_own, ow_bor, put_own, put_bor, ev_iseq, kI1_s, kI2_t, kI2_l, kI2_f, ev_irg1, kN1_u, kN1_i, ev_irg2, kN2_s, kN3_u, ev_lc, kV1_s, kV2_s, ev_seq, kSeq_n, kSeq_r, kSeq_b, kSeq_c, ev_skip, ev_break, ev_cont, ev_retN, ev_ret, kRt_s, ev_sif, kIf_t, kIf_f, ev_drop, kDr_s, ev_set, kSt_s, kSt2_s, ev_own, kOw_s, ev_unp, kUn_s, kUn2_s, kNx_s, bt_nm, bt_tp, sa_nil, sa_cons, ev_par, kPa_s, sp_nil, sp_own, sp_val, ev_app, kAp_s, kAp2_s, kAp3_s, kAp4_s, ev_sti, kSi_s, kSi2_s, kSi3_s, kSi4_s, kSi5_s, kSi6_s, ev_aug, kAg_s, kAg2_s, val_s, ev_for, kFo_s, loop_nil, loop_cons, kLp_s, kLp_n, kLp_c, kLp_b, kLp_r, ev_while, while_s, kWh_f, kWh_t, kWh_n, kWh_c, kWh_b, kWh_r, lc_nil, lc_cons, kLc1_s, kLc2_t, kLc2_f, kLc3_s, kLc4_s, run0_k, kE0_r, kE0_n, rtOf_d, rtOf_nw, rtOf_sl, rtS_own, run1_k, kE1_r, kE1_n, kE2_s, bor_s, gAdd_i, gAdd_l, gAdd_t, gSub_i, gMul_i, gMod_i, gDiv_i, gPow_i, gEq_i, gEq_s, gEq_b, gCmp_i, gIs_n, gInt_i, gInt_b, gMax_i, gMin_i, gAbs_i, gTup_t, gTup_l, gLen_t, gLen_l, gLen_f, gIx_t, gIx_l, gIx_f, kIx_s, at_0, at_1, at_2, at_3, at_4, at_5, gSl_t, gSl_l,
  List.map_cons, List.map_nil, List.cons_append, List.nil_append, List.append_nil, List.length_cons, List.length_nil, List.replicate_succ, List.replicate_zero, Nat.reduceSub, Nat.reduceAdd, List.getElem?_cons_zero, List.getElem?_cons_succ, List.getElem?_nil, List.set_cons_zero, List.set_cons_succ, List.set_nil, Nat.zero_add, Nat.add_zero,
  List.all_cons, List.all_nil, notSl, Bool.and_true, Bool.true_and, Bool.or_true, Bool.true_or, Bool.and_false, Bool.false_and, Bool.or_false, Bool.false_or, if_true, if_false, Bool.false_eq_true, reduceIte, Bool.not_true, Bool.not_false, Bool.bne_true, Bool.bne_false, decide_true, decide_false, wipeE, backE, backS, nc_0, List.length_map, rg_len, Nat.reduceLeDiff, fd_ix, fi_ix, fi_len, fi_it, dcs, eq_self, Int.reduceEq, Int.reduceLT, Int.reduceLE, Int.reduceAdd, Int.reduceSub, Int.reduceMul, Int.reduceToNat, gIs_c, mkD_n, mkD_s, items, and_true, true_and, and_self, bne_self_eq_false, wt, gIn_t, gIsi_i, gIsi_t, gIsi_s, gIsi_n, gIsi_b, gIsi_l, isi2_c, gEq_n, gEq_l, flatD, eqF_s, eqF_i, eqF_n, List.any_cons, List.any_nil, Rt.o, Option.bind_some, phi0_s, phi1_s, List.reverse_cons, List.reverse_nil, decide_eq_true_eq, *])
/-! ### the law's own reading: chunks -/
theorem str_use : ∀ u : Us, ∃ s, u.s = .str s ∧ PyData.strOk s = true
  | .keep => ⟨_, rfl, by decide +kernel⟩
  | .check => ⟨_, rfl, by decide +kernel⟩
  | .skip => ⟨_, rfl, by decide +kernel⟩
  | .fin => ⟨_, rfl, by decide +kernel⟩
  | .stop => ⟨_, rfl, by decide +kernel⟩
theorem lay_tags : ∀ (xs : List (Int × Us)), PyData.canLayAll0 (toPys (xs.map tgD)) = true
  | [] => rfl
  | x :: xs => by
    rw [List.map_cons, toPys, PyData.canLayAll0, lay_tags xs]
    unfold tgD
    obtain ⟨s, e1, e2⟩ := str_use x.2
    rw [e1]
    simp [toPy, toPys, PyData.canLay0, PyData.canLayAll0, e2]
theorem deep_tags : ∀ (xs : List (Int × Us)), PyData.depthAll (toPys (xs.map tgD)) ≤ 63
  | [] => by simp [toPys, PyData.depthAll]
  | x :: xs => by
    have ih := deep_tags xs
    rw [List.map_cons, toPys, PyData.depthAll]
    obtain ⟨s, e1, e2⟩ := str_use x.2
    have h : (toPy (tgD x)).depth ≤ 63 := by
      unfold tgD
      rw [e1]
      simp [toPy, toPys, PyData.depth, PyData.depthAll]
    omega
theorem gEq_tags {n : Bool} {xs : List (Int × Us)} : gEq n (.lst (xs.map tgD)) (.lst []) = some (.d (.bl (xs.isEmpty != n))) := by
  show (if okP _ = true ∧ okP _ = true then some (Opd.d (.bl (eqP _ _ != n))) else none) = _
  have h1 : okP (.lst (xs.map tgD)) = true := by
    unfold okP SeqAt.shaped
    have := lay_tags xs
    have := deep_tags xs
    rw [toPy]
    simp [PyData.canLay0, PyData.depth, *]
  rw [if_pos ⟨h1, rfl⟩]
  congr 4
  unfold eqP
  cases xs with
  | nil => rfl
  | cons x xs => simp [toPy, toPys, PyData.eqv, PyData.eqvAll]
theorem beh_app {f : Frm} : ∀ (xs ys : List Int) (s : Std), beh f s (xs ++ ys) = (beh f s xs).bind fun s => beh f s ys
  | [], ys, s => rfl
  | x :: xs, ys, s => by
    rw [List.cons_append, beh_cons, beh_cons]
    cases step f s x with
    | none => rfl
    | some s' => exact beh_app xs ys s'
inductive Ch | ok (b : List Int) (p : Nat) | short (n : Nat) | bad (i : Nat) (w : Bool)
def Ch.d : Ch → D
  | .ok b p => .tup [fileD b, .int p]
  | .short n => .tup [.non, .tup [.int n, .str "short"]]
  | .bad i true => .tup [.non, .tup [.int i, .str "length"]]
  | .bad i false => .tup [.non, .tup [.int i, .str "check"]]
def chunkF (f : Frm) (n k : Nat) (u : Us) (ys : List Int) : Ch := match longF f n k ys with
  | .short q => .short q
  | .long q => .bad q true
  | .ok w p => if ((ys.drop (p - k)).length : Int) < w then .short n else if u.isC then (match (ys.drop (p - k)).drop w.toNat with
      | [] => .short n
      | z :: _ => if z = ((ys.drop (p - k)).take w.toNat).sum % f.base then .ok ((ys.drop (p - k)).take w.toNat) (p + w.toNat + 1) else .bad (p + w.toNat) false)
    else .ok ((ys.drop (p - k)).take w.toNat) (p + w.toNat)
theorem law_chunk {f : Frm} {xs : List Int} {k : Nat} {u : Us} (o : f.Ok) (hk : k ≤ xs.length) (hx : ∀ x ∈ xs, 0 ≤ x ∧ x < f.base) : phi__law_chunk [f.d, fileD xs, .int k, u.s] = some (.d (chunkF f xs.length k u (xs.drop k)).d) := by
  have hb : 0 < f.base := by have := o.b0; omega
  have e4 := law_long o hk hx
  have hdx : ∀ z ∈ xs.drop k, 0 ≤ z ∧ z < f.base := fun z hz => hx z (List.mem_of_mem_drop hz)
  have j5 : gEq true u.s (.str "check") = some (.d (.bl (!u.isC))) := by cases u <;> rfl
  have g0 : ∀ ys, gIs false (fileD ys) .non = some (.d (.bl false)) := fun _ => rfl
  unfold chunkF
  cases hL : longF f xs.length k (xs.drop k) with
  | short q =>
    rw [hL] at e4
    dsimp only [Lo.d, Ch.d] at e4 ⊢
    unfold phi__law_chunk g__law_chunk
    clear hx hdx hL
    walk_at "ev"
  | long q =>
    rw [hL] at e4
    dsimp only [Lo.d, Ch.d] at e4 ⊢
    unfold phi__law_chunk g__law_chunk
    clear hx hdx hL
    walk_at "ev"
  | ok w p =>
    rw [hL] at e4
    dsimp only [Lo.d] at e4 ⊢
    obtain ⟨w0, w1, p0, p1⟩ := long_ok o hdx hL
    have hdl : (xs.drop k).length = xs.length - k := List.length_drop
    have hz : (xs.drop k).drop (p - k) = xs.drop p := by rw [List.drop_drop]; congr 1; omega
    rw [hz]
    have hzl : (xs.drop p).length = xs.length - p := List.length_drop
    have e7 : gSl (fileD xs) (some (p : Int)) (some ((p : Int) + w)) = some (.d (fileD ((xs.drop p).take w.toNat))) := by
      rw [fi_sl (by omega) (by omega)]
      congr 5; omega
    have e8 := sum_file (xs := (xs.drop p).take w.toNat)
    have e9 : ∀ z : Int, gMod (.int z) (.int f.base) = some (.d (.int (z % f.base))) := fun z => gMod_i hb
    by_cases hs : ((xs.drop p).length : Int) < w
    · rw [if_pos hs]
      have g1 : (xs.length : Int) < (p : Int) + w := by omega
      dsimp only [Ch.d]
      unfold phi__law_chunk g__law_chunk
      clear hx hdx hL hz hzl hs w0 w1 p0 p1 hdl
      walk_at "ev"
    · rw [if_neg hs]
      have g1 : ¬ (xs.length : Int) < (p : Int) + w := by omega
      have cz : ((p + w.toNat : Nat) : Int) = (p : Int) + w := by omega
      have cz1 : ((p + w.toNat + 1 : Nat) : Int) = (p : Int) + w + 1 := by omega
      have dz : (xs.drop p).drop w.toNat = xs.drop (p + w.toNat) := List.drop_drop
      rw [dz]
      cases hc : u.isC with
      | true =>
        rw [hc] at j5
        rw [if_pos rfl]
        cases hd : xs.drop (p + w.toNat) with
        | nil =>
          have g4 : (xs.length : Int) ≤ (p : Int) + w := by have := List.drop_eq_nil_iff.mp hd; omega
          dsimp only [Ch.d]
          unfold phi__law_chunk g__law_chunk
          clear hx hdx hL hz hzl hs w0 w1 p0 p1 hdl hd dz hc cz cz1
          walk_at "ev"
        | cons z zs =>
          have hlz := drop_len hd (by omega)
          rw [List.length_cons] at hlz
          have g4 : ¬ (xs.length : Int) ≤ (p : Int) + w := by omega
          have g5 : atI (xs.map D.int) ((p : Int) + w) = some (.int z) := fi_at (ys := zs) (by omega) (by rw [← cz]; exact hd)
          dsimp only
          by_cases hz2 : z = ((xs.drop p).take w.toNat).sum % f.base
          · rw [if_pos hz2]
            have g6 : decide (z = ((xs.drop p).take w.toNat).sum % f.base) = true := decide_eq_true hz2
            dsimp only [Ch.d]
            rw [cz1]
            unfold phi__law_chunk g__law_chunk
            clear hx hdx hL hz hzl hs w0 w1 p0 p1 hdl hd dz hc cz cz1 hz2 hlz
            walk_at "ev"
          · rw [if_neg hz2]
            have g6 : decide (z = ((xs.drop p).take w.toNat).sum % f.base) = false := decide_eq_false hz2
            dsimp only [Ch.d]
            rw [cz]
            unfold phi__law_chunk g__law_chunk
            clear hx hdx hL hz hzl hs w0 w1 p0 p1 hdl hd dz hc cz cz1 hz2 hlz
            walk_at "ev"
      | false =>
        rw [hc] at j5
        rw [if_neg (fun h => nomatch h)]
        dsimp only [Ch.d]
        rw [cz]
        unfold phi__law_chunk g__law_chunk
        clear hx hdx hL hz hzl hs w0 w1 p0 p1 hdl dz hc cz cz1
        walk_at "ev"
theorem longF_take {f : Frm} {ys : List Int} {n n' k p r : Nat} {w : Int} (h : longF f n k ys = .ok w p) (hr : p - k ≤ r) : longF f n' k (ys.take r) = .ok w p := by
  unfold longF longG at h ⊢
  cases ys with
  | nil => cases h
  | cons a ys =>
    dsimp only at h
    cases hw : f.width with
    | one =>
      rw [hw] at h
      dsimp only at h
      split at h
      · rename_i h2
        cases h
        obtain ⟨r, rfl⟩ : ∃ q, r = q + 1 := ⟨r - 1, by omega⟩
        rw [List.take_succ_cons]
        dsimp only
        rw [if_pos h2]
      · cases h
    | high =>
      rw [hw] at h
      dsimp only at h
      split at h
      · cases h
      · rename_i h1
        cases ys with
        | nil => cases h
        | cons b ys =>
          dsimp only at h
          split at h
          · rename_i h2
            cases h
            obtain ⟨r, rfl⟩ : ∃ q, r = q + 2 := ⟨r - 2, by omega⟩
            rw [List.take_succ_cons, List.take_succ_cons]
            dsimp only
            rw [if_neg h1, if_pos h2]
          · cases h
    | low =>
      rw [hw] at h
      dsimp only at h
      split at h
      · cases h
      · rename_i h1
        cases ys with
        | nil => cases h
        | cons b ys =>
          dsimp only at h
          split at h
          · rename_i h2
            cases h
            obtain ⟨r, rfl⟩ : ∃ q, r = q + 2 := ⟨r - 2, by omega⟩
            rw [List.take_succ_cons, List.take_succ_cons]
            dsimp only
            rw [if_neg h1, if_pos h2]
          · cases h
theorem long_bad {f : Frm} {u : Us} {ys : List Int} {n k q : Nat} (hn : n = k + ys.length) (h : longF f n k ys = .long q) : k ≤ q ∧ q < n ∧ (beh f (.length u) (ys.take (q - k))).isSome = true := by
  unfold longF longG at h
  cases ys with
  | nil => cases h
  | cons a ys =>
    dsimp only at h
    rw [List.length_cons] at hn
    cases hw : f.width with
    | one =>
      rw [hw] at h
      dsimp only at h
      split at h
      · cases h
      · cases h
        refine ⟨by omega, by omega, ?_⟩
        rw [Nat.sub_self]; rfl
    | high =>
      rw [hw] at h
      dsimp only at h
      split at h
      · cases h
        refine ⟨by omega, by omega, ?_⟩
        rw [Nat.sub_self]; rfl
      · rename_i h1
        cases ys with
        | nil => cases h
        | cons b ys =>
          dsimp only at h
          split at h
          · cases h
          · cases h
            rw [List.length_cons] at hn
            refine ⟨by omega, by omega, ?_⟩
            rw [show k + 1 - k = 1 by omega]
            show (beh f (.length u) [a]).isSome = true
            rw [beh_cons]
            dsimp only [step, firstS]
            rw [if_neg h1, hw]
            rfl
    | low =>
      rw [hw] at h
      dsimp only at h
      split at h
      · cases h
        refine ⟨by omega, by omega, ?_⟩
        rw [Nat.sub_self]; rfl
      · rename_i h1
        cases ys with
        | nil => cases h
        | cons b ys =>
          dsimp only at h
          split at h
          · cases h
          · cases h
            rw [List.length_cons] at hn
            refine ⟨by omega, by omega, ?_⟩
            rw [show k + 1 - k = 1 by omega]
            show (beh f (.length u) [a]).isSome = true
            rw [beh_cons]
            dsimp only [step, firstS]
            rw [if_neg h1, hw]
            rfl
end Dv

set_option Elab.async false
set_option linter.all false
set_option maxRecDepth 100000
set_option maxHeartbeats 4000000
namespace Dv
open PySem PySem.Spec PyProof.Rows L2
local macro_rules | `(tactic| walk_at "ev") => `(tactic| simp only [kRet_s, ev_name, ev_c, nm_val, nm_own, nm_bor, der_d, der_nw, der_sl, sl_own, sl_bor, sl_val, ev_bin, kBin_s, kBin2_s, kBin3_s, kBin4_s, ev_b1, kOne_s, kOne2_s, kRetD_s, ev_un, kUn1_s, kUn12_s, gNeg_i, ev_test, kTst_s, ev_and, ev_or, ev_not, kAnd_t, kAnd_f, kOr_t, kOr_f, kNot_s, ev_notV, kBl_s, ev_andV, ev_orV, kAndV_t, kAndV_f, kOrV_t, kOrV_f, ev_if, kIfE_t, kIfE_f, ev_yes, ev_ch, kCh_s, kCh2_s, kCh3_s, kCh4_s, kCh5_t, kCh5_f, ev_nil, ev_cons, kC1_s, kC2_s, ev_rev, kRv_s, escs_nil, escs_cons, kX1_s, kX2_s, esc_d, esc_nw, esc_sl, escS_own, escS_val, ev_tup, kT1_s, kT2_s, ev_lst, kL1_s, kL2_s, ev_pno, ev_pzero, ev_pint, kPI_s, ev_sl, kS1_s, kS2_s, kS3_s, kS4_s, ev_lrg, kR1_s, kR2_s, ev_call, kF1_s, kF2_s, kF3_s, ders_nil, ders_cons, kD1_s, kD2_s, rt_d, rt_nw, ev_call1, kG1_s, kG2_s, kG3_s, kG4_s, ow_own, ow_bor, put_own, put_bor, ev_iseq, kI1_s, kI2_t, kI2_l, kI2_f, ev_irg1, kN1_u, kN1_i, ev_irg2, kN2_s, kN3_u, ev_lc, kV1_s, kV2_s, ev_seq, kSeq_n, kSeq_r, kSeq_b, kSeq_c, ev_skip, ev_break, ev_cont, ev_retN, ev_ret, kRt_s, ev_sif, kIf_t, kIf_f, ev_drop, kDr_s, ev_set, kSt_s, kSt2_s, ev_own, kOw_s, ev_unp, kUn_s, kUn2_s, kNx_s, bt_nm, bt_tp, sa_nil, sa_cons, ev_par, kPa_s, sp_nil, sp_own, sp_val, ev_app, kAp_s, kAp2_s, kAp3_s, kAp4_s, ev_sti, kSi_s, kSi2_s, kSi3_s, kSi4_s, kSi5_s, kSi6_s, ev_aug, kAg_s, kAg2_s, val_s, ev_for, kFo_s, loop_nil, loop_cons, kLp_s, kLp_n, kLp_c, kLp_b, kLp_r, ev_while, while_s, kWh_f, kWh_t, kWh_n, kWh_c, kWh_b, kWh_r, lc_nil, lc_cons, kLc1_s, kLc2_t, kLc2_f, kLc3_s, kLc4_s, run0_k, kE0_r, kE0_n, rtOf_d, rtOf_nw, rtOf_sl, rtS_own, run1_k, kE1_r, kE1_n, kE2_s, bor_s, gAdd_i, gAdd_l, gAdd_t, gSub_i, gMul_i, gMod_i, gDiv_i, gPow_i, gEq_i, gEq_s, gEq_b, gCmp_i, gIs_n, gInt_i, gInt_b, gMax_i, gMin_i, gAbs_i, gTup_t, gTup_l, gLen_t, gLen_l, gLen_f, gIx_t, gIx_l, gIx_f, kIx_s, at_0, at_1, at_2, at_3, at_4, at_5, gSl_t, gSl_l,
  List.map_cons, List.map_nil, List.cons_append, List.nil_append, List.append_nil, List.length_cons, List.length_nil, List.replicate_succ, List.replicate_zero, Nat.reduceSub, Nat.reduceAdd, List.getElem?_cons_zero, List.getElem?_cons_succ, List.getElem?_nil, List.set_cons_zero, List.set_cons_succ, List.set_nil, Nat.zero_add, Nat.add_zero,
  List.all_cons, List.all_nil, notSl, Bool.and_true, Bool.true_and, Bool.or_true, Bool.true_or, Bool.and_false, Bool.false_and, Bool.or_false, Bool.false_or, if_true, if_false, Bool.false_eq_true, reduceIte, Bool.not_true, Bool.not_false, Bool.bne_true, Bool.bne_false, decide_true, decide_false, wipeE, backE, backS, nc_0, List.length_map, rg_len, Nat.reduceLeDiff, fd_ix, fi_ix, fi_len, fi_it, dcs, eq_self, Int.reduceEq, Int.reduceLT, Int.reduceLE, Int.reduceAdd, Int.reduceSub, Int.reduceMul, Int.reduceToNat, gIs_c, mkD_n, mkD_s, items, and_true, true_and, and_self, bne_self_eq_false, wt, gIn_t, gIsi_i, gIsi_t, gIsi_s, gIsi_n, gIsi_b, gIsi_l, isi2_c, gEq_n, gEq_l, flatD, eqF_s, eqF_i, eqF_n, List.any_cons, List.any_nil, Rt.o, Option.bind_some, phi0_s, phi1_s, List.reverse_cons, List.reverse_nil, decide_eq_true_eq, *])
abbrev rdH : FS := (sSeq (sIf (fTest (fBin (gCmp fun i j => decide (j ≤ i)) (fName 4) (fB1 gLen (fName 1)))) (sRet (fTup (aCons (fC .non) (aCons (fC .non) (aCons (fTup (aCons (fB1 gLen (fName 1)) (aCons (fC (.str "short")) aNil))) aNil))))) sSkip)
    (sIf (fTest (fBin (gIs false) (fBin gIx (fBin gIx (fName 0) (fC (.int 1))) (fName 4)) (fC .non))) (sApp 3 (fName 4)) (sIf (fTest (fBin (gEq true) (fBin gIx (fBin gIx (fName 0) (fC (.int 1))) (fName 4)) (fBin gIx (fName 1) (fName 4)))) (sRet (fTup (aCons (fC .non) (aCons (fC .non) (aCons (fTup (aCons (fName 4) (aCons (fC (.str "head")) aNil))) aNil))))) sSkip)))
abbrev rdC : FT := (fTest (fBin (gCmp fun i j => decide (i < j)) (fName 5) (fB1 gLen (fName 1))))
abbrev rdW : FS := (sSeq (sSet 6 (fCall phi__law_use (aCons (fName 0) (aCons (fBin gIx (fName 1) (fName 5)) aNil))))
    (sSeq (sIf (fTest (fBin (gEq false) (fName 6) (fC (.str "")))) (sRet (fTup (aCons (fC .non) (aCons (fC .non) (aCons (fTup (aCons (fName 5) (aCons (fC (.str "tag")) aNil))) aNil))))) sSkip)
    (sSeq (sIf (fTest (fBin (gEq false) (fName 6) (fC (.str "end")))) (sRet (fTup (aCons (fB1 gTuple (fName 2)) (aCons (fBin gAdd (fName 3) (fLRg (pInt (fBin gAdd (fName 5) (fC (.int 1)))) (pInt (fB1 gLen (fName 1))))) (aCons (fC .non) aNil))))) sSkip)
    (sSeq (sIf (fTest (fBin (gEq false) (fName 6) (fC (.str "stop")))) (sSeq (sSet 7 (fBin (gEq false) (fBin gAdd (fName 5) (fC (.int 1))) (fB1 gLen (fName 1))))
    (sRet (fIf (fTest (fName 7)) (fTup (aCons (fB1 gTuple (fName 2)) (aCons (fName 3) (aCons (fC .non) aNil)))) (fTup (aCons (fC .non) (aCons (fC .non) (aCons (fTup (aCons (fBin gAdd (fName 5) (fC (.int 1))) (aCons (fC (.str "behind")) aNil))) aNil))))))) sSkip)
    (sSeq (sUnp (.tp [8, 9]) (fCall phi__law_chunk (aCons (fName 0) (aCons (fName 1) (aCons (fBin gAdd (fName 5) (fC (.int 1))) (aCons (fName 6) aNil))))))
    (sSeq (sIf (fTest (fBin (gIs false) (fName 8) (fC .non))) (sRet (fTup (aCons (fC .non) (aCons (fC .non) (aCons (fName 9) aNil))))) sSkip)
    (sSeq (sIf (fTest (fBin (gEq false) (fName 6) (fC (.str "skip")))) (sOwn 3 (fBin gAdd (fName 3) (fLRg (pInt (fBin gSub (fName 9) (fB1 gLen (fName 8)))) (pInt (fName 9))))) (sApp 2 (fTup (aCons (fBin gIx (fName 1) (fName 5)) (aCons (fName 8) aNil)))))
    (sSet 5 (fName 9)))))))))
abbrev rdF : FT := (fTest (fBin (gIn false) (fBin gIx (fName 10) (fC (.int 1))) (fTup (aCons (fC (.str "end")) (aCons (fC (.str "stop")) aNil)))))
abbrev rdE : FS := (sSeq (sIf (fTest (fBin (gEq true) (fLc (iSeq (fBin gIx (fName 0) (fC (.int 4)))) (.nm 10) (fTest (fBin (gIn false) (fBin gIx (fName 10) (fC (.int 1))) (fTup (aCons (fC (.str "end")) (aCons (fC (.str "stop")) aNil))))) (fName 10) [10]) (fLst aNil))) (sRet (fTup (aCons (fC .non) (aCons (fC .non) (aCons (fTup (aCons (fB1 gLen (fName 1)) (aCons (fC (.str "short")) aNil))) aNil))))) sSkip)
    (sRet (fTup (aCons (fB1 gTuple (fName 2)) (aCons (fName 3) (aCons (fC .non) aNil))))))
abbrev rdR : FS := (sSeq (sSet 5 (fB1 gLen (fBin gIx (fName 0) (fC (.int 1)))))
    (sSeq (sWhile wh__law_reading_1 (fTest (fBin (gCmp fun i j => decide (i < j)) (fName 5) (fB1 gLen (fName 1)))) (sSeq (sSet 6 (fCall phi__law_use (aCons (fName 0) (aCons (fBin gIx (fName 1) (fName 5)) aNil))))
    (sSeq (sIf (fTest (fBin (gEq false) (fName 6) (fC (.str "")))) (sRet (fTup (aCons (fC .non) (aCons (fC .non) (aCons (fTup (aCons (fName 5) (aCons (fC (.str "tag")) aNil))) aNil))))) sSkip)
    (sSeq (sIf (fTest (fBin (gEq false) (fName 6) (fC (.str "end")))) (sRet (fTup (aCons (fB1 gTuple (fName 2)) (aCons (fBin gAdd (fName 3) (fLRg (pInt (fBin gAdd (fName 5) (fC (.int 1)))) (pInt (fB1 gLen (fName 1))))) (aCons (fC .non) aNil))))) sSkip)
    (sSeq (sIf (fTest (fBin (gEq false) (fName 6) (fC (.str "stop")))) (sSeq (sSet 7 (fBin (gEq false) (fBin gAdd (fName 5) (fC (.int 1))) (fB1 gLen (fName 1))))
    (sRet (fIf (fTest (fName 7)) (fTup (aCons (fB1 gTuple (fName 2)) (aCons (fName 3) (aCons (fC .non) aNil)))) (fTup (aCons (fC .non) (aCons (fC .non) (aCons (fTup (aCons (fBin gAdd (fName 5) (fC (.int 1))) (aCons (fC (.str "behind")) aNil))) aNil))))))) sSkip)
    (sSeq (sUnp (.tp [8, 9]) (fCall phi__law_chunk (aCons (fName 0) (aCons (fName 1) (aCons (fBin gAdd (fName 5) (fC (.int 1))) (aCons (fName 6) aNil))))))
    (sSeq (sIf (fTest (fBin (gIs false) (fName 8) (fC .non))) (sRet (fTup (aCons (fC .non) (aCons (fC .non) (aCons (fName 9) aNil))))) sSkip)
    (sSeq (sIf (fTest (fBin (gEq false) (fName 6) (fC (.str "skip")))) (sOwn 3 (fBin gAdd (fName 3) (fLRg (pInt (fBin gSub (fName 9) (fB1 gLen (fName 8)))) (pInt (fName 9))))) (sApp 2 (fTup (aCons (fBin gIx (fName 1) (fName 5)) (aCons (fName 8) aNil)))))
    (sSet 5 (fName 9))))))))))
    (sSeq (sIf (fTest (fBin (gEq true) (fLc (iSeq (fBin gIx (fName 0) (fC (.int 4)))) (.nm 10) (fTest (fBin (gIn false) (fBin gIx (fName 10) (fC (.int 1))) (fTup (aCons (fC (.str "end")) (aCons (fC (.str "stop")) aNil))))) (fName 10) [10]) (fLst aNil))) (sRet (fTup (aCons (fC .non) (aCons (fC .non) (aCons (fTup (aCons (fB1 gLen (fName 1)) (aCons (fC (.str "short")) aNil))) aNil))))) sSkip)
    (sRet (fTup (aCons (fB1 gTuple (fName 2)) (aCons (fName 3) (aCons (fC .non) aNil))))))))

/-! ### the law's own reading -/
theorem chunk_ok {f : Frm} {u : Us} {ys b : List Int} {n k p : Nat} (o : f.Ok) (hx : ∀ x ∈ ys, 0 ≤ x ∧ x < f.base) (hn : n = k + ys.length) (h : chunkF f n k u ys = .ok b p) : k < p ∧ p ≤ n ∧ b.length ≤ p - k ∧ beh f (.length u) (ys.take (p - k)) = some .tag := by
  have hb : 0 < f.base := by have := o.b0; omega
  unfold chunkF at h
  cases hL : longF f n k ys with
  | short q => rw [hL] at h; cases h
  | long q => rw [hL] at h; cases h
  | ok w q =>
    rw [hL] at h
    dsimp only at h
    obtain ⟨w0, w1, p0, p1⟩ := long_ok o hx hL
    have hzl : (ys.drop (q - k)).length = ys.length - (q - k) := List.length_drop
    have key : ∀ r, q - k + w.toNat ≤ r → beh f (.length u) (ys.take r) = beh f (behB u (totF f u ((ys.drop (q - k)).take w.toNat))) (((ys.drop (q - k)).drop w.toNat).take (r - (q - k) - w.toNat)) ∨ ys.length < q - k + w.toNat := by
      intro r hr
      by_cases hlt : ys.length < q - k + w.toNat
      · exact .inr hlt
      · left
        rw [beh_long (n := k + (ys.take r).length) (k := k) rfl, longF_take hL (by omega)]
        dsimp only
        have e1 : (ys.take r).drop (q - k) = (ys.drop (q - k)).take (r - (q - k)) := List.drop_take
        rw [e1, beh_len hb w0, if_neg (by rw [List.length_take]; omega), List.take_take, Nat.min_eq_left (by omega), List.drop_take]
    split at h
    · cases h
    · rename_i hs
      cases hc : u.isC with
      | true =>
        rw [hc, if_pos rfl] at h
        cases hd : (ys.drop (q - k)).drop w.toNat with
        | nil => rw [hd] at h; cases h
        | cons z zs =>
          rw [hd] at h
          dsimp only at h
          split at h
          · rename_i hz
            cases h
            have hl : ((ys.drop (q - k)).drop w.toNat).length = zs.length + 1 := by rw [hd]; rfl
            rw [List.length_drop, hzl] at hl
            refine ⟨by omega, by omega, by rw [List.length_take]; omega, ?_⟩
            rcases key (q + w.toNat + 1 - k) (by omega) with e | e
            · rw [e, hd, show q + w.toNat + 1 - k - (q - k) - w.toNat = 1 by omega]
              have hu : u = .check := by cases u <;> first | rfl | cases hc
              subst hu
              show beh f (.sum _) [z] = _
              rw [beh_cons]
              dsimp only [step, totF]
              rw [if_pos hz]; rfl
            · omega
          · cases h
      | false =>
        rw [hc, if_neg (fun h => nomatch h)] at h
        cases h
        refine ⟨by omega, by omega, by rw [List.length_take]; omega, ?_⟩
        rcases key (q + w.toNat - k) (by omega) with e | e
        · rw [e, show q + w.toNat - k - (q - k) - w.toNat = 0 by omega, List.take_zero]
          cases u <;> first | rfl | cases hc
        · omega
theorem chunk_bad {f : Frm} {u : Us} {ys : List Int} {n k i : Nat} {w : Bool} (o : f.Ok) (hx : ∀ x ∈ ys, 0 ≤ x ∧ x < f.base) (hn : n = k + ys.length) (h : chunkF f n k u ys = .bad i w) : k ≤ i ∧ i < n ∧ (beh f (.length u) (ys.take (i - k))).isSome = true ∧ beh f (.length u) ys = none := by
  have hb : 0 < f.base := by have := o.b0; omega
  unfold chunkF at h
  cases hL : longF f n k ys with
  | short q => rw [hL] at h; cases h
  | long q =>
    rw [hL] at h
    cases h
    obtain ⟨h1, h2, h3⟩ := long_bad (u := u) hn hL
    refine ⟨h1, h2, h3, ?_⟩
    rw [beh_long hn, hL]
  | ok w q =>
    rw [hL] at h
    dsimp only at h
    obtain ⟨w0, w1, p0, p1⟩ := long_ok o hx hL
    have hzl : (ys.drop (q - k)).length = ys.length - (q - k) := List.length_drop
    split at h
    · cases h
    · rename_i hs
      cases hc : u.isC with
      | true =>
        rw [hc, if_pos rfl] at h
        have hu : u = .check := by cases u <;> first | rfl | cases hc
        subst hu
        cases hd : (ys.drop (q - k)).drop w.toNat with
        | nil => rw [hd] at h; cases h
        | cons z zs =>
          rw [hd] at h
          dsimp only at h
          split at h
          · cases h
          · rename_i hz
            cases h
            have hl : ((ys.drop (q - k)).drop w.toNat).length = zs.length + 1 := by rw [hd]; rfl
            rw [List.length_drop, hzl] at hl
            refine ⟨by omega, by omega, ?_, ?_⟩
            · rw [beh_long (n := k + (ys.take (q + w.toNat - k)).length) (k := k) rfl, longF_take hL (by omega)]
              dsimp only
              have e1 : (ys.take (q + w.toNat - k)).drop (q - k) = (ys.drop (q - k)).take (q + w.toNat - k - (q - k)) := List.drop_take
              rw [e1, beh_len hb w0, if_neg (by rw [List.length_take]; omega), List.drop_take, show q + w.toNat - k - (q - k) - w.toNat = 0 by omega]
              rfl
            · rw [beh_long hn, hL]
              dsimp only
              rw [beh_len hb w0, if_neg hs, hd]
              show beh f (.sum _) (z :: zs) = _
              rw [beh_cons]
              dsimp only [step, totF]
              rw [if_neg hz]
      | false =>
        rw [hc, if_neg (fun h => nomatch h)] at h
        cases h
def RfOk (f : Frm) (xs : List Int) (c : D) : Prop := c = .non ∨ (∃ n : Int, c = .tup [.int n, .str "short"]) ∨
  (∃ (i : Nat) (w : Str), c = .tup [.int i, .str w] ∧ decide (w = Str.ofString "short") = false ∧ i < xs.length ∧ (beh f (behM f 0) (xs.take i)).isSome = true ∧ beh f (behM f 0) xs = none)
/-- what is refused behind a tag's place -/
theorem rf_tag {f : Frm} {xs : List Int} {k r : Nat} (w : Str) (hw : decide (w = Str.ofString "short") = false) (ht : beh f (behM f 0) (xs.take k) = some .tag) (hl : k + r < xs.length) (h1 : (beh f .tag ((xs.drop k).take r)).isSome = true) (h2 : beh f .tag (xs.drop k) = none) (i : Int) (hi : i = ((k + r : Nat) : Int)) : RfOk f xs (.tup [.int i, .str w]) := by
  subst hi
  refine .inr (.inr ⟨k + r, w, rfl, hw, hl, ?_, ?_⟩)
  · rw [show xs.take (k + r) = xs.take k ++ (xs.drop k).take r from List.take_add, beh_app, ht]
    exact h1
  · rw [← List.take_append_drop k xs, beh_app, ht]
    exact h2
def Us.isE : Us → Bool | .fin => true | .stop => true | _ => false
theorem us_in {u : Us} : gIn false u.s (.tup [.str "end", .str "stop"]) = some (.d (.bl u.isE)) := by cases u <;> rfl
theorem fin_lc {e0 e1 e2 e3 e4 e5 e6 e7 e8 e9 : Sl} : ∀ (ts : List (Int × Us)) (acc : List D), acc.length + ts.length ≤ 16777216 → lcD (.nm 10) rdF (fName 10) [10] (ts.map tgD) [e0, e1, e2, e3, e4, e5, e6, e7, e8, e9, .un] acc = some (acc ++ (ts.filter fun t => t.2.isE).map tgD, [e0, e1, e2, e3, e4, e5, e6, e7, e8, e9, .un])
  | [], acc, _ => by rw [List.map_nil, lc_nil, List.filter_nil, List.map_nil, List.append_nil]
  | t :: ts, acc, h => by
    rw [List.length_cons] at h
    have hb : ∀ i, gIx (tgD t) (.int i) = kIx (atI [.int t.1, t.2.s] i) := fun _ => rfl
    have hu := us_in (u := t.2)
    cases ht : t.2.isE with
    | true =>
      rw [ht] at hu
      have ih := fin_lc (e0 := e0) (e1 := e1) (e2 := e2) (e3 := e3) (e4 := e4) (e5 := e5) (e6 := e6) (e7 := e7) (e8 := e8) (e9 := e9) ts (acc ++ [tgD t]) (by rw [List.length_append, List.length_singleton]; omega)
      rw [List.filter_cons, if_pos ht, List.map_cons, List.map_cons, show acc ++ tgD t :: List.map tgD (ts.filter fun t => t.2.isE) = (acc ++ [tgD t]) ++ List.map tgD (ts.filter fun t => t.2.isE) by simp, ← ih]
      have hl : acc.length < 16777216 := by omega
      clear ih h ht
      walk_at "ev"
    | false =>
      rw [ht] at hu
      have ih := fin_lc (e0 := e0) (e1 := e1) (e2 := e2) (e3 := e3) (e4 := e4) (e5 := e5) (e6 := e6) (e7 := e7) (e8 := e8) (e9 := e9) ts acc (by omega)
      rw [List.filter_cons, if_neg (by rw [ht]; exact fun h => nomatch h), ← ih]
      clear ih h ht
      walk_at "ev"
theorem rd_end {f : Frm} {xs : List Int} (o : f.Ok) {cs bl : List D} {c4 c5 c6 c7 c8 c9 : Sl} : ∃ a b c, kE0 (rdE [.val f.d, .val (fileD xs), .own cs, .own bl, c4, c5, c6, c7, c8, c9, .un]) = some (.d (.tup [a, b, c])) ∧ RfOk f xs c := by
  have e := fin_lc (e0 := .val f.d) (e1 := .val (fileD xs)) (e2 := .own cs) (e3 := .own bl) (e4 := c4) (e5 := c5) (e6 := c6) (e7 := c7) (e8 := c8) (e9 := c9) f.tags [] (by have := o.tl; simp; omega)
  rw [List.nil_append] at e
  have e2 : gEq true (.lst ((f.tags.filter fun t => t.2.isE).map tgD)) (.lst []) = some (.d (.bl _)) := gEq_tags
  cases h : (f.tags.filter fun t => t.2.isE).isEmpty with
  | true =>
    rw [h] at e2
    refine ⟨.tup cs, .lst bl, .non, ?_, .inl rfl⟩
    clear h
    walk_at "ev"
  | false =>
    rw [h] at e2
    refine ⟨.non, .non, .tup [.int xs.length, .str "short"], ?_, .inr (.inl ⟨_, rfl⟩)⟩
    clear h
    walk_at "ev"
end Dv

set_option Elab.async false
set_option linter.all false
set_option maxRecDepth 100000
set_option maxHeartbeats 4000000
namespace Dv
open PySem PySem.Spec PyProof.Rows L2
local macro_rules | `(tactic| walk_at "ev") => `(tactic| simp only [kRet_s, ev_name, ev_c, nm_val, nm_own, nm_bor, der_d, der_nw, der_sl, sl_own, sl_bor, sl_val, ev_bin, kBin_s, kBin2_s, kBin3_s, kBin4_s, ev_b1, kOne_s, kOne2_s, kRetD_s, ev_un, kUn1_s, kUn12_s, gNeg_i, ev_test, kTst_s, ev_and, ev_or, ev_not, kAnd_t, kAnd_f, kOr_t, kOr_f, kNot_s, ev_notV, kBl_s, ev_andV, ev_orV, kAndV_t, kAndV_f, kOrV_t, kOrV_f, ev_if, kIfE_t, kIfE_f, ev_yes, ev_ch, kCh_s, kCh2_s, kCh3_s, kCh4_s, kCh5_t, kCh5_f, ev_nil, ev_cons, kC1_s, kC2_s, ev_rev, kRv_s, escs_nil, escs_cons, kX1_s, kX2_s, esc_d, esc_nw, esc_sl, escS_own, escS_val, ev_tup, kT1_s, kT2_s, ev_lst, kL1_s, kL2_s, ev_pno, ev_pzero, ev_pint, kPI_s, ev_sl, kS1_s, kS2_s, kS3_s, kS4_s, ev_lrg, kR1_s, kR2_s, ev_call, kF1_s, kF2_s, kF3_s, ders_nil, ders_cons, kD1_s, kD2_s, rt_d, rt_nw, ev_call1, kG1_s, kG2_s, kG3_s, kG4_s, ow_own, ow_bor, put_own, put_bor, ev_iseq, kI1_s, kI2_t, kI2_l, kI2_f, ev_irg1, kN1_u, kN1_i, ev_irg2, kN2_s, kN3_u, ev_lc, kV1_s, kV2_s, ev_seq, kSeq_n, kSeq_r, kSeq_b, kSeq_c, ev_skip, ev_break, ev_cont, ev_retN, ev_ret, kRt_s, ev_sif, kIf_t, kIf_f, ev_drop, kDr_s, ev_set, kSt_s, kSt2_s, ev_own, kOw_s, ev_unp, kUn_s, kUn2_s, kNx_s, bt_nm, bt_tp, sa_nil, sa_cons, ev_par, kPa_s, sp_nil, sp_own, sp_val, ev_app, kAp_s, kAp2_s, kAp3_s, kAp4_s, ev_sti, kSi_s, kSi2_s, kSi3_s, kSi4_s, kSi5_s, kSi6_s, ev_aug, kAg_s, kAg2_s, val_s, ev_for, kFo_s, loop_nil, loop_cons, kLp_s, kLp_n, kLp_c, kLp_b, kLp_r, ev_while, while_s, kWh_f, kWh_t, kWh_n, kWh_c, kWh_b, kWh_r, lc_nil, lc_cons, kLc1_s, kLc2_t, kLc2_f, kLc3_s, kLc4_s, run0_k, kE0_r, kE0_n, rtOf_d, rtOf_nw, rtOf_sl, rtS_own, run1_k, kE1_r, kE1_n, kE2_s, bor_s, gAdd_i, gAdd_l, gAdd_t, gSub_i, gMul_i, gMod_i, gDiv_i, gPow_i, gEq_i, gEq_s, gEq_b, gCmp_i, gIs_n, gInt_i, gInt_b, gMax_i, gMin_i, gAbs_i, gTup_t, gTup_l, gLen_t, gLen_l, gLen_f, gIx_t, gIx_l, gIx_f, kIx_s, at_0, at_1, at_2, at_3, at_4, at_5, gSl_t, gSl_l,
  List.map_cons, List.map_nil, List.cons_append, List.nil_append, List.append_nil, List.length_cons, List.length_nil, List.replicate_succ, List.replicate_zero, Nat.reduceSub, Nat.reduceAdd, List.getElem?_cons_zero, List.getElem?_cons_succ, List.getElem?_nil, List.set_cons_zero, List.set_cons_succ, List.set_nil, Nat.zero_add, Nat.add_zero,
  List.all_cons, List.all_nil, notSl, Bool.and_true, Bool.true_and, Bool.or_true, Bool.true_or, Bool.and_false, Bool.false_and, Bool.or_false, Bool.false_or, if_true, if_false, Bool.false_eq_true, reduceIte, Bool.not_true, Bool.not_false, Bool.bne_true, Bool.bne_false, decide_true, decide_false, wipeE, backE, backS, nc_0, List.length_map, rg_len, Nat.reduceLeDiff, fd_ix, fi_ix, fi_len, fi_it, dcs, eq_self, Int.reduceEq, Int.reduceLT, Int.reduceLE, Int.reduceAdd, Int.reduceSub, Int.reduceMul, Int.reduceToNat, gIs_c, mkD_n, mkD_s, items, and_true, true_and, and_self, bne_self_eq_false, wt, gIn_t, gIsi_i, gIsi_t, gIsi_s, gIsi_n, gIsi_b, gIsi_l, isi2_c, gEq_n, gEq_l, flatD, eqF_s, eqF_i, eqF_n, List.any_cons, List.any_nil, Rt.o, Option.bind_some, phi0_s, phi1_s, List.reverse_cons, List.reverse_nil, decide_eq_true_eq, *])
/-! ### the law's own reading: loops -/
abbrev RdG (f : Frm) (xs : List Int) (R : FS) (o : Option Out) : Prop := ∃ a b c, kE0 (kSeq R o) = some (.d (.tup [a, b, c])) ∧ RfOk f xs c
abbrev RdIH (f : Frm) (xs : List Int) (m fuel : Nat) : Prop := ∀ (k : Nat) (cs bl : List D) (c4 c6 c7 c8 c9 : Sl), xs.length - k ≤ m → k ≤ xs.length → cs.length ≤ k → bl.length ≤ k → beh f (behM f 0) (xs.take k) = some .tag →
    RdG f xs rdE (whileD rdC rdW fuel [.val f.d, .val (fileD xs), .own cs, .own bl, c4, .val (.int k), c6, c7, c8, c9, .un])
theorem us_ne {u : Us} : gEq false u.s (.str "") = some (.d (.bl false)) := by cases u <;> rfl
theorem us_skip {u : Us} : gEq false u.s (.str "skip") = some (.d (.bl (match u with | .skip => true | _ => false))) := by cases u <;> rfl
theorem rd_main {f : Frm} {xs : List Int} (o : f.Ok) (hx : ∀ x ∈ xs, 0 ≤ x ∧ x < f.base) (hl : xs.length ≤ 900000) {m k fuel : Nat} {cs bl : List D} {c4 c6 c7 c8 c9 : Sl} {s : Int} {ys : List Int} (ih : RdIH f xs m fuel) (h1 : xs.length - k ≤ m + 1) (hy : xs.drop k = s :: ys) (hn : xs.length = k + (ys.length + 1)) {u : Us} (hu : useOf f s = some u) (ht : u.isE = false)
    (hcs : cs.length ≤ k) (hbl : bl.length ≤ k) (htk : beh f (behM f 0) (xs.take k) = some .tag) :
    RdG f xs rdE (whileD rdC rdW (fuel + 1) [.val f.d, .val (fileD xs), .own cs, .own bl, c4, .val (.int k), c6, c7, c8, c9, .un]) := by
  have e2 : (k : Int) < xs.length := by omega
  have hxs : ∀ z ∈ s :: ys, 0 ≤ z ∧ z < f.base := fun z hz => hx z (List.mem_of_mem_drop (hy ▸ hz))
  have hys : ∀ z ∈ ys, 0 ≤ z ∧ z < f.base := fun z hz => hxs z (by simp [hz])
  have e1 : atI (xs.map D.int) (k : Int) = some (.int s) := fi_at (by omega) hy
  have hy1 : xs.drop (k + 1) = ys := by rw [← List.drop_drop, hy]; rfl
  have e3 : phi__law_use [f.d, .int s] = some (.d u.s) := by have := law_use (f := f) (s := s); rw [hu] at this; exact this
  have e4 : phi__law_chunk [f.d, fileD xs, .int ((k : Int) + 1), u.s] = some (.d (chunkF f xs.length (k + 1) u ys).d) := by
    have := law_chunk (k := k + 1) (u := u) o (by omega) hx
    rw [hy1] at this
    exact this
  have hst : step f .tag s = some (.length u) := by
    dsimp only [step]; rw [hu]; cases u <;> first | rfl | cases ht
  have j0 := us_ne (u := u)
  have j1 : gEq false u.s (.str "end") = some (.d (.bl false)) := by cases u <;> first | rfl | cases ht
  have j2 : gEq false u.s (.str "stop") = some (.d (.bl false)) := by cases u <;> first | rfl | cases ht
  cases hC : chunkF f xs.length (k + 1) u ys with
  | short q =>
    rw [hC] at e4
    dsimp only [Ch.d] at e4
    refine ⟨.non, .non, .tup [.int q, .str "short"], ?_, .inr (.inl ⟨_, rfl⟩)⟩
    clear ih hx hn hy hxs hys h1 hy1 hC hl hcs hbl htk hst
    walk_at "ev"
  | bad i w =>
    rw [hC] at e4
    obtain ⟨q1, q2, q3, q4⟩ := chunk_bad o hys (by omega) hC
    have hrf : ∀ w : Str, decide (w = Str.ofString "short") = false → RfOk f xs (.tup [.int i, .str w]) := fun w hw => rf_tag (k := k) (r := i - k) w hw htk (by omega) (by
        rw [hy, show i - k = (i - (k + 1)) + 1 by omega, List.take_succ_cons, beh_cons, hst]; exact q3) (by rw [hy, beh_cons, hst]; exact q4) _ (by omega)
    cases w with
    | true =>
      dsimp only [Ch.d] at e4
      refine ⟨.non, .non, .tup [.int i, .str "length"], ?_, hrf _ (by decide +kernel)⟩
      clear ih hx hn hy hxs hys h1 hy1 hC hl hcs hbl htk hst hrf q1 q2 q3 q4
      walk_at "ev"
    | false =>
      dsimp only [Ch.d] at e4
      refine ⟨.non, .non, .tup [.int i, .str "check"], ?_, hrf _ (by decide +kernel)⟩
      clear ih hx hn hy hxs hys h1 hy1 hC hl hcs hbl htk hst hrf q1 q2 q3 q4
      walk_at "ev"
  | ok b p =>
    rw [hC] at e4
    dsimp only [Ch.d] at e4
    obtain ⟨q1, q2, q3, q4⟩ := chunk_ok o hys (by omega) hC
    have htp : beh f (behM f 0) (xs.take p) = some .tag := by
      rw [show p = k + (p - k) by omega, List.take_add, beh_app, htk]
      show beh f .tag _ = _
      rw [hy, show p - k = (p - (k + 1)) + 1 by omega, List.take_succ_cons, beh_cons, hst]
      exact q4
    have g0 : gIs false (fileD b) .non = some (.d (.bl false)) := rfl
    cases hs : (match u with | .skip => true | _ => false) with
    | true =>
      have j3 : gEq false u.s (.str "skip") = some (.d (.bl true)) := by rw [us_skip, hs]
      have r1 : ∀ ρ, kR2 (some ((p : Int) - b.length)) (some (some (p : Int), ρ)) = some (.nw (rgD ((p : Int) - b.length) ((p : Int) - (p - b.length)).toNat), ρ) := fun ρ => kR2_s (by omega)
      have r2 : (rgD ((p : Int) - b.length) ((p : Int) - (p - b.length)).toNat).length = b.length := by rw [rg_len]; omega
      have r3 : bl.length + ((p : Int) - (p - b.length)).toNat ≤ 16777216 := by omega
      obtain ⟨a, b', c, e, hr⟩ := ih p cs (bl ++ rgD ((p : Int) - b.length) ((p : Int) - (p - b.length)).toNat) c4 (.val u.s) c7 (.val (fileD b)) (.val (.int p)) (by omega) q2 (by omega) (by rw [List.length_append, r2]; omega) htp
      refine ⟨a, b', c, ?_, hr⟩
      rw [← e]
      clear e hr ih hx hn hy hxs hys h1 hy1 hC hl hcs hbl htk hst q1 q2 q3 q4 htp r2 hs
      walk_at "ev"
    | false =>
      have j3 : gEq false u.s (.str "skip") = some (.d (.bl false)) := by rw [us_skip, hs]
      have r3 : cs.length < 16777216 := by omega
      obtain ⟨a, b', c, e, hr⟩ := ih p (cs ++ [.tup [.int s, fileD b]]) bl c4 (.val u.s) c7 (.val (fileD b)) (.val (.int p)) (by omega) q2 (by rw [List.length_append, List.length_singleton]; omega) (by omega) htp
      refine ⟨a, b', c, ?_, hr⟩
      rw [← e]
      clear e hr ih hx hn hy hxs hys h1 hy1 hC hl hcs hbl htk hst q1 q2 q3 q4 htp hs
      walk_at "ev"
theorem rd_loop {f : Frm} {xs : List Int} (o : f.Ok) (hx : ∀ x ∈ xs, 0 ≤ x ∧ x < f.base) (hl : xs.length ≤ 900000) : ∀ (m fuel : Nat), m < fuel → RdIH f xs m fuel := by
  intro m
  induction m with
  | zero =>
    intro fuel hf k cs bl c4 c6 c7 c8 c9 h1 h2 hcs hbl htk
    obtain ⟨fuel, rfl⟩ : ∃ g, fuel = g + 1 := ⟨fuel - 1, by omega⟩
    have e2 : ¬ (k : Int) < xs.length := by omega
    obtain ⟨a, b, c, e, hr⟩ := rd_end (xs := xs) o (cs := cs) (bl := bl) (c4 := c4) (c5 := .val (.int k)) (c6 := c6) (c7 := c7) (c8 := c8) (c9 := c9)
    refine ⟨a, b, c, ?_, hr⟩
    rw [← e]
    clear e hr hf h1 h2 hcs hbl htk hx hl
    walk_at "ev"
  | succ m ih =>
    intro fuel hf k cs bl c4 c6 c7 c8 c9 h1 h2 hcs hbl htk
    obtain ⟨fuel, rfl⟩ : ∃ g, fuel = g + 1 := ⟨fuel - 1, by omega⟩
    cases hy : xs.drop k with
    | nil =>
      have hn := drop_len hy h2
      have e2 : ¬ (k : Int) < xs.length := by simp at hn; omega
      obtain ⟨a, b, c, e, hr⟩ := rd_end (xs := xs) o (cs := cs) (bl := bl) (c4 := c4) (c5 := .val (.int k)) (c6 := c6) (c7 := c7) (c8 := c8) (c9 := c9)
      refine ⟨a, b, c, ?_, hr⟩
      rw [← e]
      clear e hr hf h1 h2 hcs hbl htk hx hl ih hy hn
      walk_at "ev"
    | cons s ys =>
      have hn := drop_len hy h2
      rw [List.length_cons] at hn
      have e2 : (k : Int) < xs.length := by omega
      have e1 : atI (xs.map D.int) (k : Int) = some (.int s) := fi_at (by omega) hy
      have e3 := law_use (f := f) (s := s)
      have r1 : ∀ ρ, kR2 (some ((k : Int) + 1)) (some (some (xs.length : Int), ρ)) = some (.nw (rgD ((k : Int) + 1) ((xs.length : Int) - (k + 1)).toNat), ρ) := fun ρ => kR2_s (by omega)
      have r3 : bl.length + ((xs.length : Int) - (k + 1)).toNat ≤ 16777216 := by omega
      cases hu : useOf f s with
      | none =>
        rw [hu] at e3
        dsimp only [useE] at e3
        refine ⟨.non, .non, .tup [.int k, .str "tag"], ?_, rf_tag (r := 0) _ (by decide +kernel) htk (by omega) rfl (by rw [hy, beh_cons]; dsimp only [step]; rw [hu]; rfl) _ (by omega)⟩
        clear ih hx hl hn hy h1 h2 hcs hbl htk hf r1 r3
        walk_at "ev"
      | some u =>
        rw [hu] at e3
        cases u with
        | fin =>
          dsimp only [useE, Us.s] at e3
          refine ⟨.tup cs, .lst (bl ++ rgD ((k : Int) + 1) ((xs.length : Int) - (k + 1)).toNat), .non, ?_, .inl rfl⟩
          clear ih hx hl hn hy h1 h2 hcs hbl htk hf
          walk_at "ev"
        | stop =>
          dsimp only [useE, Us.s] at e3
          clear r1 r3
          cases ys with
          | nil =>
            have e5 : decide ((k : Int) + 1 = xs.length) = true := decide_eq_true (by simp at hn; omega)
            refine ⟨.tup cs, .lst bl, .non, ?_, .inl rfl⟩
            clear ih hx hl hn hy h1 h2 hcs hbl htk hf
            walk_at "ev"
          | cons y ys =>
            rw [List.length_cons] at hn
            have e5 : decide ((k : Int) + 1 = xs.length) = false := decide_eq_false (by omega)
            refine ⟨.non, .non, .tup [.int ((k : Int) + 1), .str "behind"], ?_, rf_tag (r := 1) _ (by decide +kernel) htk (by omega) (by rw [hy]; show (beh f .tag [s]).isSome = true; rw [beh_cons]; dsimp only [step]; rw [hu]; rfl) (by rw [hy, beh_cons]; dsimp only [step]; rw [hu]; rfl) _ (by omega)⟩
            clear ih hx hl hn hy h1 h2 hcs hbl htk hf
            walk_at "ev"
        | keep => exact rd_main o hx hl (ih fuel (by omega)) h1 hy hn hu rfl hcs hbl htk
        | check => exact rd_main o hx hl (ih fuel (by omega)) h1 hy hn hu rfl hcs hbl htk
        | skip => exact rd_main o hx hl (ih fuel (by omega)) h1 hy hn hu rfl hcs hbl htk
theorem rh_loop {f : Frm} {xs : List Int} (o : f.Ok) (hx : ∀ x ∈ xs, 0 ≤ x ∧ x < f.base) (hl : xs.length ≤ 900000) : ∀ (m j : Nat) (bl : List D) (c4 : Sl), f.head.length = j + m → j ≤ xs.length → bl.length ≤ j → beh f (behM f 0) (xs.take j) = some (behM f j) →
    RdG f xs rdR (loopD (.nm 4) rdH ((List.range' j m).map fun i : Nat => D.int (i : Int)) [.val f.d, .val (fileD xs), .own [], .own bl, c4, .un, .un, .un, .un, .un, .un])
  | 0, j, bl, c4, hm, hj, hbl, htk => by
    have eb : behM f j = .tag := by unfold behM; rw [if_neg (by omega)]
    rw [eb] at htk
    obtain ⟨N, hN⟩ : ∃ N : Nat, N = 1000000 := ⟨_, rfl⟩
    obtain ⟨a, b, c, e, hr⟩ := rd_loop o hx hl 900000 N (by omega) j [] bl c4 .un .un .un .un (by omega) hj (by simp) hbl htk
    have e0 : ∀ ρ : Ev, wh__law_reading_1 ρ = N := fun _ => hN.symm ▸ rfl
    have e1 : (j : Int) = f.head.length := by omega
    rw [e1] at e
    refine ⟨a, b, c, ?_, hr⟩
    rw [← e]
    clear e hN hr
    unfold rdR
    rw [List.range'_zero]
    walk_at "ev"
  | m + 1, j, bl, c4, hm, hj, hbl, htk => by
    have hk : j < f.head.length := by omega
    have eb : behM f j = .head j := by unfold behM; rw [if_pos hk]
    rw [eb] at htk
    rw [List.range'_succ, List.map_cons]
    have e0 : atI (f.head.map mkD) (j : Int) = some (mkD f.head[j]) := at_map (by omega) (List.getElem?_eq_getElem hk)
    cases hy : xs.drop j with
    | nil =>
      have hn := drop_len hy hj
      have e2 : (xs.length : Int) ≤ j := by simp at hn; omega
      refine ⟨.non, .non, .tup [.int xs.length, .str "short"], ?_, .inr (.inl ⟨_, rfl⟩)⟩
      clear hy hn hx hl hm hj hbl htk
      walk_at "ev"
    | cons s ys =>
      have hn := drop_len hy hj
      rw [List.length_cons] at hn
      have e2 : ¬ (xs.length : Int) ≤ j := by omega
      have e1 : atI (xs.map D.int) (j : Int) = some (.int s) := fi_at (by omega) hy
      have hnx : ∀ q, step f (.head j) s = some q → beh f (behM f 0) (xs.take (j + 1)) = some q := fun q hq => by
        rw [List.take_add, beh_app, htk]
        show beh f (.head j) _ = _
        rw [hy]
        show beh f (.head j) [s] = _
        rw [beh_cons, hq]; rfl
      cases hm2 : f.head[j] with
      | none =>
        rw [hm2] at e0
        have hq : step f (.head j) s = some (behM f (j + 1)) := by dsimp only [step]; rw [List.getElem?_eq_getElem hk, hm2]
        have r3 : bl.length < 16777216 := by omega
        obtain ⟨a, b, c, e, hr⟩ := rh_loop o hx hl m (j + 1) (bl ++ [.int j]) (.val (.int j)) (by omega) (by omega) (by rw [List.length_append, List.length_singleton]; omega) (hnx _ hq)
        refine ⟨a, b, c, ?_, hr⟩
        rw [← e]
        clear e hr hnx hy hn hx hl hm hj hbl htk hq
        walk_at "ev"
      | some q =>
        rw [hm2] at e0
        by_cases h : q = s
        · have e3 : decide (q = s) = true := decide_eq_true h
          have hq : step f (.head j) s = some (behM f (j + 1)) := by dsimp only [step]; rw [List.getElem?_eq_getElem hk, hm2]; dsimp only; rw [if_pos h]
          obtain ⟨a, b, c, e, hr⟩ := rh_loop o hx hl m (j + 1) bl (.val (.int j)) (by omega) (by omega) (by omega) (hnx _ hq)
          refine ⟨a, b, c, ?_, hr⟩
          rw [← e]
          clear e hr hnx hy hn hx hl hm hj hbl htk hq h
          walk_at "ev"
        · have hq : step f (.head j) s = none := by dsimp only [step]; rw [List.getElem?_eq_getElem hk, hm2]; dsimp only; rw [if_neg h]
          refine ⟨.non, .non, .tup [.int j, .str "head"], ?_, .inr (.inr ⟨j, _, rfl, by decide +kernel, by omega, by rw [htk]; rfl, ?_⟩)⟩
          · clear hnx hy hn hx hl hm hj hbl htk hq
            walk_at "ev"
          · rw [← List.take_append_drop j xs, beh_app, htk]
            show beh f (.head j) _ = _
            rw [hy, beh_cons, hq]
theorem reading_ok {f : Frm} {xs : List Int} (o : f.Ok) (hx : ∀ x ∈ xs, 0 ≤ x ∧ x < f.base) (hl : xs.length ≤ 900000) : ∃ a b c, phi__law_reading [f.d, fileD xs] = some (.d (.tup [a, b, c])) ∧ RfOk f xs c := by
  obtain ⟨a, b, c, e, hr⟩ := rh_loop o hx hl f.head.length 0 [] .un (by omega) (by omega) (by simp) rfl
  refine ⟨a, b, c, ?_, hr⟩
  rw [← e, ← rg_range]
  have h1 : f.head.length ≤ 16777216 := by have := o.hl; omega
  clear e hr
  unfold phi__law_reading g__law_reading
  walk_at "ev"
end Dv

set_option Elab.async false
set_option linter.all false
set_option maxRecDepth 100000
set_option maxHeartbeats 4000000
namespace Dv
open PySem PySem.Spec PyProof.Rows L2
local macro_rules | `(tactic| walk_at "ev") => `(tactic| simp only [kRet_s, ev_name, ev_c, nm_val, nm_own, nm_bor, der_d, der_nw, der_sl, sl_own, sl_bor, sl_val, ev_bin, kBin_s, kBin2_s, kBin3_s, kBin4_s, ev_b1, kOne_s, kOne2_s, kRetD_s, ev_un, kUn1_s, kUn12_s, gNeg_i, ev_test, kTst_s, ev_and, ev_or, ev_not, kAnd_t, kAnd_f, kOr_t, kOr_f, kNot_s, ev_notV, kBl_s, ev_andV, ev_orV, kAndV_t, kAndV_f, kOrV_t, kOrV_f, ev_if, kIfE_t, kIfE_f, ev_yes, ev_ch, kCh_s, kCh2_s, kCh3_s, kCh4_s, kCh5_t, kCh5_f, ev_nil, ev_cons, kC1_s, kC2_s, ev_rev, kRv_s, escs_nil, escs_cons, kX1_s, kX2_s, esc_d, esc_nw, esc_sl, escS_own, escS_val, ev_tup, kT1_s, kT2_s, ev_lst, kL1_s, kL2_s, ev_pno, ev_pzero, ev_pint, kPI_s, ev_sl, kS1_s, kS2_s, kS3_s, kS4_s, ev_lrg, kR1_s, kR2_s, ev_call, kF1_s, kF2_s, kF3_s, ders_nil, ders_cons, kD1_s, kD2_s, rt_d, rt_nw, ev_call1, kG1_s, kG2_s, kG3_s, kG4_s, ow_own, ow_bor, put_own, put_bor, ev_iseq, kI1_s, kI2_t, kI2_l, kI2_f, ev_irg1, kN1_u, kN1_i, ev_irg2, kN2_s, kN3_u, ev_lc, kV1_s, kV2_s, ev_seq, kSeq_n, kSeq_r, kSeq_b, kSeq_c, ev_skip, ev_break, ev_cont, ev_retN, ev_ret, kRt_s, ev_sif, kIf_t, kIf_f, ev_drop, kDr_s, ev_set, kSt_s, kSt2_s, ev_own, kOw_s, ev_unp, kUn_s, kUn2_s, kNx_s, bt_nm, bt_tp, sa_nil, sa_cons, ev_par, kPa_s, sp_nil, sp_own, sp_val, ev_app, kAp_s, kAp2_s, kAp3_s, kAp4_s, ev_sti, kSi_s, kSi2_s, kSi3_s, kSi4_s, kSi5_s, kSi6_s, ev_aug, kAg_s, kAg2_s, val_s, ev_for, kFo_s, loop_nil, loop_cons, kLp_s, kLp_n, kLp_c, kLp_b, kLp_r, ev_while, while_s, kWh_f, kWh_t, kWh_n, kWh_c, kWh_b, kWh_r, lc_nil, lc_cons, kLc1_s, kLc2_t, kLc2_f, kLc3_s, kLc4_s, run0_k, kE0_r, kE0_n, rtOf_d, rtOf_nw, rtOf_sl, rtS_own, run1_k, kE1_r, kE1_n, kE2_s, bor_s, gAdd_i, gAdd_l, gAdd_t, gSub_i, gMul_i, gMod_i, gDiv_i, gPow_i, gEq_i, gEq_s, gEq_b, gCmp_i, gIs_n, gInt_i, gInt_b, gMax_i, gMin_i, gAbs_i, gTup_t, gTup_l, gLen_t, gLen_l, gLen_f, gIx_t, gIx_l, gIx_f, kIx_s, at_0, at_1, at_2, at_3, at_4, at_5, gSl_t, gSl_l,
  List.map_cons, List.map_nil, List.cons_append, List.nil_append, List.append_nil, List.length_cons, List.length_nil, List.replicate_succ, List.replicate_zero, Nat.reduceSub, Nat.reduceAdd, List.getElem?_cons_zero, List.getElem?_cons_succ, List.getElem?_nil, List.set_cons_zero, List.set_cons_succ, List.set_nil, Nat.zero_add, Nat.add_zero,
  List.all_cons, List.all_nil, notSl, Bool.and_true, Bool.true_and, Bool.or_true, Bool.true_or, Bool.and_false, Bool.false_and, Bool.or_false, Bool.false_or, if_true, if_false, Bool.false_eq_true, reduceIte, Bool.not_true, Bool.not_false, Bool.bne_true, Bool.bne_false, decide_true, decide_false, wipeE, backE, backS, nc_0, List.length_map, rg_len, Nat.reduceLeDiff, fd_ix, fi_ix, fi_len, fi_it, dcs, eq_self, Int.reduceEq, Int.reduceLT, Int.reduceLE, Int.reduceAdd, Int.reduceSub, Int.reduceMul, Int.reduceToNat, gIs_c, mkD_n, mkD_s, items, and_true, true_and, and_self, bne_self_eq_false, wt, gIn_t, gIsi_i, gIsi_t, gIsi_s, gIsi_n, gIsi_b, gIsi_l, isi2_c, gEq_n, gEq_l, flatD, eqF_s, eqF_i, eqF_n, List.any_cons, List.any_nil, Rt.o, Option.bind_some, phi0_s, phi1_s, List.reverse_cons, List.reverse_nil, decide_eq_true_eq, *])
abbrev dtB : FS := (sIf (fAnd (fTest (fBin (gCmp fun i j => decide (i < j)) (fB1 gLen (fName 4)) (fName 2))) (fTest (fBin (gCmp fun i j => decide (i < j)) (fCall1 phi__law_grab (aCons (fName 0) (aCons (fName 1) aNil))) (fName 2)))) (sApp 4 (fTup (aCons (fName 5) (aCons (fBin gIx (fName 3) (fCall1 phi__law_grab (aCons (fName 0) (aCons (fC (.int 7)) aNil)))) aNil)))) sSkip)
abbrev dfE : FE := (fIf (fTest (fBin (gEq false) (fCall1 phi__law_grab (aCons (fName 0) (aCons (fC (.int 3)) aNil))) (fC (.int 0)))) (fC .non) (fCall1 phi__law_grab (aCons (fName 0) (aCons (fName 1) aNil))))
/-! ### drawn numbers -/
structure Bag where
  a : Int
  b : Int
  c : Int
def Bag.d (g : Bag) : List D := [.int g.a, .int g.b, .int g.c]
/-- at most so often asked -/
structure Bag.In (g : Bag) (n : Int) : Prop where
  b0 : 0 ≤ g.b
  b1 : g.b < 2 ^ 200
  c0 : 0 ≤ g.c
  c1 : g.c ≤ n
theorem Bag.In.le {g : Bag} {n m : Int} (h : g.In n) (l : n ≤ m) : g.In m := ⟨h.b0, h.b1, h.c0, by have := h.c1; omega⟩
theorem lg {i : Int} {k : Nat} (h0 : 0 ≤ i) (h : i < 2 ^ k) : i.natAbs.log2 ≤ k := by
  have h2 : i.natAbs < 2 ^ k := by
    have : ((i.natAbs : Nat) : Int) < ((2 ^ k : Nat) : Int) := by
      rw [Int.natAbs_of_nonneg h0]
      simpa using h
    exact Int.ofNat_lt.mp this
  by_cases hz : i.natAbs = 0
  · rw [hz]; simp
  · exact Nat.le_of_lt ((Nat.log2_lt hz).mpr h2)
theorem pow_s {i j : Int} {k : Nat} (h0 : 0 ≤ i) (h : i < 2 ^ k) (hk : k ≤ 10000) (j0 : 0 ≤ j) (j1 : j ≤ 100) : gPow (.int i) (.int j) = some (.d (.int (i ^ j.toNat))) := by
  apply gPow_i
  refine ⟨j0, ?_⟩
  have h1 := lg h0 h
  have h2 : (((i.natAbs.log2 + 1 : Nat)) : Int) ≤ 10001 := by omega
  have h3 : (((i.natAbs.log2 + 1 : Nat)) : Int) * j ≤ 10001 * 100 := Int.mul_le_mul h2 j1 j0 (by omega)
  omega
theorem mul_b {a b : Int} {k : Nat} (ha : 0 ≤ a) (ha2 : a ≤ 400000000) (hb : 0 ≤ b) (hb2 : b < 2 ^ k) (hk : k ≤ 10000) : gMul (.int a) (.int b) = some (.d (.int (a * b))) := by
  apply gMul_i
  have h1 := lg hb hb2
  have h2 : a.natAbs.log2 ≤ 30 := lg ha (by omega)
  omega
theorem grab_ok {g : Bag} {n N : Int} (hn : 0 < n) (hn2 : n ≤ 1000000) (h : g.In N) (hN : N < 2 ^ 60) : ∃ v g', phi__law_grab [.lst g.d, .int n] = some (.d (.int v), g'.d) ∧ 0 ≤ v ∧ v < n ∧ Bag.In g' (N + 1) := by
  obtain ⟨a, b, c⟩ := g
  obtain ⟨b0, b1, c0, c1⟩ := h
  dsimp only at b0 b1 c0 c1
  have e0 : ixN 3 0 = some 0 := rfl
  have e2 : ixN 3 2 = some 2 := rfl
  have m0 : ∀ z : Int, gMod (.int z) (.int n) = some (.d (.int (z % n))) := fun z => gMod_i hn
  by_cases ha : 0 < a
  · refine ⟨a % n, ⟨a / n, b, c⟩, ?_, Int.emod_nonneg _ (by omega), Int.emod_lt_of_pos _ hn, b0, b1, c0, by show c ≤ N + 1; omega⟩
    have d0 : gDiv (.int a) (.int n) = some (.d (.int (a / n))) := gDiv_i ⟨hn, by have := lg (i := n) (k := 30) (by omega) (by omega); omega⟩
    unfold phi__law_grab g__law_grab Bag.d
    clear hn2 hN b1 c1
    walk_at "ev"
  · obtain ⟨K, k1, k2, k3⟩ : ∃ K : Int, gPow (.int 10) (.int 38) = some (.d (.int K)) ∧ 0 < K ∧ K < 2 ^ 150 := ⟨10 ^ 38, pow_s (k := 5) (by decide) (by decide) (by decide) (by decide) (by decide), by decide, by decide⟩
    obtain ⟨L, l1, l2, l3⟩ : ∃ K : Int, gPow (.int 10) (.int 39) = some (.d (.int K)) ∧ 0 < K ∧ K < 2 ^ 150 := ⟨10 ^ 39, pow_s (k := 5) (by decide) (by decide) (by decide) (by decide) (by decide), by decide, by decide⟩
    have f1 : gMul (.int 90019) (.int (c + 1)) = some (.d (.int (90019 * (c + 1)))) := mul_b (k := 70) (by decide) (by decide) (by omega) (by omega) (by decide)
    have f2 : gMul (.int 1900037) (.int (c + 1)) = some (.d (.int (1900037 * (c + 1)))) := mul_b (k := 70) (by decide) (by decide) (by omega) (by omega) (by decide)
    obtain ⟨P, p1⟩ : ∃ P : Int, gPow (.int (b + 90019 * (c + 1))) (.int 2) = some (.d (.int P)) := ⟨_, pow_s (k := 300) (by omega) (by omega) (by decide) (by decide) (by decide)⟩
    have q0 : gMod (.int P) (.int (K + 271)) = some (.d (.int (P % (K + 271)))) := gMod_i (by omega)
    have q1 := Int.emod_nonneg P (show K + 271 ≠ 0 by omega)
    have q2 := Int.emod_lt_of_pos P (show 0 < K + 271 by omega)
    obtain ⟨R, r1⟩ : ∃ R : Int, gPow (.int (P % (K + 271) + 1900037 * (c + 1))) (.int 3) = some (.d (.int R)) := ⟨_, pow_s (k := 300) (by omega) (by omega) (by decide) (by decide) (by decide)⟩
    have r0 : gMod (.int R) (.int (L + 331)) = some (.d (.int (R % (L + 331)))) := gMod_i (by omega)
    have r2 : gDiv (.int (R % (L + 331))) (.int 8192) = some (.d (.int (R % (L + 331) / 8192))) := gDiv_i ⟨by decide, by decide⟩
    refine ⟨R % (L + 331) / 8192 % n, ⟨a, b, c + 1⟩, ?_, Int.emod_nonneg _ (by omega), Int.emod_lt_of_pos _ hn, b0, b1, by show 0 ≤ c + 1; omega, by show c + 1 ≤ N + 1; omega⟩
    unfold phi__law_grab g__law_grab Bag.d
    clear hn2 hN b1 c1 k2 k3 l2 l3 q1 q2
    walk_at "ev"
theorem tag_kind {v : Int} (h0 : 0 ≤ v) (h1 : v < 7) : ∃ u : Us, atI [D.str "keep", .str "check", .str "skip", .str "end", .str "stop", .str "keep", .str "skip"] v = some u.s := by
  have : v = 0 ∨ v = 1 ∨ v = 2 ∨ v = 3 ∨ v = 4 ∨ v = 5 ∨ v = 6 := by omega
  rcases this with rfl | rfl | rfl | rfl | rfl | rfl | rfl
  · exact ⟨.keep, rfl⟩
  · exact ⟨.check, rfl⟩
  · exact ⟨.skip, rfl⟩
  · exact ⟨.fin, rfl⟩
  · exact ⟨.stop, rfl⟩
  · exact ⟨.keep, rfl⟩
  · exact ⟨.skip, rfl⟩
structure TgOk (ts : List (Int × Us)) (j : Int) : Prop where
  r : ∀ t ∈ ts, 0 ≤ t.1 ∧ t.1 < j
  p : ts.Pairwise fun a b => a.1 < b.1
theorem TgOk.le {ts : List (Int × Us)} {i j : Int} (h : TgOk ts i) (l : i ≤ j) : TgOk ts j := ⟨fun t ht => ⟨(h.r t ht).1, by have := (h.r t ht).2; omega⟩, h.p⟩
theorem TgOk.app {ts : List (Int × Us)} {j : Int} {u : Us} (h : TgOk ts j) (hj : 0 ≤ j) : TgOk (ts ++ [(j, u)]) (j + 1) := by
  refine ⟨fun t ht => ?_, ?_⟩
  · rcases List.mem_append.mp ht with ht | ht
    · have := h.r t ht; omega
    · rw [List.mem_singleton.mp ht]; dsimp only; omega
  · rw [List.pairwise_append]
    refine ⟨h.p, List.pairwise_singleton _ _, fun a ha b hb => ?_⟩
    rw [List.mem_singleton.mp hb]
    exact (h.r a ha).2
abbrev kindsD : List D := [.str "keep", .str "check", .str "skip", .str "end", .str "stop", .str "keep", .str "skip"]
theorem dt_loop {base many : Int} (hb : 2 ≤ base ∧ base ≤ 256) : ∀ (m j : Nat) (ts : List (Int × Us)) (g : Bag) (c5 : Sl) (N : Int), (j : Int) + m = base → TgOk ts j → ts.length ≤ j → g.In N → N + 2 * m < 2 ^ 60 →
    ∃ ts' g' c5', loopD (.nm 5) dtB ((List.range' j m).map fun i : Nat => D.int (i : Int)) [.bor g.d, .val (.int base), .val (.int many), .own kindsD, .own (ts.map tgD), c5] = some (.nx [.bor g'.d, .val (.int base), .val (.int many), .own kindsD, .own (ts'.map tgD), c5']) ∧ TgOk ts' base ∧ ts'.length ≤ 256 ∧ Bag.In g' (N + 2 * m)
  | 0, j, ts, g, c5, N, hm, ht, hl, hg, hN => ⟨ts, g, c5, by rw [List.range'_zero]; rfl, ht.le (by omega), by omega, hg.le (by omega)⟩
  | m + 1, j, ts, g, c5, N, hm, ht, hl, hg, hN => by
    rw [List.range'_succ, List.map_cons]
    by_cases h1 : (ts.length : Int) < many
    · obtain ⟨v, g1, e1, v0, v1, hg1⟩ := grab_ok (g := g) (n := base) (N := N) (by omega) (by omega) hg (by omega)
      by_cases h2 : v < many
      · obtain ⟨w, g2, e2, w0, w1, hg2⟩ := grab_ok (g := g1) (n := 7) (N := N + 1) (by omega) (by omega) hg1 (by omega)
        obtain ⟨u, hu⟩ := tag_kind w0 w1
        obtain ⟨ts', g', c5', e, r⟩ := dt_loop hb m (j + 1) (ts ++ [((j : Int), u)]) g2 (.val (.int j)) (N + 2) (by omega) (by have := ht.app (u := u) (by omega : (0 : Int) ≤ j); simpa using this) (by rw [List.length_append, List.length_singleton]; omega) (hg2.le (by omega)) (by omega)
        refine ⟨ts', g', c5', ?_, r.1, r.2.1, r.2.2.le (by omega)⟩
        rw [← e]
        have h3 : ts.length < 16777216 := by omega
        have h4 : List.map tgD (ts ++ [((j : Int), u)]) = List.map tgD ts ++ [.tup [.int j, u.s]] := by simp [tgD]
        rw [h4]
        clear e r hg hg1 hg2 hN hm ht hl hb h4 v0 v1 w0 w1
        walk_at "ev"
      · obtain ⟨ts', g', c5', e, r⟩ := dt_loop hb m (j + 1) ts g1 (.val (.int j)) (N + 1) (by omega) (ht.le (by omega)) (by omega) hg1 (by omega)
        refine ⟨ts', g', c5', ?_, r.1, r.2.1, r.2.2.le (by omega)⟩
        rw [← e]
        clear e r hg hg1 hN hm ht hl hb v0 v1
        walk_at "ev"
    · obtain ⟨ts', g', c5', e, r⟩ := dt_loop hb m (j + 1) ts g (.val (.int j)) N (by omega) (ht.le (by omega)) (by omega) hg (by omega)
      refine ⟨ts', g', c5', ?_, r.1, r.2.1, r.2.2.le (by omega)⟩
      rw [← e]
      clear e r hg hN hm ht hl hb
      walk_at "ev"
theorem drawn_tags {g : Bag} {base many N : Int} (hb : 2 ≤ base ∧ base ≤ 256) (hg : g.In N) (hN : N + 1000 < 2 ^ 60) : ∃ ts g', phi__law_drawn_tags [.lst g.d, .int base, .int many] = some (.d (.tup (ts.map tgD)), g'.d) ∧ TgOk ts base ∧ ts.length ≤ 256 ∧ Bag.In g' (N + 600) := by
  obtain ⟨ts, g', c5, e, r⟩ := dt_loop (many := many) hb base.toNat 0 [] g .un N (by omega) ⟨by simp, List.Pairwise.nil⟩ (by simp) hg (by omega)
  refine ⟨ts, g', ?_, r.1, r.2.1, r.2.2.le (by omega)⟩
  rw [← rg_range] at e
  have h0 : (0 ≤ base ∧ base ≤ 16777216) := by omega
  have h1 : 0 ≤ base := h0.1
  have h2 : base ≤ 16777216 := h0.2
  clear r hg hN hb h0
  rw [List.map_nil] at e
  unfold phi__law_drawn_tags g__law_drawn_tags
  walk_at "ev"
end Dv

set_option Elab.async false
set_option linter.all false
set_option maxRecDepth 100000
set_option maxHeartbeats 4000000
namespace Dv
open PySem PySem.Spec PyProof.Rows L2
local macro_rules | `(tactic| walk_at "ev") => `(tactic| simp only [kRet_s, ev_name, ev_c, nm_val, nm_own, nm_bor, der_d, der_nw, der_sl, sl_own, sl_bor, sl_val, ev_bin, kBin_s, kBin2_s, kBin3_s, kBin4_s, ev_b1, kOne_s, kOne2_s, kRetD_s, ev_un, kUn1_s, kUn12_s, gNeg_i, ev_test, kTst_s, ev_and, ev_or, ev_not, kAnd_t, kAnd_f, kOr_t, kOr_f, kNot_s, ev_notV, kBl_s, ev_andV, ev_orV, kAndV_t, kAndV_f, kOrV_t, kOrV_f, ev_if, kIfE_t, kIfE_f, ev_yes, ev_ch, kCh_s, kCh2_s, kCh3_s, kCh4_s, kCh5_t, kCh5_f, ev_nil, ev_cons, kC1_s, kC2_s, ev_rev, kRv_s, escs_nil, escs_cons, kX1_s, kX2_s, esc_d, esc_nw, esc_sl, escS_own, escS_val, ev_tup, kT1_s, kT2_s, ev_lst, kL1_s, kL2_s, ev_pno, ev_pzero, ev_pint, kPI_s, ev_sl, kS1_s, kS2_s, kS3_s, kS4_s, ev_lrg, kR1_s, kR2_s, ev_call, kF1_s, kF2_s, kF3_s, ders_nil, ders_cons, kD1_s, kD2_s, rt_d, rt_nw, ev_call1, kG1_s, kG2_s, kG3_s, kG4_s, ow_own, ow_bor, put_own, put_bor, ev_iseq, kI1_s, kI2_t, kI2_l, kI2_f, ev_irg1, kN1_u, kN1_i, ev_irg2, kN2_s, kN3_u, ev_lc, kV1_s, kV2_s, ev_seq, kSeq_n, kSeq_r, kSeq_b, kSeq_c, ev_skip, ev_break, ev_cont, ev_retN, ev_ret, kRt_s, ev_sif, kIf_t, kIf_f, ev_drop, kDr_s, ev_set, kSt_s, kSt2_s, ev_own, kOw_s, ev_unp, kUn_s, kUn2_s, kNx_s, bt_nm, bt_tp, sa_nil, sa_cons, ev_par, kPa_s, sp_nil, sp_own, sp_val, ev_app, kAp_s, kAp2_s, kAp3_s, kAp4_s, ev_sti, kSi_s, kSi2_s, kSi3_s, kSi4_s, kSi5_s, kSi6_s, ev_aug, kAg_s, kAg2_s, val_s, ev_for, kFo_s, loop_nil, loop_cons, kLp_s, kLp_n, kLp_c, kLp_b, kLp_r, ev_while, while_s, kWh_f, kWh_t, kWh_n, kWh_c, kWh_b, kWh_r, lc_nil, lc_cons, kLc1_s, kLc2_t, kLc2_f, kLc3_s, kLc4_s, run0_k, kE0_r, kE0_n, rtOf_d, rtOf_nw, rtOf_sl, rtS_own, run1_k, kE1_r, kE1_n, kE2_s, bor_s, gAdd_i, gAdd_l, gAdd_t, gSub_i, gMul_i, gMod_i, gDiv_i, gPow_i, gEq_i, gEq_s, gEq_b, gCmp_i, gIs_n, gInt_i, gInt_b, gMax_i, gMin_i, gAbs_i, gTup_t, gTup_l, gLen_t, gLen_l, gLen_f, gIx_t, gIx_l, gIx_f, kIx_s, at_0, at_1, at_2, at_3, at_4, at_5, gSl_t, gSl_l,
  List.map_cons, List.map_nil, List.cons_append, List.nil_append, List.append_nil, List.length_cons, List.length_nil, List.replicate_succ, List.replicate_zero, Nat.reduceSub, Nat.reduceAdd, List.getElem?_cons_zero, List.getElem?_cons_succ, List.getElem?_nil, List.set_cons_zero, List.set_cons_succ, List.set_nil, Nat.zero_add, Nat.add_zero,
  List.all_cons, List.all_nil, notSl, Bool.and_true, Bool.true_and, Bool.or_true, Bool.true_or, Bool.and_false, Bool.false_and, Bool.or_false, Bool.false_or, if_true, if_false, Bool.false_eq_true, reduceIte, Bool.not_true, Bool.not_false, Bool.bne_true, Bool.bne_false, decide_true, decide_false, wipeE, backE, backS, nc_0, List.length_map, rg_len, Nat.reduceLeDiff, fd_ix, fi_ix, fi_len, fi_it, dcs, eq_self, Int.reduceEq, Int.reduceLT, Int.reduceLE, Int.reduceAdd, Int.reduceSub, Int.reduceMul, Int.reduceToNat, gIs_c, mkD_n, mkD_s, items, and_true, true_and, and_self, bne_self_eq_false, wt, gIn_t, gIsi_i, gIsi_t, gIsi_s, gIsi_n, gIsi_b, gIsi_l, isi2_c, gEq_n, gEq_l, flatD, eqF_s, eqF_i, eqF_n, List.any_cons, List.any_nil, Rt.o, Option.bind_some, phi0_s, phi1_s, List.reverse_cons, List.reverse_nil, decide_eq_true_eq, *])
/-! ### drawn formats -/
theorem hd_lc {base : Int} (hb : 2 ≤ base ∧ base ≤ 256) {e2 e3 e4 e5 e6 e7 e8 e9 : Sl} : ∀ (ds : List D) (g : Bag) (N : Int) (acc : List D), acc.length + ds.length ≤ 16777216 → g.In N → N + 2 * (ds.length : Int) < 2 ^ 60 →
    ∃ (hs : List (Option Int)) (g' : Bag), lcD (.nm 10) fYes dfE [10] ds [.bor g.d, .val (.int base), e2, e3, e4, e5, e6, e7, e8, e9, .un] acc = some (acc ++ hs.map mkD, [.bor g'.d, .val (.int base), e2, e3, e4, e5, e6, e7, e8, e9, .un]) ∧ hs.length = ds.length ∧ (∀ k, some k ∈ hs → 0 ≤ k ∧ k < base) ∧ Bag.In g' (N + 2 * (ds.length : Int))
  | [], g, N, acc, _, hg, _ => ⟨[], g, by rw [lc_nil, List.map_nil, List.append_nil], rfl, (fun k h => nomatch h), by simpa using hg⟩
  | d :: ds, g, N, acc, hl, hg, hN => by
    rw [List.length_cons] at hl hN
    obtain ⟨v, g1, q1, v0, v1, hg1⟩ := grab_ok (g := g) (n := 3) (N := N) (by omega) (by omega) hg (by omega)
    have hla : acc.length < 16777216 := by omega
    by_cases h : v = 0
    · obtain ⟨hs, g', e, r1, r2, r3⟩ := hd_lc hb (e2 := e2) (e3 := e3) (e4 := e4) (e5 := e5) (e6 := e6) (e7 := e7) (e8 := e8) (e9 := e9) ds g1 (N + 1) (acc ++ [.non]) (by rw [List.length_append, List.length_singleton]; omega) hg1 (by omega)
      refine ⟨none :: hs, g', ?_, by rw [List.length_cons, List.length_cons, r1], (fun k hk => r2 k (by simpa using hk)), r3.le (by rw [List.length_cons]; omega)⟩
      rw [List.map_cons, mkD_n, show acc ++ D.non :: hs.map mkD = (acc ++ [.non]) ++ hs.map mkD by simp, ← e]
      subst h
      clear e r1 r2 r3 hl hN hg hg1 v0 v1 hb
      walk_at "ev"
    · obtain ⟨w, g2, q2, w0, w1, hg2⟩ := grab_ok (g := g1) (n := base) (N := N + 1) (by omega) (by omega) hg1 (by omega)
      obtain ⟨hs, g', e, r1, r2, r3⟩ := hd_lc hb (e2 := e2) (e3 := e3) (e4 := e4) (e5 := e5) (e6 := e6) (e7 := e7) (e8 := e8) (e9 := e9) ds g2 (N + 2) (acc ++ [.int w]) (by rw [List.length_append, List.length_singleton]; omega) (hg2.le (by omega)) (by omega)
      refine ⟨some w :: hs, g', ?_, by rw [List.length_cons, List.length_cons, r1], (fun k hk => by
        rcases List.mem_cons.mp hk with hk | hk
        · cases hk; exact ⟨w0, w1⟩
        · exact r2 k hk), r3.le (by rw [List.length_cons]; omega)⟩
      rw [List.map_cons, mkD_s, show acc ++ D.int w :: hs.map mkD = (acc ++ [.int w]) ++ hs.map mkD by simp, ← e]
      have h2 : decide (v = 0) = false := decide_eq_false h
      clear e r1 r2 r3 hl hN hg hg1 hg2 v0 v1 w0 w1 hb h
      walk_at "ev"
theorem wide_pick {v : Int} (h0 : 0 ≤ v) (h1 : v < 4) : ∃ u : Wd, atI [D.str "one", .str "one", .str "high", .str "low"] v = some u.s := by
  have : v = 0 ∨ v = 1 ∨ v = 2 ∨ v = 3 := by omega
  rcases this with rfl | rfl | rfl | rfl
  · exact ⟨.one, rfl⟩
  · exact ⟨.one, rfl⟩
  · exact ⟨.high, rfl⟩
  · exact ⟨.low, rfl⟩
theorem other_pick {v : Int} (h0 : 0 ≤ v) (h1 : v < 2) : ∃ u : Ot, atI [D.str "skip", .str "refuse"] v = some u.s := by
  have : v = 0 ∨ v = 1 := by omega
  rcases this with rfl | rfl
  · exact ⟨.skip, rfl⟩
  · exact ⟨.refuse, rfl⟩
theorem drawn_form {g : Bag} {base marks most many N : Int} (hb : 2 ≤ base ∧ base ≤ 256) (hm : 0 ≤ marks ∧ marks ≤ 900) (hs : 0 ≤ most ∧ most ≤ 65535) (hy : 0 ≤ many ∧ many ≤ 900) (hg : g.In N) (hN : N + 10000 < 2 ^ 60) :
    ∃ f g', phi__law_drawn_form [.lst g.d, .int base, .int marks, .int most, .int many] = some (.d (Frm.d f), Bag.d g') ∧ f.Ok ∧ f.base = base ∧ f.head.length ≤ 900 ∧ Bag.In g' (N + 5000) := by
  obtain ⟨v1, g1, q1, a1, b1, i1⟩ := grab_ok (n := marks + 1) (by omega) (by omega) hg (by omega)
  obtain ⟨hs', g2, q2, len2, ok2, i2⟩ := hd_lc hb (e2 := .val (.int marks)) (e3 := .val (.int most)) (e4 := .val (.int many)) (e5 := .val (.int v1)) (e6 := .un) (e7 := .un) (e8 := .un) (e9 := .un) (rgD 0 v1.toNat) g1 (N + 1) [] (by rw [rg_len]; simp; omega) i1 (by rw [rg_len]; omega)
  rw [rg_len] at len2 i2
  have i2' := i2.le (m := N + 2000) (by omega)
  obtain ⟨v3, g3, q3, a3, b3, i3⟩ := grab_ok (n := 4) (by omega) (by omega) i2' (by omega)
  obtain ⟨wd, hwd⟩ := wide_pick a3 b3
  obtain ⟨v4, g4, q4, a4, b4, i4⟩ := grab_ok (n := most + 1) (by omega) (by omega) i3 (by omega)
  obtain ⟨v5, g5, q5, a5, b5, i5⟩ := grab_ok (n := many + 1) (by omega) (by omega) i4 (by omega)
  obtain ⟨ts, g6, q6, ok6, l6, i6⟩ := drawn_tags (many := v5) hb i5 (by omega)
  obtain ⟨v7, g7, q7, a7, b7, i7⟩ := grab_ok (n := 2) (by omega) (by omega) i6 (by omega)
  obtain ⟨ot, hot⟩ := other_pick a7 b7
  refine ⟨⟨base, hs', wd, v4, ts, ot⟩, g7, ?_, ⟨hb.1, hb.2, ok2, by show hs'.length ≤ 1000; omega, a4, by show v4 ≤ 65535; omega, ok6.r, ok6.p, by show ts.length ≤ 1000; omega⟩, rfl, by show hs'.length ≤ 900; omega, i7.le (by omega)⟩
  have hf : Frm.d ⟨base, hs', wd, v4, ts, ot⟩ = .tup [.int base, .tup (hs'.map mkD), wd.s, .int v4, .tup (ts.map tgD), ot.s] := rfl
  rw [hf]
  have n1 : 0 ≤ v1 := a1
  have n2 : v1 ≤ 16777216 := by omega
  rw [List.nil_append] at q2
  clear hf i1 i2 i2' i3 i4 i5 i6 i7 len2 ok2 ok6 l6 a1 b1 a3 b3 a4 b4 a5 b5 a7 b7 hg hN hy hs hm hb
  unfold phi__law_drawn_form g__law_drawn_form
  walk_at "ev"
theorem pick2 {v x y : Int} (h0 : 0 ≤ v) (h1 : v < 2) : ∃ u : Int, atI [D.int x, .int y] v = some (.int u) ∧ (u = x ∨ u = y) := by
  have : v = 0 ∨ v = 1 := by omega
  rcases this with rfl | rfl
  · exact ⟨x, rfl, .inl rfl⟩
  · exact ⟨y, rfl, .inr rfl⟩
theorem pick3 {v x y z : Int} (h0 : 0 ≤ v) (h1 : v < 3) : ∃ u : Int, atI [D.int x, .int y, .int z] v = some (.int u) ∧ (u = x ∨ u = y ∨ u = z) := by
  have : v = 0 ∨ v = 1 ∨ v = 2 := by omega
  rcases this with rfl | rfl | rfl
  · exact ⟨x, rfl, .inl rfl⟩
  · exact ⟨y, rfl, .inr (.inl rfl)⟩
  · exact ⟨z, rfl, .inr (.inr rfl)⟩
theorem any_form {g : Bag} {base N : Int} (hb : 2 ≤ base ∧ base ≤ 256) (hg : g.In N) (hN : N + 20000 < 2 ^ 60) :
    ∃ f g', phi__law_any_form [.lst g.d, .int base, .int 20] = some (.d (Frm.d f), Bag.d g') ∧ f.Ok ∧ f.base = base ∧ f.head.length ≤ 900 ∧ Bag.In g' (N + 6000) := by
  obtain ⟨v1, g1, q1, a1, b1, i1⟩ := grab_ok (n := 2) (by omega) (by omega) hg (by omega)
  obtain ⟨u1, p1, r1⟩ := pick2 (x := 3) (y := 20) a1 b1
  obtain ⟨v2, g2, q2, a2, b2, i2⟩ := grab_ok (n := 2) (by omega) (by omega) i1 (by omega)
  obtain ⟨u2, p2, r2⟩ := pick2 (x := 4) (y := 20) a2 b2
  obtain ⟨v3, g3, q3, a3, b3, i3⟩ := grab_ok (n := 3) (by omega) (by omega) i2 (by omega)
  obtain ⟨u3, p3, r3⟩ := pick3 (x := 5) (y := 40) (z := 65535) a3 b3
  obtain ⟨f, g4, q4, ok4, fb4, fl4, i4⟩ := drawn_form (marks := u1) (most := u3) (many := u2) hb (by omega) (by omega) (by omega) i3 (by omega)
  refine ⟨f, g4, ?_, ok4, fb4, fl4, i4.le (by omega)⟩
  clear i1 i2 i3 i4 a1 b1 a2 b2 a3 b3 r1 r2 r3 hg hN hb ok4 fb4 fl4
  unfold phi__law_any_form g__law_any_form
  walk_at "ev"
theorem law_bag {ns : List Int} {at' : Nat} (ha : at' ≤ 1000) : ∃ g, phi__law_bag [.frl (ns.map .int), .int at'] = some (.nw (Bag.d g)) ∧ g.In 0 := by
  obtain ⟨K, k1, k2, k3⟩ : ∃ K : Int, gPow (.int 10) (.int 37) = some (.d (.int K)) ∧ 0 < K ∧ K < 2 ^ 150 := ⟨10 ^ 37, pow_s (k := 5) (by decide) (by decide) (by decide) (by decide) (by decide), by decide, by decide⟩
  obtain ⟨L, l1⟩ : ∃ K : Int, gPow (.int 10) (.int 18) = some (.d (.int K)) := ⟨10 ^ 18, pow_s (k := 5) (by decide) (by decide) (by decide) (by decide) (by decide)⟩
  have key : ∀ c : Int, (∃ g, (∃ r : Int, gMax (.int 0) (.int ((if c < 0 then -c else c) - L)) = some (.d (.int r)) ∧ Bag.a g = r) ∧ gMod (.int c) (.int (K + 163)) = some (.d (.int (c % (K + 163)))) ∧ gMul (.int (c % (K + 163))) (.int 89) = some (.d (.int (c % (K + 163) * 89))) ∧ gMul (.int 71) (.int (at' : Int)) = some (.d (.int (71 * (at' : Int)))) ∧ g.b = c % (K + 163) * 89 + 71 * (at' : Int) + 53 ∧ g.c = 0 ∧ g.In 0) := fun c => by
    have h1 := Int.emod_nonneg c (show K + 163 ≠ 0 by omega)
    have h2 := Int.emod_lt_of_pos c (show 0 < K + 163 by omega)
    refine ⟨⟨_, c % (K + 163) * 89 + 71 * (at' : Int) + 53, 0⟩, ⟨_, rfl, rfl⟩, gMod_i (by omega), ?_, mul_s (by omega) (by omega) (by omega) (by omega), rfl, rfl, ⟨?_, ?_, ?_, ?_⟩⟩
    · apply gMul_i
      have := lg (i := c % (K + 163)) (k := 200) h1 (by omega)
      have := lg (i := 89) (k := 10) (by decide) (by decide)
      omega
    all_goals (dsimp only; omega)
  by_cases hl : (at' : Int) < ns.length
  · obtain ⟨⟨ga, gb, gc⟩, ⟨r, m1, m2⟩, m3, m4, m5, m6, m7, m8⟩ := key ns[at']
    refine ⟨_, ?_, m8⟩
    dsimp only at m2 m6 m7
    subst m2 m6 m7
    have e1 : atI (ns.map D.int) (at' : Int) = some (.int ns[at']) := at_map (by omega) (List.getElem?_eq_getElem (by omega))
    dsimp only [Bag.d]
    clear k2 k3 key m8 ha
    unfold phi__law_bag g__law_bag
    walk_at "ev"
  · obtain ⟨⟨ga, gb, gc⟩, ⟨r, m1, m2⟩, m3, m4, m5, m6, m7, m8⟩ := key 0
    refine ⟨_, ?_, m8⟩
    dsimp only at m2 m6 m7
    subst m2 m6 m7
    have e1 : gAbs (.int 0) = some (.d (.int (if (0 : Int) < 0 then -0 else 0))) := rfl
    dsimp only [Bag.d]
    clear k2 k3 key m8 ha
    unfold phi__law_bag g__law_bag
    have m9 : (if 0 - L > 0 then 0 - L else 0) = ga := by
      rw [gMax_i, if_neg (show ¬ (0 : Int) < 0 by decide)] at m1
      injection m1 with m1; injection m1 with m1; injection m1
    rw [← m9]
    clear m1 m9
    walk_at "ev"
end Dv

set_option Elab.async false
set_option linter.all false
set_option maxRecDepth 100000
set_option maxHeartbeats 4000000
namespace Dv
open PySem PySem.Spec PyProof.Rows L2
local macro_rules | `(tactic| walk_at "ev") => `(tactic| simp only [kRet_s, ev_name, ev_c, nm_val, nm_own, nm_bor, der_d, der_nw, der_sl, sl_own, sl_bor, sl_val, ev_bin, kBin_s, kBin2_s, kBin3_s, kBin4_s, ev_b1, kOne_s, kOne2_s, kRetD_s, ev_un, kUn1_s, kUn12_s, gNeg_i, ev_test, kTst_s, ev_and, ev_or, ev_not, kAnd_t, kAnd_f, kOr_t, kOr_f, kNot_s, ev_notV, kBl_s, ev_andV, ev_orV, kAndV_t, kAndV_f, kOrV_t, kOrV_f, ev_if, kIfE_t, kIfE_f, ev_yes, ev_ch, kCh_s, kCh2_s, kCh3_s, kCh4_s, kCh5_t, kCh5_f, ev_nil, ev_cons, kC1_s, kC2_s, ev_rev, kRv_s, escs_nil, escs_cons, kX1_s, kX2_s, esc_d, esc_nw, esc_sl, escS_own, escS_val, ev_tup, kT1_s, kT2_s, ev_lst, kL1_s, kL2_s, ev_pno, ev_pzero, ev_pint, kPI_s, ev_sl, kS1_s, kS2_s, kS3_s, kS4_s, ev_lrg, kR1_s, kR2_s, ev_call, kF1_s, kF2_s, kF3_s, ders_nil, ders_cons, kD1_s, kD2_s, rt_d, rt_nw, ev_call1, kG1_s, kG2_s, kG3_s, kG4_s, ow_own, ow_bor, put_own, put_bor, ev_iseq, kI1_s, kI2_t, kI2_l, kI2_f, ev_irg1, kN1_u, kN1_i, ev_irg2, kN2_s, kN3_u, ev_lc, kV1_s, kV2_s, ev_seq, kSeq_n, kSeq_r, kSeq_b, kSeq_c, ev_skip, ev_break, ev_cont, ev_retN, ev_ret, kRt_s, ev_sif, kIf_t, kIf_f, ev_drop, kDr_s, ev_set, kSt_s, kSt2_s, ev_own, kOw_s, ev_unp, kUn_s, kUn2_s, kNx_s, bt_nm, bt_tp, sa_nil, sa_cons, ev_par, kPa_s, sp_nil, sp_own, sp_val, ev_app, kAp_s, kAp2_s, kAp3_s, kAp4_s, ev_sti, kSi_s, kSi2_s, kSi3_s, kSi4_s, kSi5_s, kSi6_s, ev_aug, kAg_s, kAg2_s, val_s, ev_for, kFo_s, loop_nil, loop_cons, kLp_s, kLp_n, kLp_c, kLp_b, kLp_r, ev_while, while_s, kWh_f, kWh_t, kWh_n, kWh_c, kWh_b, kWh_r, lc_nil, lc_cons, kLc1_s, kLc2_t, kLc2_f, kLc3_s, kLc4_s, run0_k, kE0_r, kE0_n, rtOf_d, rtOf_nw, rtOf_sl, rtS_own, run1_k, kE1_r, kE1_n, kE2_s, bor_s, gAdd_i, gAdd_l, gAdd_t, gSub_i, gMul_i, gMod_i, gDiv_i, gPow_i, gEq_i, gEq_s, gEq_b, gCmp_i, gIs_n, gInt_i, gInt_b, gMax_i, gMin_i, gAbs_i, gTup_t, gTup_l, gLen_t, gLen_l, gLen_f, gIx_t, gIx_l, gIx_f, kIx_s, at_0, at_1, at_2, at_3, at_4, at_5, gSl_t, gSl_l,
  List.map_cons, List.map_nil, List.cons_append, List.nil_append, List.append_nil, List.length_cons, List.length_nil, List.replicate_succ, List.replicate_zero, Nat.reduceSub, Nat.reduceAdd, List.getElem?_cons_zero, List.getElem?_cons_succ, List.getElem?_nil, List.set_cons_zero, List.set_cons_succ, List.set_nil, Nat.zero_add, Nat.add_zero,
  List.all_cons, List.all_nil, notSl, Bool.and_true, Bool.true_and, Bool.or_true, Bool.true_or, Bool.and_false, Bool.false_and, Bool.or_false, Bool.false_or, if_true, if_false, Bool.false_eq_true, reduceIte, Bool.not_true, Bool.not_false, Bool.bne_true, Bool.bne_false, decide_true, decide_false, wipeE, backE, backS, nc_0, List.length_map, rg_len, Nat.reduceLeDiff, fd_ix, fi_ix, fi_len, fi_it, dcs, eq_self, Int.reduceEq, Int.reduceLT, Int.reduceLE, Int.reduceAdd, Int.reduceSub, Int.reduceMul, Int.reduceToNat, gIs_c, mkD_n, mkD_s, items, and_true, true_and, and_self, bne_self_eq_false, wt, gIn_t, gIsi_i, gIsi_t, gIsi_s, gIsi_n, gIsi_b, gIsi_l, isi2_c, gEq_n, gEq_l, flatD, eqF_s, eqF_i, eqF_n, List.any_cons, List.any_nil, Rt.o, Option.bind_some, phi0_s, phi1_s, List.reverse_cons, List.reverse_nil, decide_eq_true_eq, *])
abbrev wrB : FS := (sSeq (sSet 7 (fCall1 phi__law_grab (aCons (fName 0) (aCons (fName 3) aNil))))
    (sSeq (sSet 8 (fCall phi__law_use (aCons (fName 1) (aCons (fName 7) aNil))))
    (sIf (fTest (fBin (gIn false) (fName 8) (fTup (aCons (fC (.str "keep")) (aCons (fC (.str "check")) (aCons (fC (.str "skip")) aNil)))))) (sSeq (sSet 9 (fCall1 phi__law_grab (aCons (fName 0) (aCons (fBin gAdd (fBin gMin (fBin gIx (fName 1) (fC (.int 3))) (fBin gIx (fLst (aCons (fC (.int 2)) (aCons (fC (.int 6)) (aCons (fC (.int 150)) aNil)))) (fCall1 phi__law_grab (aCons (fName 0) (aCons (fC (.int 3)) aNil))))) (fC (.int 1))) aNil))))
    (sSeq (sSet 9 (fIf (fTest (fBin (gEq false) (fBin gIx (fName 1) (fC (.int 2))) (fC (.str "one")))) (fBin gMin (fName 9) (fBin gSub (fName 3) (fC (.int 1)))) (fBin gMin (fName 9) (fBin gSub (fBin gMul (fName 3) (fName 3)) (fC (.int 1))))))
    (sSeq (sSet 10 (fLc (iRg1 (pInt (fName 9))) (.nm 15) fYes (fCall1 phi__law_grab (aCons (fName 0) (aCons (fName 3) aNil))) [15]))
    (sSeq (sSet 11 (fIf (fTest (fBin (gEq false) (fBin gIx (fName 1) (fC (.int 2))) (fC (.str "high")))) (fLst (aCons (fBin gDiv (fName 9) (fName 3)) (aCons (fBin gMod (fB1 gInt (fName 9)) (fName 3)) aNil))) (fLst (aCons (fBin gMod (fB1 gInt (fName 9)) (fName 3)) (aCons (fBin gDiv (fName 9) (fName 3)) aNil)))))
    (sSeq (sOwn 4 (fBin gAdd (fBin gAdd (fBin gAdd (fName 4) (fLst (aCons (fName 7) aNil))) (fIf (fTest (fBin (gEq false) (fBin gIx (fName 1) (fC (.int 2))) (fC (.str "one")))) (fLst (aCons (fName 9) aNil)) (fName 11))) (fName 10)))
    (sIf (fTest (fBin (gEq false) (fName 8) (fC (.str "check")))) (sApp 4 (fBin gMod (fB1 gInt (fB1 gSum (fName 10))) (fName 3))) sSkip)))))) sSkip)))
abbrev wrE : FE := (fIf (fTest (fBin (gIs false) (fName 14) (fC .non))) (fCall1 phi__law_grab (aCons (fName 0) (aCons (fBin gIx (fName 1) (fC (.int 0))) aNil))) (fName 14))
abbrev wrF : FT := (fTest (fBin (gIn false) (fBin gIx (fName 12) (fC (.int 1))) (fTup (aCons (fC (.str "end")) (aCons (fC (.str "stop")) aNil)))))
abbrev wrG : FE := (fCall1 phi__law_grab (aCons (fName 0) (aCons (fName 3) aNil)))
/-! ### drawn files -/
def Signs (f : Frm) (xs : List Int) : Prop := ∀ x ∈ xs, 0 ≤ x ∧ x < f.base
theorem Signs.app {f : Frm} {xs ys : List Int} (h : Signs f xs) (h2 : Signs f ys) : Signs f (xs ++ ys) := fun x hx => by
  rcases List.mem_append.mp hx with hx | hx
  · exact h x hx
  · exact h2 x hx
theorem Signs.one {f : Frm} {x : Int} (h : 0 ≤ x ∧ x < f.base) : Signs f [x] := fun y hy => by rw [List.mem_singleton.mp hy]; exact h
theorem Signs.cons {f : Frm} {x : Int} {xs : List Int} (h : 0 ≤ x ∧ x < f.base) (h2 : Signs f xs) : Signs f (x :: xs) := Signs.app (Signs.one h) h2
theorem Signs.nil {f : Frm} : Signs f [] := fun _ h => nomatch h
theorem Signs.take {f : Frm} {xs : List Int} {n : Nat} (h : Signs f xs) : Signs f (xs.take n) := fun x hx => h x (List.mem_of_mem_take hx)
theorem Signs.drop {f : Frm} {xs : List Int} {n : Nat} (h : Signs f xs) : Signs f (xs.drop n) := fun x hx => h x (List.mem_of_mem_drop hx)
theorem sum_lst {xs : List Int} : gSum (.lst (xs.map D.int)) = some (.d (.int xs.sum)) := by
  show ((intsD (xs.map .int)).bind _) = _
  rw [ints_map]; rfl
theorem lay_ints : ∀ (xs : List Int), PyData.canLayAll0 (toPys (xs.map D.int)) = true
  | [] => rfl
  | x :: xs => by
    rw [List.map_cons, toPys, PyData.canLayAll0, lay_ints xs]
    simp [toPy, PyData.canLay0]
theorem deep_ints : ∀ (xs : List Int), PyData.depthAll (toPys (xs.map D.int)) ≤ 63
  | [] => by simp [toPys, PyData.depthAll]
  | x :: xs => by
    have ih := deep_ints xs
    rw [List.map_cons, toPys, PyData.depthAll]
    have h : (toPy (D.int x)).depth ≤ 63 := by simp [toPy, PyData.depth]
    omega
theorem gEq_ints {n : Bool} {xs : List Int} : gEq n (.lst (xs.map D.int)) (.lst []) = some (.d (.bl (xs.isEmpty != n))) := by
  show (if okP _ = true ∧ okP _ = true then some (Opd.d (.bl (eqP _ _ != n))) else none) = _
  have h1 : okP (.lst (xs.map D.int)) = true := by
    unfold okP SeqAt.shaped
    have := lay_ints xs
    have := deep_ints xs
    rw [toPy]
    simp [PyData.canLay0, PyData.depth, *]
  rw [if_pos ⟨h1, rfl⟩]
  congr 4
  unfold eqP
  cases xs with
  | nil => rfl
  | cons x xs => simp [toPy, toPys, PyData.eqv, PyData.eqvAll]
theorem cut_to {xs : List Int} {p : Int} (hp : 0 ≤ p) : Dv.cutD (xs.map D.int) none (some p) = (xs.take p.toNat).map D.int := by
  unfold Dv.cutD HT.sIx
  dsimp only
  rw [if_neg (by omega), Nat.sub_zero, List.drop_zero, List.length_map, ← List.map_take]
  congr 1
  by_cases h : p.toNat ≤ xs.length
  · rw [Nat.min_eq_left h]
  · rw [List.take_of_length_le (by omega), List.take_of_length_le (by omega)]
theorem cut_from {xs : List Int} {p : Int} (hp : 0 ≤ p) : Dv.cutD (xs.map D.int) (some p) none = (xs.drop p.toNat).map D.int := by
  unfold Dv.cutD HT.sIx
  dsimp only
  rw [if_neg (by omega), List.length_map, ← List.map_drop, ← List.map_take]
  congr 1
  by_cases h : p.toNat ≤ xs.length
  · rw [Nat.min_eq_left h, List.take_of_length_le (by rw [List.length_drop]; omega)]
  · rw [List.drop_eq_nil_of_le (by omega), List.drop_eq_nil_of_le (by omega)]; simp
theorem gr_lc {f : Frm} (hb : 2 ≤ f.base ∧ f.base ≤ 256) {e1 e2 e4 e5 e6 e7 e8 e9 e10 e11 e12 e13 e14 : Sl} : ∀ (ds : List D) (g : Bag) (N : Int) (acc : List D), acc.length + ds.length ≤ 16777216 → g.In N → N + (ds.length : Int) < 2 ^ 60 →
    ∃ (xs : List Int) (g' : Bag), lcD (.nm 15) fYes wrG [15] ds [.bor g.d, e1, e2, .val (.int f.base), e4, e5, e6, e7, e8, e9, e10, e11, e12, e13, e14, .un] acc = some (acc ++ xs.map D.int, [.bor g'.d, e1, e2, .val (.int f.base), e4, e5, e6, e7, e8, e9, e10, e11, e12, e13, e14, .un]) ∧ xs.length = ds.length ∧ Signs f xs ∧ Bag.In g' (N + (ds.length : Int))
  | [], g, N, acc, _, hg, _ => ⟨[], g, by rw [lc_nil, List.map_nil, List.append_nil], rfl, Signs.nil, by simpa using hg⟩
  | d :: ds, g, N, acc, hl, hg, hN => by
    rw [List.length_cons] at hl hN
    obtain ⟨v, g1, q1, v0, v1, hg1⟩ := grab_ok (g := g) (n := f.base) (N := N) (by omega) (by omega) hg (by omega)
    have hla : acc.length < 16777216 := by omega
    obtain ⟨xs, g', e, r1, r2, r3⟩ := gr_lc hb (e1 := e1) (e2 := e2) (e4 := e4) (e5 := e5) (e6 := e6) (e7 := e7) (e8 := e8) (e9 := e9) (e10 := e10) (e11 := e11) (e12 := e12) (e13 := e13) (e14 := e14) ds g1 (N + 1) (acc ++ [.int v]) (by rw [List.length_append, List.length_singleton]; omega) hg1 (by omega)
    refine ⟨v :: xs, g', ?_, by rw [List.length_cons, List.length_cons, r1], Signs.cons ⟨v0, v1⟩ r2, r3.le (by rw [List.length_cons]; omega)⟩
    rw [List.map_cons, show acc ++ D.int v :: xs.map D.int = (acc ++ [.int v]) ++ xs.map D.int by simp, ← e]
    clear e r1 r2 r3 hl hN hg hg1 v0 v1 hb
    walk_at "ev"
theorem wh_lc {f : Frm} (hb : 2 ≤ f.base ∧ f.base ≤ 256) {e2 : Sl} : ∀ (ms : List (Option Int)) (g : Bag) (N : Int) (acc : List D), (∀ k, some k ∈ ms → 0 ≤ k ∧ k < f.base) → acc.length + ms.length ≤ 16777216 → g.In N → N + (ms.length : Int) < 2 ^ 60 →
    ∃ (xs : List Int) (g' : Bag), lcD (.nm 14) fYes wrE [14] (ms.map mkD) [.bor g.d, .val f.d, e2, .un, .un, .un, .un, .un, .un, .un, .un, .un, .un, .un, .un, .un] acc = some (acc ++ xs.map D.int, [.bor g'.d, .val f.d, e2, .un, .un, .un, .un, .un, .un, .un, .un, .un, .un, .un, .un, .un]) ∧ xs.length = ms.length ∧ Signs f xs ∧ Bag.In g' (N + (ms.length : Int))
  | [], g, N, acc, _, _, hg, _ => ⟨[], g, by rw [List.map_nil, lc_nil, List.map_nil, List.append_nil], rfl, Signs.nil, by simpa using hg⟩
  | none :: ms, g, N, acc, hm, hl, hg, hN => by
    rw [List.length_cons] at hl hN
    obtain ⟨v, g1, q1, v0, v1, hg1⟩ := grab_ok (g := g) (n := f.base) (N := N) (by omega) (by omega) hg (by omega)
    have hla : acc.length < 16777216 := by omega
    obtain ⟨xs, g', e, r1, r2, r3⟩ := wh_lc hb (e2 := e2) ms g1 (N + 1) (acc ++ [.int v]) (fun k hk => hm k (by simp [hk])) (by rw [List.length_append, List.length_singleton]; omega) hg1 (by omega)
    refine ⟨v :: xs, g', ?_, by rw [List.length_cons, List.length_cons, r1], Signs.cons ⟨v0, v1⟩ r2, r3.le (by rw [List.length_cons]; omega)⟩
    rw [List.map_cons, List.map_cons, mkD_n, show acc ++ D.int v :: xs.map D.int = (acc ++ [.int v]) ++ xs.map D.int by simp, ← e]
    clear e r1 r2 r3 hl hN hg hg1 v0 v1 hb hm
    walk_at "ev"
  | some k :: ms, g, N, acc, hm, hl, hg, hN => by
    rw [List.length_cons] at hl hN
    have hla : acc.length < 16777216 := by omega
    obtain ⟨xs, g', e, r1, r2, r3⟩ := wh_lc hb (e2 := e2) ms g N (acc ++ [.int k]) (fun k hk => hm k (by simp [hk])) (by rw [List.length_append, List.length_singleton]; omega) hg (by omega)
    refine ⟨k :: xs, g', ?_, by rw [List.length_cons, List.length_cons, r1], Signs.cons (hm k (by simp)) r2, r3.le (by rw [List.length_cons]; omega)⟩
    rw [List.map_cons, List.map_cons, mkD_s, show acc ++ D.int k :: xs.map D.int = (acc ++ [.int k]) ++ xs.map D.int by simp, ← e]
    clear e r1 r2 r3 hl hN hg hb hm
    walk_at "ev"
theorem wf_lc {e0 e1 e2 e3 e4 e5 e6 e7 e8 e9 e10 e11 e13 e14 e15 : Sl} : ∀ (ts : List (Int × Us)) (acc : List D), acc.length + ts.length ≤ 16777216 → lcD (.nm 12) wrF (fName 12) [12] (ts.map tgD) [e0, e1, e2, e3, e4, e5, e6, e7, e8, e9, e10, e11, .un, e13, e14, e15] acc = some (acc ++ (ts.filter fun t => t.2.isE).map tgD, [e0, e1, e2, e3, e4, e5, e6, e7, e8, e9, e10, e11, .un, e13, e14, e15])
  | [], acc, _ => by rw [List.map_nil, lc_nil, List.filter_nil, List.map_nil, List.append_nil]
  | t :: ts, acc, h => by
    rw [List.length_cons] at h
    have hb : ∀ i, gIx (tgD t) (.int i) = kIx (atI [.int t.1, t.2.s] i) := fun _ => rfl
    have hu := us_in (u := t.2)
    cases ht : t.2.isE with
    | true =>
      rw [ht] at hu
      have ih := wf_lc (e0 := e0) (e1 := e1) (e2 := e2) (e3 := e3) (e4 := e4) (e5 := e5) (e6 := e6) (e7 := e7) (e8 := e8) (e9 := e9) (e10 := e10) (e11 := e11) (e13 := e13) (e14 := e14) (e15 := e15) ts (acc ++ [tgD t]) (by rw [List.length_append, List.length_singleton]; omega)
      rw [List.filter_cons, if_pos ht, List.map_cons, List.map_cons, show acc ++ tgD t :: List.map tgD (ts.filter fun t => t.2.isE) = (acc ++ [tgD t]) ++ List.map tgD (ts.filter fun t => t.2.isE) by simp, ← ih]
      have hl : acc.length < 16777216 := by omega
      clear ih h ht
      walk_at "ev"
    | false =>
      rw [ht] at hu
      have ih := wf_lc (e0 := e0) (e1 := e1) (e2 := e2) (e3 := e3) (e4 := e4) (e5 := e5) (e6 := e6) (e7 := e7) (e8 := e8) (e9 := e9) (e10 := e10) (e11 := e11) (e13 := e13) (e14 := e14) (e15 := e15) ts acc (by omega)
      rw [List.filter_cons, if_neg (by rw [ht]; exact fun h => nomatch h), ← ih]
      clear ih h ht
      walk_at "ev"
end Dv

set_option Elab.async false
set_option linter.all false
set_option maxRecDepth 100000
set_option maxHeartbeats 4000000
namespace Dv
open PySem PySem.Spec PyProof.Rows L2
local macro_rules | `(tactic| walk_at "ev") => `(tactic| simp only [kRet_s, ev_name, ev_c, nm_val, nm_own, nm_bor, der_d, der_nw, der_sl, sl_own, sl_bor, sl_val, ev_bin, kBin_s, kBin2_s, kBin3_s, kBin4_s, ev_b1, kOne_s, kOne2_s, kRetD_s, ev_un, kUn1_s, kUn12_s, gNeg_i, ev_test, kTst_s, ev_and, ev_or, ev_not, kAnd_t, kAnd_f, kOr_t, kOr_f, kNot_s, ev_notV, kBl_s, ev_andV, ev_orV, kAndV_t, kAndV_f, kOrV_t, kOrV_f, ev_if, kIfE_t, kIfE_f, ev_yes, ev_ch, kCh_s, kCh2_s, kCh3_s, kCh4_s, kCh5_t, kCh5_f, ev_nil, ev_cons, kC1_s, kC2_s, ev_rev, kRv_s, escs_nil, escs_cons, kX1_s, kX2_s, esc_d, esc_nw, esc_sl, escS_own, escS_val, ev_tup, kT1_s, kT2_s, ev_lst, kL1_s, kL2_s, ev_pno, ev_pzero, ev_pint, kPI_s, ev_sl, kS1_s, kS2_s, kS3_s, kS4_s, ev_lrg, kR1_s, kR2_s, ev_call, kF1_s, kF2_s, kF3_s, ders_nil, ders_cons, kD1_s, kD2_s, rt_d, rt_nw, ev_call1, kG1_s, kG2_s, kG3_s, kG4_s, ow_own, ow_bor, put_own, put_bor, ev_iseq, kI1_s, kI2_t, kI2_l, kI2_f, ev_irg1, kN1_u, kN1_i, ev_irg2, kN2_s, kN3_u, ev_lc, kV1_s, kV2_s, ev_seq, kSeq_n, kSeq_r, kSeq_b, kSeq_c, ev_skip, ev_break, ev_cont, ev_retN, ev_ret, kRt_s, ev_sif, kIf_t, kIf_f, ev_drop, kDr_s, ev_set, kSt_s, kSt2_s, ev_own, kOw_s, ev_unp, kUn_s, kUn2_s, kNx_s, bt_nm, bt_tp, sa_nil, sa_cons, ev_par, kPa_s, sp_nil, sp_own, sp_val, ev_app, kAp_s, kAp2_s, kAp3_s, kAp4_s, ev_sti, kSi_s, kSi2_s, kSi3_s, kSi4_s, kSi5_s, kSi6_s, ev_aug, kAg_s, kAg2_s, val_s, ev_for, kFo_s, loop_nil, loop_cons, kLp_s, kLp_n, kLp_c, kLp_b, kLp_r, ev_while, while_s, kWh_f, kWh_t, kWh_n, kWh_c, kWh_b, kWh_r, lc_nil, lc_cons, kLc1_s, kLc2_t, kLc2_f, kLc3_s, kLc4_s, run0_k, kE0_r, kE0_n, rtOf_d, rtOf_nw, rtOf_sl, rtS_own, run1_k, kE1_r, kE1_n, kE2_s, bor_s, gAdd_i, gAdd_l, gAdd_t, gSub_i, gMul_i, gMod_i, gDiv_i, gPow_i, gEq_i, gEq_s, gEq_b, gCmp_i, gIs_n, gInt_i, gInt_b, gMax_i, gMin_i, gAbs_i, gTup_t, gTup_l, gLen_t, gLen_l, gLen_f, gIx_t, gIx_l, gIx_f, kIx_s, at_0, at_1, at_2, at_3, at_4, at_5, gSl_t, gSl_l,
  List.map_cons, List.map_nil, List.cons_append, List.nil_append, List.append_nil, List.length_cons, List.length_nil, List.replicate_succ, List.replicate_zero, Nat.reduceSub, Nat.reduceAdd, List.getElem?_cons_zero, List.getElem?_cons_succ, List.getElem?_nil, List.set_cons_zero, List.set_cons_succ, List.set_nil, Nat.zero_add, Nat.add_zero,
  List.all_cons, List.all_nil, notSl, Bool.and_true, Bool.true_and, Bool.or_true, Bool.true_or, Bool.and_false, Bool.false_and, Bool.or_false, Bool.false_or, if_true, if_false, Bool.false_eq_true, reduceIte, Bool.not_true, Bool.not_false, Bool.bne_true, Bool.bne_false, decide_true, decide_false, wipeE, backE, backS, nc_0, List.length_map, List.length_append, rg_len, Nat.reduceLeDiff, fd_ix, fi_ix, fi_len, fi_it, dcs, eq_self, Int.reduceEq, Int.reduceLT, Int.reduceLE, Int.reduceAdd, Int.reduceSub, Int.reduceMul, Int.reduceToNat, gIs_c, mkD_n, mkD_s, items, and_true, true_and, and_self, bne_self_eq_false, wt, gIn_t, gIsi_i, gIsi_t, gIsi_s, gIsi_n, gIsi_b, gIsi_l, isi2_c, gEq_n, gEq_l, flatD, eqF_s, eqF_i, eqF_n, List.any_cons, List.any_nil, Rt.o, Option.bind_some, phi0_s, phi1_s, List.reverse_cons, List.reverse_nil, decide_eq_true_eq, *])
abbrev wrC : FS := (sSeq (sSet 9 (fCall1 phi__law_grab (aCons (fName 0) (aCons (fBin gAdd (fBin gMin (fBin gIx (fName 1) (fC (.int 3))) (fBin gIx (fLst (aCons (fC (.int 2)) (aCons (fC (.int 6)) (aCons (fC (.int 150)) aNil)))) (fCall1 phi__law_grab (aCons (fName 0) (aCons (fC (.int 3)) aNil))))) (fC (.int 1))) aNil))))
    (sSeq (sSet 9 (fIf (fTest (fBin (gEq false) (fBin gIx (fName 1) (fC (.int 2))) (fC (.str "one")))) (fBin gMin (fName 9) (fBin gSub (fName 3) (fC (.int 1)))) (fBin gMin (fName 9) (fBin gSub (fBin gMul (fName 3) (fName 3)) (fC (.int 1))))))
    (sSeq (sSet 10 (fLc (iRg1 (pInt (fName 9))) (.nm 15) fYes (fCall1 phi__law_grab (aCons (fName 0) (aCons (fName 3) aNil))) [15]))
    (sSeq (sSet 11 (fIf (fTest (fBin (gEq false) (fBin gIx (fName 1) (fC (.int 2))) (fC (.str "high")))) (fLst (aCons (fBin gDiv (fName 9) (fName 3)) (aCons (fBin gMod (fB1 gInt (fName 9)) (fName 3)) aNil))) (fLst (aCons (fBin gMod (fB1 gInt (fName 9)) (fName 3)) (aCons (fBin gDiv (fName 9) (fName 3)) aNil)))))
    (sSeq (sOwn 4 (fBin gAdd (fBin gAdd (fBin gAdd (fName 4) (fLst (aCons (fName 7) aNil))) (fIf (fTest (fBin (gEq false) (fBin gIx (fName 1) (fC (.int 2))) (fC (.str "one")))) (fLst (aCons (fName 9) aNil)) (fName 11))) (fName 10)))
    (sIf (fTest (fBin (gEq false) (fName 8) (fC (.str "check")))) (sApp 4 (fBin gMod (fB1 gInt (fB1 gSum (fName 10))) (fName 3))) sSkip))))))

/-! ### drawn files, the loop -/
theorem us_tells {u : Option Us} : gIn false (useE u) (.tup [.str "keep", .str "check", .str "skip"]) = some (.d (.bl (match u with | some u => u.tells | none => false))) := by
  cases u with
  | none => rfl
  | some u => cases u <;> rfl
theorem min_cut {w b : Int} (hb : 0 < b) (w0 : 0 ≤ w) : ∃ v, (if b - 1 < w then b - 1 else w) = v ∧ 0 ≤ v ∧ v < b ∧ v ≤ w := by
  by_cases h : b - 1 < w
  · exact ⟨b - 1, if_pos h, by omega, by omega, by omega⟩
  · exact ⟨w, if_neg h, by omega, by omega, by omega⟩
theorem min_cut2 {x y : Int} (hx : 0 ≤ x) (hy : 0 ≤ y) : ∃ v, (if y < x then y else x) = v ∧ 0 ≤ v ∧ v ≤ y := by
  by_cases h : y < x
  · exact ⟨y, if_pos h, by omega, by omega⟩
  · exact ⟨x, if_neg h, by omega, by omega⟩
/-- one chunk -/
theorem wr_chunk {f : Frm} (o : f.Ok) {g : Bag} {N : Int} {R : FS} {found : List Int} {e2 e5 c6 c9 c10 c11 : Sl} {s : Int} {u : Us} (hg : g.In N) (hN : N + 2000 < 2 ^ 60) (hf : Signs f found) (hl : found.length ≤ 100000) (hs : 0 ≤ s ∧ s < f.base) (ht : u.tells = true) (G : Option Out → Prop)
    (h : ∀ (found' : List Int) (g' : Bag) (c9 c10 c11 : Sl), Signs f found' → found'.length ≤ found.length + 154 → Bag.In g' (N + 155) → G (R [.bor g'.d, .val f.d, e2, .val (.int f.base), .own (found'.map .int), e5, c6, .val (.int s), .val u.s, c9, c10, c11, .un, .un, .un, .un])) :
    G (kSeq R (wrC [.bor g.d, .val f.d, e2, .val (.int f.base), .own (found.map .int), e5, c6, .val (.int s), .val u.s, c9, c10, c11, .un, .un, .un, .un])) := by
  have b0 := o.b0
  have b1 := o.b1
  have m0 := o.m0
  obtain ⟨v1, g1, q1, a1, z1, i1⟩ := grab_ok (n := 3) (by omega) (by omega) hg (by omega)
  obtain ⟨u1, p1, r1⟩ := pick3 (x := 2) (y := 6) (z := 150) a1 z1
  obtain ⟨t, ht1, t0, t1⟩ := min_cut2 (x := f.most) (y := u1) m0 (by omega)
  obtain ⟨w, g2, q2, w0, w1, i2⟩ := grab_ok (n := t + 1) (by omega) (by omega) i1 (by omega)
  have m1 : ∀ z : Int, gMod (.int z) (.int f.base) = some (.d (.int (z % f.base))) := fun z => gMod_i (by omega)
  have d1 : ∀ z : Int, gDiv (.int z) (.int f.base) = some (.d (.int (z / f.base))) := fun z => gDiv_i ⟨by omega, by have := lg (i := f.base) (k := 30) (by omega) (by omega); omega⟩
  have mm := mul_s (a := f.base) (b := f.base) (by omega) (by omega) (by omega) (by omega)
  have bb : f.base ≤ f.base * f.base := by
    have := Int.mul_le_mul_of_nonneg_left (show 1 ≤ f.base by omega) (show 0 ≤ f.base by omega)
    omega
  have wh := wide_high (w := f.width)
  have wo := wide_one (w := f.width)
  have uc : gEq false u.s (.str "check") = some (.d (.bl u.isC)) := by cases u <;> rfl
  have hmod : ∀ z : Int, 0 ≤ z % f.base ∧ z % f.base < f.base := fun z => ⟨Int.emod_nonneg _ (by omega), Int.emod_lt_of_pos _ (by omega)⟩
  -- what a body and its length come to
  have fin : ∀ (body : List Int) (sz : List Int) (g3 : Bag) (c9 c10 c11 : Sl), Signs f body → Signs f sz → sz.length ≤ 2 → body.length ≤ 150 → Bag.In g3 (N + 155) →
      (u.isC = false → G (R [.bor g3.d, .val f.d, e2, .val (.int f.base), .own (found.map D.int ++ [.int s] ++ sz.map D.int ++ body.map D.int), e5, c6, .val (.int s), .val u.s, c9, c10, c11, .un, .un, .un, .un])) ∧
      (u.isC = true → G (R [.bor g3.d, .val f.d, e2, .val (.int f.base), .own (found.map D.int ++ [.int s] ++ sz.map D.int ++ body.map D.int ++ [.int (body.sum % f.base)]), e5, c6, .val (.int s), .val u.s, c9, c10, c11, .un, .un, .un, .un])) := by
    intro body sz g3 c9 c10 c11 h1 h2 h3 h4 h5
    refine ⟨fun _ => ?_, fun _ => ?_⟩
    · have := h (found ++ [s] ++ sz ++ body) g3 c9 c10 c11 (((hf.app (Signs.one hs)).app h2).app h1) (by simp; omega) h5
      simpa using this
    · have := h (found ++ [s] ++ sz ++ body ++ [body.sum % f.base]) g3 c9 c10 c11 ((((hf.app (Signs.one hs)).app h2).app h1).app (Signs.one (hmod _))) (by simp; omega) h5
      simpa using this
  by_cases hw : f.width = .one
  · rw [hw] at wh wo
    dsimp only at wh wo
    obtain ⟨v, hv, y0, y1, y2⟩ := min_cut (w := w) (b := f.base) (by omega) w0
    obtain ⟨body, g3, q3, l3, s3, i3⟩ := gr_lc (f := f) ⟨b0, b1⟩ (e1 := .val f.d) (e2 := e2) (e4 := .own (found.map .int)) (e5 := e5) (e6 := c6) (e7 := .val (.int s)) (e8 := .val u.s) (e9 := .val (.int v)) (e10 := c10) (e11 := c11) (e12 := .un) (e13 := .un) (e14 := .un) (rgD 0 v.toNat) g2 (N + 2) [] (by rw [rg_len]; simp; omega) (i2.le (by omega)) (by rw [rg_len]; omega)
    rw [rg_len] at l3 i3
    rw [List.nil_append] at q3
    have hsum := sum_lst (xs := body)
    obtain ⟨F0, F1⟩ := fin body [v] g3 (.val (.int v)) (.val (.lst (body.map .int))) (.val (.lst [.int (v % f.base), .int (v / f.base)])) s3 (Signs.one ⟨y0, y1⟩) (by simp) (by omega) (i3.le (by omega))
    have n0 : 0 ≤ v := y0
    have n1 : v ≤ 16777216 := by omega
    have n2 : found.length + 1 ≤ 16777216 := by omega
    have n3 : found.length + 1 + 1 ≤ 16777216 := by omega
    have n4 : found.length + 1 + 1 + body.length ≤ 16777216 := by omega
    have n5 : found.length + 1 + 1 + body.length < 16777216 := by omega
    clear h fin i1 i2 i3 s3 hf hmod bb o b0 b1 m0 a1 z1 r1 t0 t1 w0 w1 y0 y1 y2 hN hl hs l3 hg
    cases hc : u.isC with
    | false =>
      have F := F0 hc
      rw [hc] at uc
      clear F0 F1 hc ht
      revert F
      refine Eq.mp (congrArg G ?_)
      simp only [List.map_cons, List.map_nil]
      symm
      unfold wrC
      walk_at "ev"
    | true =>
      have F := F1 hc
      rw [hc] at uc
      clear F0 F1 hc ht
      revert F
      refine Eq.mp (congrArg G ?_)
      simp only [List.map_cons, List.map_nil]
      symm
      unfold wrC
      walk_at "ev"
  · obtain ⟨v, hv, y0, y1, y2⟩ := min_cut (w := w) (b := f.base * f.base) (by omega) w0
    obtain ⟨body, g3, q3, l3, s3, i3⟩ := gr_lc (f := f) ⟨b0, b1⟩ (e1 := .val f.d) (e2 := e2) (e4 := .own (found.map .int)) (e5 := e5) (e6 := c6) (e7 := .val (.int s)) (e8 := .val u.s) (e9 := .val (.int v)) (e10 := c10) (e11 := c11) (e12 := .un) (e13 := .un) (e14 := .un) (rgD 0 v.toNat) g2 (N + 2) [] (by rw [rg_len]; simp; omega) (i2.le (by omega)) (by rw [rg_len]; omega)
    rw [rg_len] at l3 i3
    rw [List.nil_append] at q3
    have hsum := sum_lst (xs := body)
    have hdiv : 0 ≤ v / f.base ∧ v / f.base < f.base := ⟨Int.ediv_nonneg y0 (by omega), Int.ediv_lt_of_lt_mul (by omega) y1⟩
    have n0 : 0 ≤ v := y0
    have n1 : v ≤ 16777216 := by omega
    have n2 : found.length + 1 ≤ 16777216 := by omega
    have n3 : found.length + 1 + 2 ≤ 16777216 := by omega
    have n4 : found.length + 1 + 2 + body.length ≤ 16777216 := by omega
    have n5 : found.length + 1 + 2 + body.length < 16777216 := by omega
    have n6 : body.length ≤ 150 := by omega
    cases hw2 : f.width with
    | one => exact absurd hw2 hw
    | high =>
      rw [hw2] at wh wo
      dsimp only at wh wo
      obtain ⟨F0, F1⟩ := fin body [v / f.base, v % f.base] g3 (.val (.int v)) (.val (.lst (body.map .int))) (.val (.lst [.int (v / f.base), .int (v % f.base)])) s3 (Signs.cons hdiv (Signs.one (hmod _))) (by simp) n6 (i3.le (by omega))
      clear h fin i1 i2 i3 s3 hf hmod bb o b0 b1 m0 a1 z1 r1 t0 t1 w0 w1 y0 y1 y2 hN hl hs l3 hg hw hdiv n6
      cases hc : u.isC with
      | false =>
        have F := F0 hc
        rw [hc] at uc
        clear F0 F1 hc ht
        revert F
        refine Eq.mp (congrArg G ?_)
        simp only [List.map_cons, List.map_nil]
        symm
        unfold wrC
        walk_at "ev"
      | true =>
        have F := F1 hc
        rw [hc] at uc
        clear F0 F1 hc ht
        revert F
        refine Eq.mp (congrArg G ?_)
        simp only [List.map_cons, List.map_nil]
        symm
        unfold wrC
        walk_at "ev"
    | low =>
      rw [hw2] at wh wo
      dsimp only at wh wo
      obtain ⟨F0, F1⟩ := fin body [v % f.base, v / f.base] g3 (.val (.int v)) (.val (.lst (body.map .int))) (.val (.lst [.int (v % f.base), .int (v / f.base)])) s3 (Signs.cons (hmod _) (Signs.one hdiv)) (by simp) n6 (i3.le (by omega))
      clear h fin i1 i2 i3 s3 hf hmod bb o b0 b1 m0 a1 z1 r1 t0 t1 w0 w1 y0 y1 y2 hN hl hs l3 hg hw hdiv n6
      cases hc : u.isC with
      | false =>
        have F := F0 hc
        rw [hc] at uc
        clear F0 F1 hc ht
        revert F
        refine Eq.mp (congrArg G ?_)
        simp only [List.map_cons, List.map_nil]
        symm
        unfold wrC
        walk_at "ev"
      | true =>
        have F := F1 hc
        rw [hc] at uc
        clear F0 F1 hc ht
        revert F
        refine Eq.mp (congrArg G ?_)
        simp only [List.map_cons, List.map_nil]
        symm
        unfold wrC
        walk_at "ev"
theorem kSeq_skip {x : Option Out} : kSeq sSkip x = x := by
  cases x with
  | none => rfl
  | some o => cases o <;> rfl
theorem wr_chunk2 {f : Frm} (o : f.Ok) {g : Bag} {N : Int} {found : List Int} {e2 e5 c6 c9 c10 c11 : Sl} {s : Int} {u : Us} (hg : g.In N) (hN : N + 2000 < 2 ^ 60) (hf : Signs f found) (hl : found.length ≤ 100000) (hs : 0 ≤ s ∧ s < f.base) (ht : u.tells = true) :
    ∃ (found' : List Int) (g' : Bag) (d9 d10 d11 : Sl), wrC [.bor g.d, .val f.d, e2, .val (.int f.base), .own (found.map .int), e5, c6, .val (.int s), .val u.s, c9, c10, c11, .un, .un, .un, .un] = some (.nx [.bor g'.d, .val f.d, e2, .val (.int f.base), .own (found'.map .int), e5, c6, .val (.int s), .val u.s, d9, d10, d11, .un, .un, .un, .un]) ∧ Signs f found' ∧ found'.length ≤ found.length + 154 ∧ Bag.In g' (N + 155) := by
  have h := wr_chunk o (R := sSkip) (c6 := c6) (c9 := c9) (c10 := c10) (c11 := c11) (e2 := e2) (e5 := e5) hg hN hf hl hs ht (fun x => ∃ (found' : List Int) (g' : Bag) (d9 d10 d11 : Sl), x = some (.nx [.bor g'.d, .val f.d, e2, .val (.int f.base), .own (found'.map .int), e5, c6, .val (.int s), .val u.s, d9, d10, d11, .un, .un, .un, .un]) ∧ Signs f found' ∧ found'.length ≤ found.length + 154 ∧ Bag.In g' (N + 155)) (fun found' g' c9 c10 c11 k1 k2 k3 => ⟨found', g', c9, c10, c11, rfl, k1, k2, k3⟩)
  rw [kSeq_skip] at h
  exact h
theorem wr_loop {f : Frm} (o : f.Ok) {many ends : D} : ∀ (ds : List D) (g : Bag) (N : Int) (found : List Int) (c6 c7 c8 c9 c10 c11 : Sl), g.In N → N + 160 * (ds.length : Int) + 4000 < 2 ^ 60 → Signs f found → found.length + 154 * ds.length ≤ 100000 →
    ∃ (found' : List Int) (g' : Bag) (d6 d7 d8 d9 d10 d11 : Sl), loopD (.nm 6) wrB ds [.bor g.d, .val f.d, .val many, .val (.int f.base), .own (found.map .int), .val ends, c6, c7, c8, c9, c10, c11, .un, .un, .un, .un] = some (.nx [.bor g'.d, .val f.d, .val many, .val (.int f.base), .own (found'.map .int), .val ends, d6, d7, d8, d9, d10, d11, .un, .un, .un, .un]) ∧ Signs f found' ∧ found'.length ≤ found.length + 154 * ds.length ∧ Bag.In g' (N + 160 * (ds.length : Int)) := by
  intro ds
  induction ds with
  | nil =>
    intro g N found c6 c7 c8 c9 c10 c11 hg hN hf hl
    exact ⟨found, g, c6, c7, c8, c9, c10, c11, rfl, hf, by simp, by simpa using hg⟩
  | cons d ds ih =>
    intro g N found c6 c7 c8 c9 c10 c11 hg hN hf hl
    have b0 := o.b0
    have b1 := o.b1
    rw [List.length_cons] at hN hl
    obtain ⟨s, g1, q1, s0, s1, i1⟩ := grab_ok (n := f.base) (by omega) (by omega) hg (by omega)
    have e3 := law_use (f := f) (s := s)
    have e4 := us_tells (u := useOf f s)
    cases hu : (match useOf f s with | some u => u.tells | none => false) with
    | false =>
      rw [hu] at e4
      obtain ⟨f2, g2, d6, d7, d8, d9, d10, d11, e, k1, k2, k3⟩ := ih g1 (N + 1) found (.val d) (.val (.int s)) (.val (useE (useOf f s))) c9 c10 c11 i1 (by omega) hf (by omega)
      refine ⟨f2, g2, d6, d7, d8, d9, d10, d11, ?_, k1, by rw [List.length_cons]; omega, k3.le (by rw [List.length_cons]; omega)⟩
      rw [← e]
      clear e k1 k2 k3 ih hl hN hf i1 s0 s1 hu hg b0 b1
      walk_at "ev"
    | true =>
      rw [hu] at e4
      cases hv : useOf f s with
      | none => rw [hv] at hu; cases hu
      | some u =>
        rw [hv] at hu e3 e4
        dsimp only [useE] at e3 e4
        obtain ⟨f1, g2, d9, d10, d11, e, k1, k2, k3⟩ := wr_chunk2 o (c6 := .val d) (c9 := c9) (c10 := c10) (c11 := c11) (e2 := .val many) (e5 := .val ends) (s := s) (u := u) (found := found) i1 (by omega) hf (by omega) ⟨s0, s1⟩ hu
        obtain ⟨f3, g3, x6, x7, x8, x9, x10, x11, e5, y1, y2, y3⟩ := ih g2 (N + 156) f1 (.val d) (.val (.int s)) (.val u.s) d9 d10 d11 (k3.le (by omega)) (by omega) k1 (by omega)
        refine ⟨f3, g3, x6, x7, x8, x9, x10, x11, ?_, y1, by rw [List.length_cons]; omega, y3.le (by rw [List.length_cons]; omega)⟩
        have e6 : loopD (.nm 6) wrB (d :: ds) [.bor g.d, .val f.d, .val many, .val (.int f.base), .own (found.map .int), .val ends, c6, c7, c8, c9, c10, c11, .un, .un, .un, .un] = kLp2 (.nm 6) wrB ds (wrC [.bor g1.d, .val f.d, .val many, .val (.int f.base), .own (found.map .int), .val ends, .val d, .val (.int s), .val u.s, c9, c10, c11, .un, .un, .un, .un]) := by
          clear e e5 k1 k2 k3 y1 y2 y3 ih hl hN hf i1 s0 s1 hu hg b0 b1 hv
          walk_at "ev"
        rw [e6, e, kLp_n, e5]
end Dv

set_option Elab.async false
set_option linter.all false
set_option maxRecDepth 100000
set_option maxHeartbeats 4000000
namespace Dv
open PySem PySem.Spec PyProof.Rows L2
local macro_rules | `(tactic| walk_at "ev") => `(tactic| simp only [kRet_s, ev_name, ev_c, nm_val, nm_own, nm_bor, der_d, der_nw, der_sl, sl_own, sl_bor, sl_val, ev_bin, kBin_s, kBin2_s, kBin3_s, kBin4_s, ev_b1, kOne_s, kOne2_s, kRetD_s, ev_un, kUn1_s, kUn12_s, gNeg_i, ev_test, kTst_s, ev_and, ev_or, ev_not, kAnd_t, kAnd_f, kOr_t, kOr_f, kNot_s, ev_notV, kBl_s, ev_andV, ev_orV, kAndV_t, kAndV_f, kOrV_t, kOrV_f, ev_if, kIfE_t, kIfE_f, ev_yes, ev_ch, kCh_s, kCh2_s, kCh3_s, kCh4_s, kCh5_t, kCh5_f, ev_nil, ev_cons, kC1_s, kC2_s, ev_rev, kRv_s, escs_nil, escs_cons, kX1_s, kX2_s, esc_d, esc_nw, esc_sl, escS_own, escS_val, ev_tup, kT1_s, kT2_s, ev_lst, kL1_s, kL2_s, ev_pno, ev_pzero, ev_pint, kPI_s, ev_sl, kS1_s, kS2_s, kS3_s, kS4_s, ev_lrg, kR1_s, kR2_s, ev_call, kF1_s, kF2_s, kF3_s, ders_nil, ders_cons, kD1_s, kD2_s, rt_d, rt_nw, ev_call1, kG1_s, kG2_s, kG3_s, kG4_s, ow_own, ow_bor, put_own, put_bor, ev_iseq, kI1_s, kI2_t, kI2_l, kI2_f, ev_irg1, kN1_u, kN1_i, ev_irg2, kN2_s, kN3_u, ev_lc, kV1_s, kV2_s, ev_seq, kSeq_n, kSeq_r, kSeq_b, kSeq_c, ev_skip, ev_break, ev_cont, ev_retN, ev_ret, kRt_s, ev_sif, kIf_t, kIf_f, ev_drop, kDr_s, ev_set, kSt_s, kSt2_s, ev_own, kOw_s, ev_unp, kUn_s, kUn2_s, kNx_s, bt_nm, bt_tp, sa_nil, sa_cons, ev_par, kPa_s, sp_nil, sp_own, sp_val, ev_app, kAp_s, kAp2_s, kAp3_s, kAp4_s, ev_sti, kSi_s, kSi2_s, kSi3_s, kSi4_s, kSi5_s, kSi6_s, ev_aug, kAg_s, kAg2_s, val_s, ev_for, kFo_s, loop_nil, loop_cons, kLp_s, kLp_n, kLp_c, kLp_b, kLp_r, ev_while, while_s, kWh_f, kWh_t, kWh_n, kWh_c, kWh_b, kWh_r, lc_nil, lc_cons, kLc1_s, kLc2_t, kLc2_f, kLc3_s, kLc4_s, run0_k, kE0_r, kE0_n, rtOf_d, rtOf_nw, rtOf_sl, rtS_own, run1_k, kE1_r, kE1_n, kE2_s, bor_s, gAdd_i, gAdd_l, gAdd_t, gSub_i, gMul_i, gMod_i, gDiv_i, gPow_i, gEq_i, gEq_s, gEq_b, gCmp_i, gIs_n, gInt_i, gInt_b, gMax_i, gMin_i, gAbs_i, gTup_t, gTup_l, gLen_t, gLen_l, gLen_f, gIx_t, gIx_l, gIx_f, kIx_s, at_0, at_1, at_2, at_3, at_4, at_5, gSl_t, gSl_l,
  List.map_cons, List.map_nil, List.cons_append, List.nil_append, List.append_nil, List.length_cons, List.length_nil, List.replicate_succ, List.replicate_zero, Nat.reduceSub, Nat.reduceAdd, List.getElem?_cons_zero, List.getElem?_cons_succ, List.getElem?_nil, List.set_cons_zero, List.set_cons_succ, List.set_nil, Nat.zero_add, Nat.add_zero,
  List.all_cons, List.all_nil, notSl, Bool.and_true, Bool.true_and, Bool.or_true, Bool.true_or, Bool.and_false, Bool.false_and, Bool.or_false, Bool.false_or, if_true, if_false, Bool.false_eq_true, reduceIte, Bool.not_true, Bool.not_false, Bool.bne_true, Bool.bne_false, decide_true, decide_false, wipeE, backE, backS, nc_0, List.length_map, List.length_append, rg_len, Nat.reduceLeDiff, fd_ix, fi_ix, fi_len, fi_it, dcs, eq_self, Int.reduceEq, Int.reduceLT, Int.reduceLE, Int.reduceAdd, Int.reduceSub, Int.reduceMul, Int.reduceToNat, gIs_c, mkD_n, mkD_s, items, and_true, true_and, and_self, bne_self_eq_false, wt, gIn_t, gIsi_i, gIsi_t, gIsi_s, gIsi_n, gIsi_b, gIsi_l, isi2_c, gEq_n, gEq_l, flatD, eqF_s, eqF_i, eqF_n, List.any_cons, List.any_nil, Rt.o, Option.bind_some, phi0_s, phi1_s, List.reverse_cons, List.reverse_nil, decide_eq_true_eq, *])
abbrev wrT3 : FS := (sSeq (sIf (fAnd (fTest (fBin (gEq false) (fCall1 phi__law_grab (aCons (fName 0) (aCons (fC (.int 4)) aNil))) (fC (.int 0)))) (fTest (fBin (gEq true) (fName 4) (fLst aNil)))) (sSeq (sSet 13 (fCall1 phi__law_grab (aCons (fName 0) (aCons (fB1 gLen (fName 4)) aNil))))
    (sOwn 4 (fBin gAdd (fBin gAdd (fSl (fName 4) pNo (pInt (fName 13))) (fLst (aCons (fCall1 phi__law_grab (aCons (fName 0) (aCons (fName 3) aNil))) aNil))) (fSl (fName 4) (pInt (fBin gAdd (fName 13) (fCall1 phi__law_grab (aCons (fName 0) (aCons (fC (.int 2)) aNil))))) pNo)))) sSkip)
    (sRet (fB1 gTuple (fName 4))))
abbrev wrT2 : FS := (sSeq (sIf (fTest (fBin (gEq true) (fName 5) (fLst aNil))) (sSeq (sSet 12 (fBin gIx (fName 5) (fCall1 phi__law_grab (aCons (fName 0) (aCons (fB1 gLen (fName 5)) aNil)))))
    (sSeq (sApp 4 (fBin gIx (fName 12) (fC (.int 0))))
    (sIf (fTest (fBin (gEq false) (fBin gIx (fName 12) (fC (.int 1))) (fC (.str "end")))) (sOwn 4 (fBin gAdd (fName 4) (fLc (iRg1 (pInt (fCall1 phi__law_grab (aCons (fName 0) (aCons (fC (.int 4)) aNil))))) (.nm 15) fYes (fCall1 phi__law_grab (aCons (fName 0) (aCons (fName 3) aNil))) [15]))) sSkip))) sSkip)
    wrT3)
abbrev wrT1 : FS := (sSeq (sFor (iRg1 (pInt (fCall1 phi__law_grab (aCons (fName 0) (aCons (fBin gAdd (fName 2) (fC (.int 1))) aNil))))) (.nm 6) (sSeq (sSet 7 (fCall1 phi__law_grab (aCons (fName 0) (aCons (fName 3) aNil))))
    (sSeq (sSet 8 (fCall phi__law_use (aCons (fName 1) (aCons (fName 7) aNil))))
    (sIf (fTest (fBin (gIn false) (fName 8) (fTup (aCons (fC (.str "keep")) (aCons (fC (.str "check")) (aCons (fC (.str "skip")) aNil)))))) (sSeq (sSet 9 (fCall1 phi__law_grab (aCons (fName 0) (aCons (fBin gAdd (fBin gMin (fBin gIx (fName 1) (fC (.int 3))) (fBin gIx (fLst (aCons (fC (.int 2)) (aCons (fC (.int 6)) (aCons (fC (.int 150)) aNil)))) (fCall1 phi__law_grab (aCons (fName 0) (aCons (fC (.int 3)) aNil))))) (fC (.int 1))) aNil))))
    (sSeq (sSet 9 (fIf (fTest (fBin (gEq false) (fBin gIx (fName 1) (fC (.int 2))) (fC (.str "one")))) (fBin gMin (fName 9) (fBin gSub (fName 3) (fC (.int 1)))) (fBin gMin (fName 9) (fBin gSub (fBin gMul (fName 3) (fName 3)) (fC (.int 1))))))
    (sSeq (sSet 10 (fLc (iRg1 (pInt (fName 9))) (.nm 15) fYes (fCall1 phi__law_grab (aCons (fName 0) (aCons (fName 3) aNil))) [15]))
    (sSeq (sSet 11 (fIf (fTest (fBin (gEq false) (fBin gIx (fName 1) (fC (.int 2))) (fC (.str "high")))) (fLst (aCons (fBin gDiv (fName 9) (fName 3)) (aCons (fBin gMod (fB1 gInt (fName 9)) (fName 3)) aNil))) (fLst (aCons (fBin gMod (fB1 gInt (fName 9)) (fName 3)) (aCons (fBin gDiv (fName 9) (fName 3)) aNil)))))
    (sSeq (sOwn 4 (fBin gAdd (fBin gAdd (fBin gAdd (fName 4) (fLst (aCons (fName 7) aNil))) (fIf (fTest (fBin (gEq false) (fBin gIx (fName 1) (fC (.int 2))) (fC (.str "one")))) (fLst (aCons (fName 9) aNil)) (fName 11))) (fName 10)))
    (sIf (fTest (fBin (gEq false) (fName 8) (fC (.str "check")))) (sApp 4 (fBin gMod (fB1 gInt (fB1 gSum (fName 10))) (fName 3))) sSkip)))))) sSkip))))
    wrT2)

/-! ### drawn files, the end -/
theorem wr_t3 {f : Frm} (o : f.Ok) {g : Bag} {N : Int} {found : List Int} {c2 c5 c6 c7 c8 c9 c10 c11 c12 c13 c14 c15 : Sl} (hg : g.In N) (hN : N + 2000 < 2 ^ 60) (hf : Signs f found) (hl : found.length ≤ 100000) :
    ∃ (xs : List Int) (g' : Bag), kE1 (wrT3 [.bor g.d, .val f.d, c2, .val (.int f.base), .own (found.map .int), c5, c6, c7, c8, c9, c10, c11, c12, c13, c14, c15]) = some (.d (fileD xs), g'.d) ∧ Signs f xs ∧ xs.length ≤ found.length + 1 ∧ Bag.In g' (N + 4) := by
  have b0 := o.b0
  have b1 := o.b1
  obtain ⟨v, g1, q1, v0, v1, i1⟩ := grab_ok (n := 4) (by omega) (by omega) hg (by omega)
  have he := gEq_ints (n := true) (xs := found)
  by_cases h : v = 0
  · subst h
    cases hx : found.isEmpty with
    | true =>
      rw [hx] at he
      refine ⟨found, g1, ?_, hf, by omega, i1.le (by omega)⟩
      dsimp only [fileD]
      clear hg hN hf hl i1 v0 v1 hx b0 b1
      walk_at "ev"
    | false =>
      rw [hx] at he
      have hp : 0 < found.length := by
        cases found with
        | nil => cases hx
        | cons a b => simp
      obtain ⟨p, g2, q2, p0, p1, i2⟩ := grab_ok (n := found.length) (by omega) (by omega) i1 (by omega)
      obtain ⟨z, g3, q3, z0, z1, i3⟩ := grab_ok (n := f.base) (by omega) (by omega) i2 (by omega)
      obtain ⟨y, g4, q4, y0, y1, i4⟩ := grab_ok (n := 2) (by omega) (by omega) i3 (by omega)
      have s1 : gSl (.lst (found.map D.int)) none (some p) = some (.nw ((found.take p.toNat).map D.int)) := by rw [gSl_l, cut_to p0]
      have s2 : gSl (.lst (found.map D.int)) (some (p + y)) none = some (.nw ((found.drop (p + y).toNat).map D.int)) := by rw [gSl_l, cut_from (by omega)]
      have l1 : (found.take p.toNat).length ≤ found.length := by rw [List.length_take]; omega
      have l2 : (found.drop (p + y).toNat).length ≤ found.length := by rw [List.length_drop]; omega
      have l3 : (found.take p.toNat).length + 1 + (found.drop (p + y).toNat).length ≤ found.length + 1 := by rw [List.length_take, List.length_drop]; omega
      have n1 : (found.take p.toNat).length + 1 ≤ 16777216 := by omega
      have n2 : (found.take p.toNat).length + 1 + (found.drop (p + y).toNat).length ≤ 16777216 := by omega
      refine ⟨found.take p.toNat ++ [z] ++ found.drop (p + y).toNat, g4, ?_, (hf.take.app (Signs.one ⟨z0, z1⟩)).app hf.drop, by simp only [List.length_append, List.length_singleton]; exact l3, i4.le (by omega)⟩
      dsimp only [fileD]
      rw [List.map_append, List.map_append, List.map_singleton]
      clear hg hN hf hl i1 i2 i3 i4 v0 v1 hx p0 p1 z0 z1 y0 y1 l1 l2 l3 hp b0 b1
      walk_at "ev"
  · have h2 : decide (v = 0) = false := decide_eq_false h
    refine ⟨found, g1, ?_, hf, by omega, i1.le (by omega)⟩
    dsimp only [fileD]
    clear hg hN hf hl i1 v0 v1 h b0 b1
    walk_at "ev"
theorem wr_t2 {f : Frm} (o : f.Ok) {g : Bag} {N : Int} {found : List Int} {c2 c6 c7 c8 c9 c10 c11 : Sl} (hg : g.In N) (hN : N + 4000 < 2 ^ 60) (hf : Signs f found) (hl : found.length ≤ 90000) :
    ∃ (xs : List Int) (g' : Bag), kE1 (wrT2 [.bor g.d, .val f.d, c2, .val (.int f.base), .own (found.map .int), .val (.lst ((f.tags.filter fun t => t.2.isE).map tgD)), c6, c7, c8, c9, c10, c11, .un, .un, .un, .un]) = some (.d (fileD xs), g'.d) ∧ Signs f xs ∧ xs.length ≤ found.length + 6 ∧ Bag.In g' (N + 14) := by
  have b0 := o.b0
  have b1 := o.b1
  have he := gEq_tags (n := true) (xs := f.tags.filter fun t => t.2.isE)
  have hle : (f.tags.filter fun t => t.2.isE).length ≤ 1000 := Nat.le_trans (List.length_filter_le _ _) o.tl
  have htg : ∀ t ∈ (f.tags.filter fun t => t.2.isE), 0 ≤ t.1 ∧ t.1 < f.base := fun t ht => o.tg t (List.mem_filter.mp ht).1
  generalize (f.tags.filter fun t => t.2.isE) = es at he hle htg
  cases hx : es.isEmpty with
  | true =>
    rw [hx] at he
    obtain ⟨xs, g', e, r1, r2, r3⟩ := wr_t3 o (c2 := c2) (c5 := .val (.lst (es.map tgD))) (c6 := c6) (c7 := c7) (c8 := c8) (c9 := c9) (c10 := c10) (c11 := c11) (c12 := .un) (c13 := .un) (c14 := .un) (c15 := .un) hg (by omega) hf (by omega)
    refine ⟨xs, g', ?_, r1, by omega, r3.le (by omega)⟩
    rw [← e]
    clear e r1 r2 r3 hg hN hf hl hx hle htg b0 b1
    walk_at "ev"
  | false =>
    rw [hx] at he
    have hp : 0 < es.length := by
      cases es with
      | nil => cases hx
      | cons a b => simp
    obtain ⟨v, g1, q1, v0, v1, i1⟩ := grab_ok (n := es.length) (by omega) (by omega) hg (by omega)
    have hv : v.toNat < es.length := by omega
    have ha : atI (es.map tgD) v = some (tgD es[v.toNat]) := at_map v0 (List.getElem?_eq_getElem hv)
    have ht := htg _ (List.getElem_mem hv)
    generalize es[v.toNat] = t at ha ht
    have hb : ∀ i, gIx (tgD t) (.int i) = kIx (atI [.int t.1, t.2.s] i) := fun _ => rfl
    have n1 : found.length < 16777216 := by omega
    have hf1 : Signs f (found ++ [t.1]) := hf.app (Signs.one ht)
    have hl1 : (found ++ [t.1]).length = found.length + 1 := by simp
    have hm1 : (found ++ [t.1]).map D.int = found.map D.int ++ [.int t.1] := by simp
    by_cases hu : t.2 = .fin
    · have hc : gEq false t.2.s (.str "end") = some (.d (.bl true)) := by rw [hu]; rfl
      obtain ⟨w, g2, q2, w0, w1, i2⟩ := grab_ok (n := 4) (by omega) (by omega) i1 (by omega)
      obtain ⟨ys, g3, q3, l3, s3, i3⟩ := gr_lc (f := f) ⟨b0, b1⟩ (e1 := .val f.d) (e2 := c2) (e4 := .own (found.map D.int ++ [.int t.1])) (e5 := .val (.lst (es.map tgD))) (e6 := c6) (e7 := c7) (e8 := c8) (e9 := c9) (e10 := c10) (e11 := c11) (e12 := .val (tgD t)) (e13 := .un) (e14 := .un) (rgD 0 w.toNat) g2 (N + 2) [] (by rw [rg_len]; simp; omega) (i2.le (by omega)) (by rw [rg_len]; omega)
      rw [rg_len] at l3 i3
      rw [List.nil_append] at q3
      obtain ⟨xs, g', e, r1, r2, r3⟩ := wr_t3 o (found := found ++ [t.1] ++ ys) (c2 := c2) (c5 := .val (.lst (es.map tgD))) (c6 := c6) (c7 := c7) (c8 := c8) (c9 := c9) (c10 := c10) (c11 := c11) (c12 := .val (tgD t)) (c13 := .un) (c14 := .un) (c15 := .un) i3 (by omega) (hf1.app s3) (by rw [List.length_append, hl1]; omega)
      rw [List.length_append, hl1] at r2
      refine ⟨xs, g', ?_, r1, by omega, r3.le (by omega)⟩
      rw [← e, List.map_append, hm1]
      have m0 : 0 ≤ w := w0
      have m1 : w ≤ 16777216 := by omega
      have m2 : found.length + 1 + ys.length ≤ 16777216 := by omega
      clear e r1 r2 r3 hg hN hf hl hx hle htg i1 i2 i3 l3 s3 w0 w1 v0 v1 hf1 hl1 hm1 hv hp ht hu b0 b1
      walk_at "ev"
    · have hc : gEq false t.2.s (.str "end") = some (.d (.bl false)) := by
        cases h : t.2 <;> first | rfl | exact absurd h hu
      obtain ⟨xs, g', e, r1, r2, r3⟩ := wr_t3 o (found := found ++ [t.1]) (c2 := c2) (c5 := .val (.lst (es.map tgD))) (c6 := c6) (c7 := c7) (c8 := c8) (c9 := c9) (c10 := c10) (c11 := c11) (c12 := .val (tgD t)) (c13 := .un) (c14 := .un) (c15 := .un) i1 (by omega) hf1 (by omega)
      refine ⟨xs, g', ?_, r1, by omega, r3.le (by omega)⟩
      rw [← e, hm1]
      clear e r1 r2 r3 hg hN hf hl hx hle htg i1 v0 v1 hf1 hl1 hm1 hv hp ht hu b0 b1
      walk_at "ev"
theorem written_ok {f : Frm} (o : f.Ok) {g : Bag} {N many : Int} (hm : 0 ≤ many ∧ many ≤ 12) (hh : f.head.length ≤ 900) (hg : g.In N) (hN : N + 20000 < 2 ^ 60) :
    ∃ (xs : List Int) (g' : Bag), phi__law_written [.lst g.d, f.d, .int many] = some (.d (fileD xs), g'.d) ∧ Signs f xs ∧ xs.length ≤ 10000 ∧ Bag.In g' (N + 6000) := by
  have b0 := o.b0
  have b1 := o.b1
  have tl := o.tl
  obtain ⟨h1, g1, q1, l1, s1, i1⟩ := wh_lc (f := f) ⟨b0, b1⟩ (e2 := .val (.int many)) f.head g N [] o.hd (by simp; omega) hg (by omega)
  have q2 := wf_lc (e0 := .bor g1.d) (e1 := .val f.d) (e2 := .val (.int many)) (e3 := .val (.int f.base)) (e4 := .own (h1.map .int)) (e5 := .un) (e6 := .un) (e7 := .un) (e8 := .un) (e9 := .un) (e10 := .un) (e11 := .un) (e13 := .un) (e14 := .un) (e15 := .un) f.tags [] (by simp; omega)
  rw [List.nil_append] at q1 q2
  obtain ⟨v, g2, q3, v0, v1, i2⟩ := grab_ok (n := many + 1) (by omega) (by omega) i1 (by omega)
  obtain ⟨h2, g3, d6, d7, d8, d9, d10, d11, q4, s4, l4, i4⟩ := wr_loop o (many := .int many) (ends := .lst ((f.tags.filter fun t => t.2.isE).map tgD)) (rgD 0 v.toNat) g2 (N + 1000) h1 .un .un .un .un .un .un (i2.le (by omega)) (by rw [rg_len]; omega) s1 (by rw [rg_len]; omega)
  rw [rg_len] at l4 i4
  obtain ⟨xs, g4, q5, s5, l5, i5⟩ := wr_t2 o (c2 := .val (.int many)) (c6 := d6) (c7 := d7) (c8 := d8) (c9 := d9) (c10 := d10) (c11 := d11) i4 (by omega) s4 (by omega)
  refine ⟨xs, g4, ?_, s5, by omega, i5.le (by omega)⟩
  rw [← q5]
  have n0 : 0 ≤ v := v0
  have n1 : v ≤ 16777216 := by omega
  clear q5 s5 l5 i5 i4 l4 s4 i2 v0 v1 i1 s1 l1 hg hN hh hm tl b0 b1
  unfold phi__law_written g__law_written
  walk_at "ev"
end Dv

set_option Elab.async false
set_option linter.all false
set_option maxRecDepth 100000
set_option maxHeartbeats 4000000
namespace Dv
open PySem PySem.Spec PyProof.Rows L2
local macro_rules | `(tactic| walk_at "ev") => `(tactic| simp only [kRet_s, ev_name, ev_c, nm_val, nm_own, nm_bor, der_d, der_nw, der_sl, sl_own, sl_bor, sl_val, ev_bin, kBin_s, kBin2_s, kBin3_s, kBin4_s, ev_b1, kOne_s, kOne2_s, kRetD_s, ev_un, kUn1_s, kUn12_s, gNeg_i, ev_test, kTst_s, ev_and, ev_or, ev_not, kAnd_t, kAnd_f, kOr_t, kOr_f, kNot_s, ev_notV, kBl_s, ev_andV, ev_orV, kAndV_t, kAndV_f, kOrV_t, kOrV_f, ev_if, kIfE_t, kIfE_f, ev_yes, ev_ch, kCh_s, kCh2_s, kCh3_s, kCh4_s, kCh5_t, kCh5_f, ev_nil, ev_cons, kC1_s, kC2_s, ev_rev, kRv_s, escs_nil, escs_cons, kX1_s, kX2_s, esc_d, esc_nw, esc_sl, escS_own, escS_val, ev_tup, kT1_s, kT2_s, ev_lst, kL1_s, kL2_s, ev_pno, ev_pzero, ev_pint, kPI_s, ev_sl, kS1_s, kS2_s, kS3_s, kS4_s, ev_lrg, kR1_s, kR2_s, ev_call, kF1_s, kF2_s, kF3_s, ders_nil, ders_cons, kD1_s, kD2_s, rt_d, rt_nw, ev_call1, kG1_s, kG2_s, kG3_s, kG4_s, ow_own, ow_bor, put_own, put_bor, ev_iseq, kI1_s, kI2_t, kI2_l, kI2_f, ev_irg1, kN1_u, kN1_i, ev_irg2, kN2_s, kN3_u, ev_lc, kV1_s, kV2_s, ev_seq, kSeq_n, kSeq_r, kSeq_b, kSeq_c, ev_skip, ev_break, ev_cont, ev_retN, ev_ret, kRt_s, ev_sif, kIf_t, kIf_f, ev_drop, kDr_s, ev_set, kSt_s, kSt2_s, ev_own, kOw_s, ev_unp, kUn_s, kUn2_s, kNx_s, bt_nm, bt_tp, sa_nil, sa_cons, ev_par, kPa_s, sp_nil, sp_own, sp_val, ev_app, kAp_s, kAp2_s, kAp3_s, kAp4_s, ev_sti, kSi_s, kSi2_s, kSi3_s, kSi4_s, kSi5_s, kSi6_s, ev_aug, kAg_s, kAg2_s, val_s, ev_for, kFo_s, loop_nil, loop_cons, kLp_s, kLp_n, kLp_c, kLp_b, kLp_r, ev_while, while_s, kWh_f, kWh_t, kWh_n, kWh_c, kWh_b, kWh_r, lc_nil, lc_cons, kLc1_s, kLc2_t, kLc2_f, kLc3_s, kLc4_s, run0_k, kE0_r, kE0_n, rtOf_d, rtOf_nw, rtOf_sl, rtS_own, run1_k, kE1_r, kE1_n, kE2_s, bor_s, gAdd_i, gAdd_l, gAdd_t, gSub_i, gMul_i, gMod_i, gDiv_i, gPow_i, gEq_i, gEq_s, gEq_b, gCmp_i, gIs_n, gInt_i, gInt_b, gMax_i, gMin_i, gAbs_i, gTup_t, gTup_l, gLen_t, gLen_l, gLen_f, gIx_t, gIx_l, gIx_f, kIx_s, at_0, at_1, at_2, at_3, at_4, at_5, gSl_t, gSl_l,
  List.map_cons, List.map_nil, List.cons_append, List.nil_append, List.append_nil, List.length_cons, List.length_nil, List.replicate_succ, List.replicate_zero, Nat.reduceSub, Nat.reduceAdd, List.getElem?_cons_zero, List.getElem?_cons_succ, List.getElem?_nil, List.set_cons_zero, List.set_cons_succ, List.set_nil, Nat.zero_add, Nat.add_zero,
  List.all_cons, List.all_nil, notSl, Bool.and_true, Bool.true_and, Bool.or_true, Bool.true_or, Bool.and_false, Bool.false_and, Bool.or_false, Bool.false_or, if_true, if_false, Bool.false_eq_true, reduceIte, Bool.not_true, Bool.not_false, Bool.bne_true, Bool.bne_false, decide_true, decide_false, wipeE, backE, backS, nc_0, List.length_map, List.length_append, rg_len, Nat.reduceLeDiff, fd_ix, fi_ix, fi_len, fi_it, dcs, eq_self, Int.reduceEq, Int.reduceLT, Int.reduceLE, Int.reduceAdd, Int.reduceSub, Int.reduceMul, Int.reduceToNat, gIs_c, mkD_n, mkD_s, items, and_true, true_and, and_self, bne_self_eq_false, wt, gIn_t, gIsi_i, gIsi_t, gIsi_s, gIsi_n, gIsi_b, gIsi_l, isi2_c, gEq_n, gEq_l, ev_dk, kDk1_s, kDk2_s, kDk3_s, flatD, eqF_s, eqF_i, eqF_n, List.any_cons, List.any_nil, Rt.o, Option.bind_some, phi0_s, phi1_s, List.reverse_cons, List.reverse_nil, decide_eq_true_eq, *])
/-! ### refusals, exactly -/
def Std.name : Std → Str
  | .head _ => "head" | .tag => "tag" | .length _ => "length" | .second _ _ => "second" | .body _ _ _ => "body" | .sum _ => "sum" | .room => "room" | .over => "over"
def Std.word : Std → Str
  | .head _ => "head" | .tag => "tag" | .length _ => "length" | .second _ _ => "length" | .sum _ => "check" | .over => "behind" | _ => "none"
theorem std_ix {s : Std} : gIx s.d (.int 0) = some (.d (.str s.name)) := by cases s <;> rfl
theorem word_of {f : Frm} {s : Std} {x : Int} (h : step f s x = none) : kdL tb_REFUSALS s.name = some s.word := by
  cases s with
  | body u n t => exfalso; dsimp only [step] at h; split at h <;> cases h
  | room => cases h
  | head k => rfl
  | tag => simp only [Std.name, Std.word, tb_REFUSALS, kdL, wt, if_true, if_false]
  | length u => simp only [Std.name, Std.word, tb_REFUSALS, kdL, wt, if_true, if_false]
  | second u a => simp only [Std.name, Std.word, tb_REFUSALS, kdL, wt, if_true, if_false]
  | sum t => simp only [Std.name, Std.word, tb_REFUSALS, kdL, wt, if_true, if_false]
  | over => simp only [Std.name, Std.word, tb_REFUSALS, kdL, wt, if_true, if_false]
def endsW (f : Frm) : Std → Bool
  | .tag => (f.tags.filter fun t => t.2.isE).isEmpty
  | .room => true
  | .over => true
  | _ => false
theorem ok_str {w : Str} (h : PyData.strOk w = true) {ds : List D} (hl : PyData.canLayAll0 (toPys ds) = true) (hd : PyData.depthAll (toPys ds) ≤ 60) : okP (.tup (.str w :: ds)) = true := by
  unfold okP SeqAt.shaped
  simp [toPy, toPys, PyData.canLay0, PyData.canLayAll0, PyData.depth, PyData.depthAll, h, hl]
  omega
theorem std_okP (s : Std) : okP s.d = true := by
  cases s with
  | head k => exact ok_str (by decide +kernel) (by simp [toPy, toPys, PyData.canLay0, PyData.canLayAll0]) (by simp [toPy, toPys, PyData.depth, PyData.depthAll])
  | tag => exact ok_str (by decide +kernel) rfl (by simp [toPys, PyData.depthAll])
  | length u =>
    obtain ⟨w, e1, e2⟩ := str_use u
    dsimp only [Std.d]; rw [e1]
    exact ok_str (by decide +kernel) (by simp [toPy, toPys, PyData.canLay0, PyData.canLayAll0, e2]) (by simp [toPy, toPys, PyData.depth, PyData.depthAll])
  | second u a =>
    obtain ⟨w, e1, e2⟩ := str_use u
    dsimp only [Std.d]; rw [e1]
    exact ok_str (by decide +kernel) (by simp [toPy, toPys, PyData.canLay0, PyData.canLayAll0, e2]) (by simp [toPy, toPys, PyData.depth, PyData.depthAll])
  | body u n t =>
    obtain ⟨w, e1, e2⟩ := str_use u
    dsimp only [Std.d]; rw [e1]
    exact ok_str (by decide +kernel) (by simp [toPy, toPys, PyData.canLay0, PyData.canLayAll0, e2]) (by simp [toPy, toPys, PyData.depth, PyData.depthAll])
  | sum t => exact ok_str (by decide +kernel) (by simp [toPy, toPys, PyData.canLay0, PyData.canLayAll0]) (by simp [toPy, toPys, PyData.depth, PyData.depthAll])
  | room => exact ok_str (by decide +kernel) rfl (by simp [toPys, PyData.depthAll])
  | over => exact ok_str (by decide +kernel) rfl (by simp [toPys, PyData.depthAll])
def Std.isTag : Std → Bool | .tag => true | _ => false
def Std.isRoom : Std → Bool | .room => true | _ => false
def Std.isOver : Std → Bool | .over => true | _ => false
theorem eq_tag (s : Std) : gEq false s.d (.tup [.str "tag"]) = some (.d (.bl s.isTag)) := by
  have h : gEq false s.d (.tup [.str "tag"]) = (if okP s.d = true ∧ okP (.tup [.str "tag"]) = true then some (Opd.d (.bl (eqP s.d (.tup [.str "tag"]) != false))) else none) := by cases s <;> rfl
  rw [h, if_pos ⟨std_okP s, by decide +kernel⟩]
  congr 3
  unfold eqP
  cases s <;> simp [Std.d, toPy, toPys, PyData.eqv, PyData.eqvAll, Std.isTag, wt] <;> decide +kernel
theorem eq_room (s : Std) : gEq false s.d (.tup [.str "room"]) = some (.d (.bl s.isRoom)) := by
  have h : gEq false s.d (.tup [.str "room"]) = (if okP s.d = true ∧ okP (.tup [.str "room"]) = true then some (Opd.d (.bl (eqP s.d (.tup [.str "room"]) != false))) else none) := by cases s <;> rfl
  rw [h, if_pos ⟨std_okP s, by decide +kernel⟩]
  congr 3
  unfold eqP
  cases s <;> simp [Std.d, toPy, toPys, PyData.eqv, PyData.eqvAll, Std.isRoom, wt] <;> decide +kernel
theorem eq_over (s : Std) : gEq false s.d (.tup [.str "over"]) = some (.d (.bl s.isOver)) := by
  have h : gEq false s.d (.tup [.str "over"]) = (if okP s.d = true ∧ okP (.tup [.str "over"]) = true then some (Opd.d (.bl (eqP s.d (.tup [.str "over"]) != false))) else none) := by cases s <;> rfl
  rw [h, if_pos ⟨std_okP s, by decide +kernel⟩]
  congr 3
  unfold eqP
  cases s <;> simp [Std.d, toPy, toPys, PyData.eqv, PyData.eqvAll, Std.isOver, wt] <;> decide +kernel
end Dv

set_option Elab.async false
set_option linter.all false
set_option maxRecDepth 100000
set_option maxHeartbeats 4000000
namespace Dv
open PySem PySem.Spec PyProof.Rows L2
local macro_rules | `(tactic| walk_at "ev") => `(tactic| simp only [kRet_s, ev_name, ev_c, nm_val, nm_own, nm_bor, der_d, der_nw, der_sl, sl_own, sl_bor, sl_val, ev_bin, kBin_s, kBin2_s, kBin3_s, kBin4_s, ev_b1, kOne_s, kOne2_s, kRetD_s, ev_un, kUn1_s, kUn12_s, gNeg_i, ev_test, kTst_s, ev_and, ev_or, ev_not, kAnd_t, kAnd_f, kOr_t, kOr_f, kNot_s, ev_notV, kBl_s, ev_andV, ev_orV, kAndV_t, kAndV_f, kOrV_t, kOrV_f, ev_if, kIfE_t, kIfE_f, ev_yes, ev_ch, kCh_s, kCh2_s, kCh3_s, kCh4_s, kCh5_t, kCh5_f, ev_nil, ev_cons, kC1_s, kC2_s, ev_rev, kRv_s, escs_nil, escs_cons, kX1_s, kX2_s, esc_d, esc_nw, esc_sl, escS_own, escS_val, ev_tup, kT1_s, kT2_s, ev_lst, kL1_s, kL2_s, ev_pno, ev_pzero, ev_pint, kPI_s, ev_sl, kS1_s, kS2_s, kS3_s, kS4_s, ev_lrg, kR1_s, kR2_s, ev_call, kF1_s, kF2_s, kF3_s, ders_nil, ders_cons, kD1_s, kD2_s, rt_d, rt_nw, ev_call1, kG1_s, kG2_s, kG3_s, kG4_s, ow_own, ow_bor, put_own, put_bor, ev_iseq, kI1_s, kI2_t, kI2_l, kI2_f, ev_irg1, kN1_u, kN1_i, ev_irg2, kN2_s, kN3_u, ev_lc, kV1_s, kV2_s, ev_seq, kSeq_n, kSeq_r, kSeq_b, kSeq_c, ev_skip, ev_break, ev_cont, ev_retN, ev_ret, kRt_s, ev_sif, kIf_t, kIf_f, ev_drop, kDr_s, ev_set, kSt_s, kSt2_s, ev_own, kOw_s, ev_unp, kUn_s, kUn2_s, kNx_s, bt_nm, bt_tp, sa_nil, sa_cons, ev_par, kPa_s, sp_nil, sp_own, sp_val, ev_app, kAp_s, kAp2_s, kAp3_s, kAp4_s, ev_sti, kSi_s, kSi2_s, kSi3_s, kSi4_s, kSi5_s, kSi6_s, ev_aug, kAg_s, kAg2_s, val_s, ev_for, kFo_s, loop_nil, loop_cons, kLp_s, kLp_n, kLp_c, kLp_b, kLp_r, ev_while, while_s, kWh_f, kWh_t, kWh_n, kWh_c, kWh_b, kWh_r, lc_nil, lc_cons, kLc1_s, kLc2_t, kLc2_f, kLc3_s, kLc4_s, run0_k, kE0_r, kE0_n, rtOf_d, rtOf_nw, rtOf_sl, rtS_own, run1_k, kE1_r, kE1_n, kE2_s, bor_s, gAdd_i, gAdd_l, gAdd_t, gSub_i, gMul_i, gMod_i, gDiv_i, gPow_i, gEq_i, gEq_s, gEq_b, gCmp_i, gIs_n, gInt_i, gInt_b, gMax_i, gMin_i, gAbs_i, gTup_t, gTup_l, gLen_t, gLen_l, gLen_f, gIx_t, gIx_l, gIx_f, kIx_s, at_0, at_1, at_2, at_3, at_4, at_5, gSl_t, gSl_l,
  List.map_cons, List.map_nil, List.cons_append, List.nil_append, List.append_nil, List.length_cons, List.length_nil, List.replicate_succ, List.replicate_zero, Nat.reduceSub, Nat.reduceAdd, List.getElem?_cons_zero, List.getElem?_cons_succ, List.getElem?_nil, List.set_cons_zero, List.set_cons_succ, List.set_nil, Nat.zero_add, Nat.add_zero,
  List.all_cons, List.all_nil, notSl, Bool.and_true, Bool.true_and, Bool.or_true, Bool.true_or, Bool.and_false, Bool.false_and, Bool.or_false, Bool.false_or, if_true, if_false, Bool.false_eq_true, reduceIte, Bool.not_true, Bool.not_false, Bool.bne_true, Bool.bne_false, decide_true, decide_false, wipeE, backE, backS, nc_0, List.length_map, List.length_append, rg_len, Nat.reduceLeDiff, fd_ix, fi_ix, fi_len, fi_it, dcs, eq_self, Int.reduceEq, Int.reduceLT, Int.reduceLE, Int.reduceAdd, Int.reduceSub, Int.reduceMul, Int.reduceToNat, gIs_c, mkD_n, mkD_s, items, and_true, true_and, and_self, bne_self_eq_false, wt, gIn_t, gIsi_i, gIsi_t, gIsi_s, gIsi_n, gIsi_b, gIsi_l, isi2_c, gEq_n, gEq_l, ev_dk, kDk1_s, kDk2_s, kDk3_s, flatD, eqF_s, eqF_i, eqF_n, List.any_cons, List.any_nil, Rt.o, Option.bind_some, phi0_s, phi1_s, List.reverse_cons, List.reverse_nil, decide_eq_true_eq, *])
/-! ### the package's refusals -/
abbrev etB : FS := sIf (fTest (fBin (gIn false) (fName 2) (fTup (aCons (fC (.str "end")) (aCons (fC (.str "stop")) aNil))))) (sRet (fName 1)) sSkip
theorem et_loop {f : Frm} {R : FS} {r : D → Prop} : ∀ (ts : List (Int × Us)) (a b : Sl), ((ts.filter fun t => t.2.isE) = [] → ∀ a b, ∃ d, kE0 (R [.val f.d, a, b]) = some (.d d) ∧ r d) → ((ts.filter fun t => t.2.isE) ≠ [] → ∀ i : Int, r (.int i)) →
    ∃ d, kE0 (kSeq R (loopD (.tp [1, 2]) etB (ts.map tgD) [.val f.d, a, b])) = some (.d d) ∧ r d
  | [], a, b, h1, _ => h1 rfl a b
  | t :: ts, a, b, h1, h2 => by
    have hb := tg_bind (t := t) (ρ := [.val f.d, a, b]) (i := 1) (j := 2)
    have hu := us_in (u := t.2)
    cases ht : t.2.isE with
    | true =>
      rw [ht] at hu
      refine ⟨.int t.1, ?_, h2 (by rw [List.filter_cons, if_pos ht]; exact fun h => nomatch h) _⟩
      clear h1 h2 ht
      walk_at "ev"
    | false =>
      rw [ht] at hu
      have e : (t :: ts).filter (fun t => t.2.isE) = ts.filter fun t => t.2.isE := by rw [List.filter_cons, if_neg (by rw [ht]; exact fun h => nomatch h)]
      rw [e] at h1 h2
      obtain ⟨d, ih, hr⟩ := et_loop (f := f) (R := R) (r := r) ts (.val (.int t.1)) (.val t.2.s) h1 h2
      refine ⟨d, ?_, hr⟩
      rw [← ih]
      clear h1 h2 ht ih e hr
      walk_at "ev"
theorem end_ok {f : Frm} : ∃ d, phi_end_tag [f.d] = some (.d d) ∧ gIs false d .non = some (.d (.bl (f.tags.filter fun t => t.2.isE).isEmpty)) := by
  obtain ⟨d, e, h⟩ := et_loop (f := f) (R := sRet (fC .non)) (r := fun d => gIs false d .non = some (.d (.bl (f.tags.filter fun t => t.2.isE).isEmpty))) f.tags .un .un (fun h a b => ⟨.non, rfl, by rw [h]; rfl⟩) (fun h i => by
    cases hq : (f.tags.filter fun t => t.2.isE) with
    | nil => exact absurd hq h
    | cons a b => rfl)
  refine ⟨d, ?_, h⟩
  rw [← e]
  clear e h
  unfold phi_end_tag g_end_tag
  walk_at "ev"
theorem well_ok {f : Frm} {s : Std} : phi_ends_well [f.d, s.d] = some (.d (.bl (endsW f s))) := by
  obtain ⟨d, e1, e2⟩ := end_ok (f := f)
  have h1 := eq_tag s
  have h2 := eq_room s
  have h3 := eq_over s
  unfold phi_ends_well g_ends_well
  cases s <;> (dsimp only [Std.isTag, Std.isRoom, Std.isOver, endsW] at *; walk_at "ev")
theorem along_len {f : Frm} : ∀ (xs : List Int) (s t : Std), beh f s xs = some t → ∃ l, alongF f s xs = l ++ [some t] ∧ l.length = xs.length
  | [], s, t, h => by cases h; exact ⟨[], rfl, rfl⟩
  | x :: xs, s, t, h => by
    rw [beh_cons] at h
    unfold alongF
    cases e : step f s x with
    | none => rw [e] at h; cases h
    | some q =>
      rw [e] at h
      obtain ⟨l, h1, h2⟩ := along_len xs q t h
      exact ⟨some s :: l, by dsimp only; rw [h1]; rfl, by rw [List.length_cons, List.length_cons, h2]⟩
theorem along_bad {f : Frm} : ∀ (xs : List Int) (s : Std), beh f s xs = none → ∃ (i : Nat) (h : i < xs.length) (t : Std) (l : List (Option Std)), beh f s (xs.take i) = some t ∧ step f t xs[i] = none ∧ alongF f s xs = l ++ [some t, none] ∧ l.length = i
  | [], s, h => nomatch h
  | x :: xs, s, h => by
    rw [beh_cons] at h
    unfold alongF
    cases e : step f s x with
    | none => exact ⟨0, by simp, s, [], rfl, e, rfl, rfl⟩
    | some q =>
      rw [e] at h
      obtain ⟨i, hi, t, l, h1, h2, h3, h4⟩ := along_bad xs q h
      refine ⟨i + 1, by simpa using hi, t, some s :: l, ?_, by simpa using h2, by dsimp only; rw [h3]; rfl, by rw [List.length_cons, h4]⟩
      rw [List.take_succ_cons, beh_cons, e]
      exact h1
/-- what is refused, and where -/
inductive RfX (f : Frm) (s : Std) (xs : List Int) : D → Prop
  | read {t : Std} (h : beh f s xs = some t) (e : endsW f t = true) : RfX f s xs .non
  | short {t : Std} (h : beh f s xs = some t) (e : endsW f t = false) : RfX f s xs (.tup [.int xs.length, .str "short"])
  | bad {i : Nat} {t : Std} (hi : i < xs.length) (h : beh f s (xs.take i) = some t) (e : step f t xs[i] = none) : RfX f s xs (.tup [.int i, .str t.word])
theorem at_neg2 {α : Type} {xs : List α} {x y : α} : atI (xs ++ [x, y]) (-2) = some x := by
  unfold atI ixN
  rw [if_neg (by decide), if_pos (by rw [List.length_append, List.length_cons, List.length_singleton]; omega), Option.bind_some, List.length_append, List.length_cons, List.length_singleton, show (-2 + ((xs.length + (1 + 1) : Nat) : Int)).toNat = xs.length by omega]
  simp
theorem ra_ok {f : Frm} {s : Std} {xs : List Int} (hl : xs.length ≤ 900000) : ∃ c, phi_refusal_along [f.d, .lst ((alongF f s xs).map optD)] = some (.d c) ∧ RfX f s xs c := by
  cases hb : beh f s xs with
  | none =>
    obtain ⟨i, hi, t, l, h1, h2, h3, h4⟩ := along_bad xs s hb
    refine ⟨_, ?_, .bad hi h1 h2⟩
    have hw := word_of h2
    have hix := std_ix (s := t)
    have hwd : phi_word_at [t.d] = some (.d (.str t.word)) := by
      clear h1 h2 h3 h4 hb hl
      unfold phi_word_at g_word_at
      walk_at "ev"
    clear hw hix
    have e1 : (alongF f s xs).map optD = l.map optD ++ [t.d, .non] := by rw [h3]; simp [optD]
    have e2 : atI (l.map optD ++ [t.d, .non]) (-1) = some .non := by
      have := at_neg1 (xs := l.map optD ++ [t.d]) (x := D.non)
      simpa using this
    have e3 : atI (l.map optD ++ [t.d, .non]) (-2) = some t.d := at_neg2
    have e4 : ((l.length + 2 : Nat) : Int) - 2 = (i : Int) := by omega
    rw [e1]
    clear h1 h2 h3 h4 hb e1 hl
    unfold phi_refusal_along g_refusal_along
    walk_at "ev"
  | some t =>
    obtain ⟨l, h1, h2⟩ := along_len xs s t hb
    have e1 : (alongF f s xs).map optD = l.map optD ++ [t.d] := by rw [h1]; simp [optD]
    have e2 : atI (l.map optD ++ [t.d]) (-1) = some t.d := at_neg1
    have e3 := is_std (n := false) (s := t)
    have e4 : ((l.length + 1 : Nat) : Int) - 1 = (xs.length : Int) := by omega
    have e5 := well_ok (f := f) (s := t)
    cases hw : endsW f t with
    | true =>
      rw [hw] at e5
      refine ⟨_, ?_, .read hb hw⟩
      rw [e1]
      clear h1 h2 hb e1 hl hw e4
      unfold phi_refusal_along g_refusal_along
      walk_at "ev"
    | false =>
      rw [hw] at e5
      refine ⟨_, ?_, .short hb hw⟩
      rw [e1]
      clear h1 h2 hb e1 hl hw
      unfold phi_refusal_along g_refusal_along
      walk_at "ev"
theorem RfX.one {f : Frm} {s : Std} {xs : List Int} {c c' : D} (h : RfX f s xs c) (h' : RfX f s xs c') : c = c' := by
  have none_of : ∀ {i : Nat} {t : Std} (hi : i < xs.length), beh f s (xs.take i) = some t → step f t xs[i] = none → ∀ j, i < j → beh f s (xs.take j) = none := fun {i t} hi h1 h2 j hj => by
    rw [show j = i + (j - i) by omega, List.take_add, beh_app, h1]
    show beh f t _ = none
    rw [List.drop_eq_getElem_cons hi, show j - i = (j - i - 1) + 1 by omega, List.take_succ_cons, beh_cons, h2]
  have all_of : ∀ {i : Nat} {t : Std} (hi : i < xs.length), beh f s (xs.take i) = some t → step f t xs[i] = none → beh f s xs = none := fun {i t} hi h1 h2 => by
    have := none_of hi h1 h2 xs.length hi
    rwa [List.take_length] at this
  cases h with
  | read h e =>
    cases h' with
    | read h2 e2 => rfl
    | short h2 e2 => rw [h] at h2; cases h2; rw [e] at e2; cases e2
    | bad hi h2 e2 => rw [all_of hi h2 e2] at h; cases h
  | short h e =>
    cases h' with
    | read h2 e2 => rw [h] at h2; cases h2; rw [e] at e2; cases e2
    | short h2 e2 => rfl
    | bad hi h2 e2 => rw [all_of hi h2 e2] at h; cases h
  | bad hi h e =>
    cases h' with
    | read h2 e2 => rw [all_of hi h e] at h2; cases h2
    | short h2 e2 => rw [all_of hi h e] at h2; cases h2
    | @bad j t2 hj h2 e2 =>
      rename_i i t
      rcases Nat.lt_trichotomy i j with hlt | rfl | hlt
      · rw [none_of hi h e j hlt] at h2; cases h2
      · rw [h] at h2; cases h2; rfl
      · rw [none_of hj h2 e2 i hlt] at h; cases h
theorem refusal_ok {f : Frm} {xs : List Int} (o : f.Ok) (hx : ∀ x ∈ xs, 0 ≤ x ∧ x < f.base) (hl : xs.length ≤ 900000) : ∃ c, phi_refusal [f.d, fileD xs] = some (.d c) ∧ RfX f (behM f 0) xs c := by
  obtain ⟨c, e, h⟩ := ra_ok (f := f) (s := behM f 0) (xs := xs) hl
  have e1 := cfile_ok o (by omega) hx
  have e2 := sal_ok o hx (by omega)
  refine ⟨c, ?_, h⟩
  clear h hl hx
  unfold phi_refusal g_refusal
  walk_at "ev"
end Dv

set_option Elab.async false
set_option linter.all false
set_option maxRecDepth 100000
set_option maxHeartbeats 4000000
namespace Dv
open PySem PySem.Spec PyProof.Rows L2
local macro_rules | `(tactic| walk_at "ev") => `(tactic| simp only [kRet_s, ev_name, ev_c, nm_val, nm_own, nm_bor, der_d, der_nw, der_sl, sl_own, sl_bor, sl_val, ev_bin, kBin_s, kBin2_s, kBin3_s, kBin4_s, ev_b1, kOne_s, kOne2_s, kRetD_s, ev_un, kUn1_s, kUn12_s, gNeg_i, ev_test, kTst_s, ev_and, ev_or, ev_not, kAnd_t, kAnd_f, kOr_t, kOr_f, kNot_s, ev_notV, kBl_s, ev_andV, ev_orV, kAndV_t, kAndV_f, kOrV_t, kOrV_f, ev_if, kIfE_t, kIfE_f, ev_yes, ev_ch, kCh_s, kCh2_s, kCh3_s, kCh4_s, kCh5_t, kCh5_f, ev_nil, ev_cons, kC1_s, kC2_s, ev_rev, kRv_s, escs_nil, escs_cons, kX1_s, kX2_s, esc_d, esc_nw, esc_sl, escS_own, escS_val, ev_tup, kT1_s, kT2_s, ev_lst, kL1_s, kL2_s, ev_pno, ev_pzero, ev_pint, kPI_s, ev_sl, kS1_s, kS2_s, kS3_s, kS4_s, ev_lrg, kR1_s, kR2_s, ev_call, kF1_s, kF2_s, kF3_s, ders_nil, ders_cons, kD1_s, kD2_s, rt_d, rt_nw, ev_call1, kG1_s, kG2_s, kG3_s, kG4_s, ow_own, ow_bor, put_own, put_bor, ev_iseq, kI1_s, kI2_t, kI2_l, kI2_f, ev_irg1, kN1_u, kN1_i, ev_irg2, kN2_s, kN3_u, ev_lc, kV1_s, kV2_s, ev_seq, kSeq_n, kSeq_r, kSeq_b, kSeq_c, ev_skip, ev_break, ev_cont, ev_retN, ev_ret, kRt_s, ev_sif, kIf_t, kIf_f, ev_drop, kDr_s, ev_set, kSt_s, kSt2_s, ev_own, kOw_s, ev_unp, kUn_s, kUn2_s, kNx_s, bt_nm, bt_tp, sa_nil, sa_cons, ev_par, kPa_s, sp_nil, sp_own, sp_val, ev_app, kAp_s, kAp2_s, kAp3_s, kAp4_s, ev_sti, kSi_s, kSi2_s, kSi3_s, kSi4_s, kSi5_s, kSi6_s, ev_aug, kAg_s, kAg2_s, val_s, ev_for, kFo_s, loop_nil, loop_cons, kLp_s, kLp_n, kLp_c, kLp_b, kLp_r, ev_while, while_s, kWh_f, kWh_t, kWh_n, kWh_c, kWh_b, kWh_r, lc_nil, lc_cons, kLc1_s, kLc2_t, kLc2_f, kLc3_s, kLc4_s, run0_k, kE0_r, kE0_n, rtOf_d, rtOf_nw, rtOf_sl, rtS_own, run1_k, kE1_r, kE1_n, kE2_s, bor_s, gAdd_i, gAdd_l, gAdd_t, gSub_i, gMul_i, gMod_i, gDiv_i, gPow_i, gEq_i, gEq_s, gEq_b, gCmp_i, gIs_n, gInt_i, gInt_b, gMax_i, gMin_i, gAbs_i, gTup_t, gTup_l, gLen_t, gLen_l, gLen_f, gIx_t, gIx_l, gIx_f, kIx_s, at_0, at_1, at_2, at_3, at_4, at_5, gSl_t, gSl_l,
  List.map_cons, List.map_nil, List.cons_append, List.nil_append, List.append_nil, List.length_cons, List.length_nil, List.replicate_succ, List.replicate_zero, Nat.reduceSub, Nat.reduceAdd, List.getElem?_cons_zero, List.getElem?_cons_succ, List.getElem?_nil, List.set_cons_zero, List.set_cons_succ, List.set_nil, Nat.zero_add, Nat.add_zero,
  List.all_cons, List.all_nil, notSl, Bool.and_true, Bool.true_and, Bool.or_true, Bool.true_or, Bool.and_false, Bool.false_and, Bool.or_false, Bool.false_or, if_true, if_false, Bool.false_eq_true, reduceIte, Bool.not_true, Bool.not_false, Bool.bne_true, Bool.bne_false, decide_true, decide_false, wipeE, backE, backS, nc_0, List.length_map, List.length_append, rg_len, Nat.reduceLeDiff, fd_ix, fi_ix, fi_len, fi_it, dcs, eq_self, Int.reduceEq, Int.reduceLT, Int.reduceLE, Int.reduceAdd, Int.reduceSub, Int.reduceMul, Int.reduceToNat, gIs_c, mkD_n, mkD_s, items, and_true, true_and, and_self, bne_self_eq_false, wt, gIn_t, gIsi_i, gIsi_t, gIsi_s, gIsi_n, gIsi_b, gIsi_l, isi2_c, gEq_n, gEq_l, ev_dk, kDk1_s, kDk2_s, kDk3_s, flatD, eqF_s, eqF_i, eqF_n, List.any_cons, List.any_nil, Rt.o, Option.bind_some, phi0_s, phi1_s, List.reverse_cons, List.reverse_nil, decide_eq_true_eq, *])
/-! ### the law's reading, its refusal exactly -/
theorem long_short {f : Frm} {u : Us} {ys : List Int} {n k q : Nat} (hn : n = k + ys.length) (h : longF f n k ys = .short q) : q = n ∧ ∃ t, beh f (.length u) ys = some t ∧ endsW f t = false := by
  rw [beh_long hn, h]
  have hq : q = n := by
    unfold longF longG at h
    cases ys with
    | nil => cases h; rfl
    | cons a ys =>
      dsimp only at h
      split at h
      · split at h <;> cases h
      · split at h
        · cases h
        · cases ys with
          | nil => cases h; rfl
          | cons b ys => dsimp only at h; split at h <;> cases h
  refine ⟨hq, ?_⟩
  cases ys with
  | nil => exact ⟨_, rfl, rfl⟩
  | cons a ys => exact ⟨_, rfl, rfl⟩
theorem long_bad2 {f : Frm} {u : Us} {ys : List Int} {n k q : Nat} (hn : n = k + ys.length) (h : longF f n k ys = .long q) : k ≤ q ∧ ∃ (hq : q - k < ys.length) (t : Std), beh f (.length u) (ys.take (q - k)) = some t ∧ step f t ys[q - k] = none ∧ t.word = "length" := by
  unfold longF longG at h
  cases ys with
  | nil => cases h
  | cons a ys =>
    dsimp only at h
    rw [List.length_cons] at hn
    have first : f.most < leastL f a → step f (.length u) a = none := fun h => by
      dsimp only [step, firstS]; rw [if_pos h]
    have two : ∀ b zs, ys = b :: zs → f.width ≠ .one → ¬ f.most < leastL f a → ¬ bothL f a b ≤ f.most → q = k + 1 → k ≤ q ∧ ∃ (hq : q - k < (a :: ys).length) (t : Std), beh f (.length u) ((a :: ys).take (q - k)) = some t ∧ step f t (a :: ys)[q - k] = none ∧ t.word = "length" := by
      rintro b zs rfl hw h1 h2 rfl
      refine ⟨by omega, by simp, .second u a, ?_, ?_, rfl⟩
      · rw [show k + 1 - k = 1 by omega]
        show beh f (.length u) [a] = _
        rw [beh_cons]
        dsimp only [step, firstS]
        rw [if_neg h1]
        cases hw2 : f.width <;> first | exact absurd hw2 hw | rfl
      · have e : ∀ j (hj : j < (a :: b :: zs).length), j = 1 → (a :: b :: zs)[j] = b := by rintro j hj rfl; rfl
        rw [e _ _ (by omega)]
        dsimp only [step]
        rw [if_pos (by omega)]
    have one : step f (.length u) a = none → q = k → k ≤ q ∧ ∃ (hq : q - k < (a :: ys).length) (t : Std), beh f (.length u) ((a :: ys).take (q - k)) = some t ∧ step f t (a :: ys)[q - k] = none ∧ t.word = "length" := by
      rintro h1 rfl
      refine ⟨by omega, by simp, .length u, ?_, ?_, rfl⟩
      · rw [Nat.sub_self]; rfl
      · have e : ∀ j (hj : j < (a :: ys).length), j = 0 → (a :: ys)[j] = a := by rintro j hj rfl; rfl
        rw [e _ _ (by omega)]
        exact h1
    cases hw : f.width with
    | one =>
      rw [hw] at h
      dsimp only at h
      split at h
      · cases h
      · cases h
        rename_i h2
        exact one (first (by unfold leastL; rw [hw]; dsimp only; omega)) rfl
    | high =>
      rw [hw] at h
      dsimp only at h
      split at h
      · cases h
        rename_i h2
        exact one (first h2) rfl
      · rename_i h1
        cases ys with
        | nil => cases h
        | cons b ys =>
          dsimp only at h
          split at h
          · cases h
          · cases h
            rename_i h2
            exact two b ys rfl (by rw [hw]; exact fun h => nomatch h) h1 h2 rfl
    | low =>
      rw [hw] at h
      dsimp only at h
      split at h
      · cases h
        rename_i h2
        exact one (first h2) rfl
      · rename_i h1
        cases ys with
        | nil => cases h
        | cons b ys =>
          dsimp only at h
          split at h
          · cases h
          · cases h
            rename_i h2
            exact two b ys rfl (by rw [hw]; exact fun h => nomatch h) h1 h2 rfl
end Dv

set_option Elab.async false
set_option linter.all false
set_option maxRecDepth 100000
set_option maxHeartbeats 4000000
namespace Dv
open PySem PySem.Spec PyProof.Rows L2
local macro_rules | `(tactic| walk_at "ev") => `(tactic| simp only [kRet_s, ev_name, ev_c, nm_val, nm_own, nm_bor, der_d, der_nw, der_sl, sl_own, sl_bor, sl_val, ev_bin, kBin_s, kBin2_s, kBin3_s, kBin4_s, ev_b1, kOne_s, kOne2_s, kRetD_s, ev_un, kUn1_s, kUn12_s, gNeg_i, ev_test, kTst_s, ev_and, ev_or, ev_not, kAnd_t, kAnd_f, kOr_t, kOr_f, kNot_s, ev_notV, kBl_s, ev_andV, ev_orV, kAndV_t, kAndV_f, kOrV_t, kOrV_f, ev_if, kIfE_t, kIfE_f, ev_yes, ev_ch, kCh_s, kCh2_s, kCh3_s, kCh4_s, kCh5_t, kCh5_f, ev_nil, ev_cons, kC1_s, kC2_s, ev_rev, kRv_s, escs_nil, escs_cons, kX1_s, kX2_s, esc_d, esc_nw, esc_sl, escS_own, escS_val, ev_tup, kT1_s, kT2_s, ev_lst, kL1_s, kL2_s, ev_pno, ev_pzero, ev_pint, kPI_s, ev_sl, kS1_s, kS2_s, kS3_s, kS4_s, ev_lrg, kR1_s, kR2_s, ev_call, kF1_s, kF2_s, kF3_s, ders_nil, ders_cons, kD1_s, kD2_s, rt_d, rt_nw, ev_call1, kG1_s, kG2_s, kG3_s, kG4_s, ow_own, ow_bor, put_own, put_bor, ev_iseq, kI1_s, kI2_t, kI2_l, kI2_f, ev_irg1, kN1_u, kN1_i, ev_irg2, kN2_s, kN3_u, ev_lc, kV1_s, kV2_s, ev_seq, kSeq_n, kSeq_r, kSeq_b, kSeq_c, ev_skip, ev_break, ev_cont, ev_retN, ev_ret, kRt_s, ev_sif, kIf_t, kIf_f, ev_drop, kDr_s, ev_set, kSt_s, kSt2_s, ev_own, kOw_s, ev_unp, kUn_s, kUn2_s, kNx_s, bt_nm, bt_tp, sa_nil, sa_cons, ev_par, kPa_s, sp_nil, sp_own, sp_val, ev_app, kAp_s, kAp2_s, kAp3_s, kAp4_s, ev_sti, kSi_s, kSi2_s, kSi3_s, kSi4_s, kSi5_s, kSi6_s, ev_aug, kAg_s, kAg2_s, val_s, ev_for, kFo_s, loop_nil, loop_cons, kLp_s, kLp_n, kLp_c, kLp_b, kLp_r, ev_while, while_s, kWh_f, kWh_t, kWh_n, kWh_c, kWh_b, kWh_r, lc_nil, lc_cons, kLc1_s, kLc2_t, kLc2_f, kLc3_s, kLc4_s, run0_k, kE0_r, kE0_n, rtOf_d, rtOf_nw, rtOf_sl, rtS_own, run1_k, kE1_r, kE1_n, kE2_s, bor_s, gAdd_i, gAdd_l, gAdd_t, gSub_i, gMul_i, gMod_i, gDiv_i, gPow_i, gEq_i, gEq_s, gEq_b, gCmp_i, gIs_n, gInt_i, gInt_b, gMax_i, gMin_i, gAbs_i, gTup_t, gTup_l, gLen_t, gLen_l, gLen_f, gIx_t, gIx_l, gIx_f, kIx_s, at_0, at_1, at_2, at_3, at_4, at_5, gSl_t, gSl_l,
  List.map_cons, List.map_nil, List.cons_append, List.nil_append, List.append_nil, List.length_cons, List.length_nil, List.replicate_succ, List.replicate_zero, Nat.reduceSub, Nat.reduceAdd, List.getElem?_cons_zero, List.getElem?_cons_succ, List.getElem?_nil, List.set_cons_zero, List.set_cons_succ, List.set_nil, Nat.zero_add, Nat.add_zero,
  List.all_cons, List.all_nil, notSl, Bool.and_true, Bool.true_and, Bool.or_true, Bool.true_or, Bool.and_false, Bool.false_and, Bool.or_false, Bool.false_or, if_true, if_false, Bool.false_eq_true, reduceIte, Bool.not_true, Bool.not_false, Bool.bne_true, Bool.bne_false, decide_true, decide_false, wipeE, backE, backS, nc_0, List.length_map, List.length_append, rg_len, Nat.reduceLeDiff, fd_ix, fi_ix, fi_len, fi_it, dcs, eq_self, Int.reduceEq, Int.reduceLT, Int.reduceLE, Int.reduceAdd, Int.reduceSub, Int.reduceMul, Int.reduceToNat, gIs_c, mkD_n, mkD_s, items, and_true, true_and, and_self, bne_self_eq_false, wt, gIn_t, gIsi_i, gIsi_t, gIsi_s, gIsi_n, gIsi_b, gIsi_l, isi2_c, gEq_n, gEq_l, ev_dk, kDk1_s, kDk2_s, kDk3_s, flatD, eqF_s, eqF_i, eqF_n, List.any_cons, List.any_nil, Rt.o, Option.bind_some, phi0_s, phi1_s, List.reverse_cons, List.reverse_nil, decide_eq_true_eq, *])
/-! ### the law's chunks, their refusals exactly -/
theorem end_body {f : Frm} {u : Us} {n t : Int} : endsW f (.body u n t) = false := rfl
theorem chunk_short {f : Frm} {u : Us} {ys : List Int} {n k q : Nat} (o : f.Ok) (hx : ∀ x ∈ ys, 0 ≤ x ∧ x < f.base) (hn : n = k + ys.length) (h : chunkF f n k u ys = .short q) : q = n ∧ ∃ t, beh f (.length u) ys = some t ∧ endsW f t = false := by
  have hb : 0 < f.base := by have := o.b0; omega
  unfold chunkF at h
  cases hL : longF f n k ys with
  | short r =>
    rw [hL] at h
    cases h
    exact long_short hn hL
  | long r => rw [hL] at h; cases h
  | ok w p =>
    rw [hL] at h
    dsimp only at h
    obtain ⟨w0, w1, p0, p1⟩ := long_ok o hx hL
    rw [beh_long hn, hL]
    dsimp only
    rw [beh_len hb w0]
    split at h
    · rename_i hs
      cases h
      rw [if_pos hs]
      exact ⟨rfl, _, rfl, rfl⟩
    · rename_i hs
      rw [if_neg hs]
      cases hc : u.isC with
      | true =>
        rw [hc, if_pos rfl] at h
        have hu : u = .check := by cases u <;> first | rfl | cases hc
        subst hu
        cases hd : (ys.drop (p - k)).drop w.toNat with
        | nil =>
          rw [hd] at h
          cases h
          exact ⟨rfl, _, rfl, rfl⟩
        | cons z zs =>
          rw [hd] at h
          dsimp only at h
          split at h <;> cases h
      | false =>
        rw [hc, if_neg (fun h => nomatch h)] at h
        cases h
theorem chunk_bad2 {f : Frm} {u : Us} {ys : List Int} {n k i : Nat} {w : Bool} (o : f.Ok) (hx : ∀ x ∈ ys, 0 ≤ x ∧ x < f.base) (hn : n = k + ys.length) (h : chunkF f n k u ys = .bad i w) :
    k ≤ i ∧ ∃ (hi : i - k < ys.length) (t : Std), beh f (.length u) (ys.take (i - k)) = some t ∧ step f t ys[i - k] = none ∧ t.word = (if w then "length" else "check") := by
  have hb : 0 < f.base := by have := o.b0; omega
  unfold chunkF at h
  cases hL : longF f n k ys with
  | short q => rw [hL] at h; cases h
  | long q =>
    rw [hL] at h
    cases h
    obtain ⟨h1, h2, t, h3, h4, h5⟩ := long_bad2 (u := u) hn hL
    exact ⟨h1, h2, t, h3, h4, h5⟩
  | ok w q =>
    rw [hL] at h
    dsimp only at h
    obtain ⟨w0, w1, p0, p1⟩ := long_ok o hx hL
    have hzl : (ys.drop (q - k)).length = ys.length - (q - k) := List.length_drop
    split at h
    · cases h
    · rename_i hs
      cases hc : u.isC with
      | true =>
        rw [hc, if_pos rfl] at h
        have hu : u = .check := by cases u <;> first | rfl | cases hc
        subst hu
        cases hd : (ys.drop (q - k)).drop w.toNat with
        | nil => rw [hd] at h; cases h
        | cons z zs =>
          rw [hd] at h
          dsimp only at h
          split at h
          · cases h
          · rename_i hz
            cases h
            have hl : ((ys.drop (q - k)).drop w.toNat).length = zs.length + 1 := by rw [hd]; rfl
            rw [List.length_drop, hzl] at hl
            have hget : ∀ (j : Nat) (hj : j < ys.length), j = q - k + w.toNat → ys[j] = z := by
              rintro j hj rfl
              have e : (ys.drop (q - k + w.toNat))[0]? = some z := by rw [← List.drop_drop, hd]; rfl
              rw [List.getElem?_drop, Nat.add_zero, List.getElem?_eq_getElem hj] at e
              exact Option.some.inj e
            refine ⟨by omega, by omega, .sum (totF f .check ((ys.drop (q - k)).take w.toNat)), ?_, ?_, rfl⟩
            · rw [beh_long (n := k + (ys.take (q + w.toNat - k)).length) (k := k) rfl, longF_take hL (by omega)]
              dsimp only
              have e1 : (ys.take (q + w.toNat - k)).drop (q - k) = (ys.drop (q - k)).take (q + w.toNat - k - (q - k)) := List.drop_take
              rw [e1, beh_len hb w0, if_neg (by rw [List.length_take]; omega), List.drop_take, show q + w.toNat - k - (q - k) - w.toNat = 0 by omega, List.take_take, Nat.min_eq_left (by omega)]
              rfl
            · rw [hget _ _ (by omega)]
              dsimp only [step, totF]
              rw [if_neg hz]
      | false =>
        rw [hc, if_neg (fun h => nomatch h)] at h
        cases h
/-- refused behind a tag's place -/
theorem rx_tag {f : Frm} {xs : List Int} {k r : Nat} {t : Std} (ht : beh f (behM f 0) (xs.take k) = some .tag) (hr : r < (xs.drop k).length) (h1 : beh f .tag ((xs.drop k).take r) = some t) (h2 : step f t (xs.drop k)[r] = none) (i : Int) (hi : i = ((k + r : Nat) : Int)) (w : Str) (hw : w = t.word) : RfX f (behM f 0) xs (.tup [.int i, .str w]) := by
  subst hi hw
  rw [List.length_drop] at hr
  refine .bad (i := k + r) (t := t) (by omega) ?_ ?_
  · rw [List.take_add, beh_app, ht]
    exact h1
  · rw [List.getElem_drop] at h2
    exact h2
theorem rx_read {f : Frm} {xs : List Int} {k : Nat} {t : Std} (ht : beh f (behM f 0) (xs.take k) = some .tag) (h1 : beh f .tag (xs.drop k) = some t) (e : endsW f t = true) : RfX f (behM f 0) xs .non := by
  refine .read (t := t) ?_ e
  rw [← List.take_append_drop k xs, beh_app, ht]
  exact h1
theorem rx_short {f : Frm} {xs : List Int} {k : Nat} {t : Std} (ht : beh f (behM f 0) (xs.take k) = some .tag) (h1 : beh f .tag (xs.drop k) = some t) (e : endsW f t = false) (n : Int) (hn : n = xs.length) : RfX f (behM f 0) xs (.tup [.int n, .str "short"]) := by
  subst hn
  refine .short (t := t) ?_ e
  rw [← List.take_append_drop k xs, beh_app, ht]
  exact h1
end Dv

set_option Elab.async false
set_option linter.all false
set_option maxRecDepth 100000
set_option maxHeartbeats 4000000
namespace Dv
open PySem PySem.Spec PyProof.Rows L2
local macro_rules | `(tactic| walk_at "ev") => `(tactic| simp only [kRet_s, ev_name, ev_c, nm_val, nm_own, nm_bor, der_d, der_nw, der_sl, sl_own, sl_bor, sl_val, ev_bin, kBin_s, kBin2_s, kBin3_s, kBin4_s, ev_b1, kOne_s, kOne2_s, kRetD_s, ev_un, kUn1_s, kUn12_s, gNeg_i, ev_test, kTst_s, ev_and, ev_or, ev_not, kAnd_t, kAnd_f, kOr_t, kOr_f, kNot_s, ev_notV, kBl_s, ev_andV, ev_orV, kAndV_t, kAndV_f, kOrV_t, kOrV_f, ev_if, kIfE_t, kIfE_f, ev_yes, ev_ch, kCh_s, kCh2_s, kCh3_s, kCh4_s, kCh5_t, kCh5_f, ev_nil, ev_cons, kC1_s, kC2_s, ev_rev, kRv_s, escs_nil, escs_cons, kX1_s, kX2_s, esc_d, esc_nw, esc_sl, escS_own, escS_val, ev_tup, kT1_s, kT2_s, ev_lst, kL1_s, kL2_s, ev_pno, ev_pzero, ev_pint, kPI_s, ev_sl, kS1_s, kS2_s, kS3_s, kS4_s, ev_lrg, kR1_s, kR2_s, ev_call, kF1_s, kF2_s, kF3_s, ders_nil, ders_cons, kD1_s, kD2_s, rt_d, rt_nw, ev_call1, kG1_s, kG2_s, kG3_s, kG4_s, ow_own, ow_bor, put_own, put_bor, ev_iseq, kI1_s, kI2_t, kI2_l, kI2_f, ev_irg1, kN1_u, kN1_i, ev_irg2, kN2_s, kN3_u, ev_lc, kV1_s, kV2_s, ev_seq, kSeq_n, kSeq_r, kSeq_b, kSeq_c, ev_skip, ev_break, ev_cont, ev_retN, ev_ret, kRt_s, ev_sif, kIf_t, kIf_f, ev_drop, kDr_s, ev_set, kSt_s, kSt2_s, ev_own, kOw_s, ev_unp, kUn_s, kUn2_s, kNx_s, bt_nm, bt_tp, sa_nil, sa_cons, ev_par, kPa_s, sp_nil, sp_own, sp_val, ev_app, kAp_s, kAp2_s, kAp3_s, kAp4_s, ev_sti, kSi_s, kSi2_s, kSi3_s, kSi4_s, kSi5_s, kSi6_s, ev_aug, kAg_s, kAg2_s, val_s, ev_for, kFo_s, loop_nil, loop_cons, kLp_s, kLp_n, kLp_c, kLp_b, kLp_r, ev_while, while_s, kWh_f, kWh_t, kWh_n, kWh_c, kWh_b, kWh_r, lc_nil, lc_cons, kLc1_s, kLc2_t, kLc2_f, kLc3_s, kLc4_s, run0_k, kE0_r, kE0_n, rtOf_d, rtOf_nw, rtOf_sl, rtS_own, run1_k, kE1_r, kE1_n, kE2_s, bor_s, gAdd_i, gAdd_l, gAdd_t, gSub_i, gMul_i, gMod_i, gDiv_i, gPow_i, gEq_i, gEq_s, gEq_b, gCmp_i, gIs_n, gInt_i, gInt_b, gMax_i, gMin_i, gAbs_i, gTup_t, gTup_l, gLen_t, gLen_l, gLen_f, gIx_t, gIx_l, gIx_f, kIx_s, at_0, at_1, at_2, at_3, at_4, at_5, gSl_t, gSl_l,
  List.map_cons, List.map_nil, List.cons_append, List.nil_append, List.append_nil, List.length_cons, List.length_nil, List.replicate_succ, List.replicate_zero, Nat.reduceSub, Nat.reduceAdd, List.getElem?_cons_zero, List.getElem?_cons_succ, List.getElem?_nil, List.set_cons_zero, List.set_cons_succ, List.set_nil, Nat.zero_add, Nat.add_zero,
  List.all_cons, List.all_nil, notSl, Bool.and_true, Bool.true_and, Bool.or_true, Bool.true_or, Bool.and_false, Bool.false_and, Bool.or_false, Bool.false_or, if_true, if_false, Bool.false_eq_true, reduceIte, Bool.not_true, Bool.not_false, Bool.bne_true, Bool.bne_false, decide_true, decide_false, wipeE, backE, backS, nc_0, List.length_map, List.length_append, rg_len, Nat.reduceLeDiff, fd_ix, fi_ix, fi_len, fi_it, dcs, eq_self, Int.reduceEq, Int.reduceLT, Int.reduceLE, Int.reduceAdd, Int.reduceSub, Int.reduceMul, Int.reduceToNat, gIs_c, mkD_n, mkD_s, items, and_true, true_and, and_self, bne_self_eq_false, wt, gIn_t, gIsi_i, gIsi_t, gIsi_s, gIsi_n, gIsi_b, gIsi_l, isi2_c, gEq_n, gEq_l, ev_dk, kDk1_s, kDk2_s, kDk3_s, flatD, eqF_s, eqF_i, eqF_n, List.any_cons, List.any_nil, Rt.o, Option.bind_some, phi0_s, phi1_s, List.reverse_cons, List.reverse_nil, decide_eq_true_eq, *])
/-! ### what is told, and where is not looked -/
def Us.told : Us → Bool | .keep => true | .check => true | _ => false
def bodyA (f : Frm) : List Int → List Int
  | [] => []
  | a :: ys => match f.width with
    | .one => ys.take a.toNat
    | _ => match ys with
      | [] => []
      | b :: zs => zs.take (bothL f a b).toNat
def cellA (f : Frm) (x : Int) (xs : List Int) : Std → List (Int × List Int)
  | .length u => if u.told then [(x, bodyA f xs)] else []
  | _ => []
def contA (f : Frm) : Std → List Int → List (Int × List Int)
  | _, [] => []
  | s, x :: xs => match step f s x with
    | none => []
    | some s' => cellA f x xs s' ++ contA f s' xs
theorem contA_cons {f : Frm} {s : Std} {x : Int} {xs : List Int} : contA f s (x :: xs) = (match step f s x with | none => [] | some s' => cellA f x xs s' ++ contA f s' xs) := rfl
theorem cell_behB {f : Frm} {x : Int} {xs : List Int} {u : Us} {t : Int} : cellA f x xs (behB u t) = [] := by cases u <;> rfl
theorem cell_behL {f : Frm} {x : Int} {xs : List Int} {u : Us} {n : Int} : cellA f x xs (behL u n) = [] := by
  unfold behL; split
  · rfl
  · exact cell_behB
theorem cell_behM {f : Frm} {x : Int} {xs : List Int} {k : Nat} : cellA f x xs (behM f k) = [] := by
  unfold behM; split <;> rfl
theorem cont_body {f : Frm} {u : Us} (hb : 0 < f.base) : ∀ (zs : List Int) (n t : Int), 0 < n → tOk f u t → n ≤ zs.length → contA f (.body u n t) zs = contA f (behB u (match u with | .check => (t + (zs.take n.toNat).sum) % f.base | _ => 0)) (zs.drop n.toNat)
  | [], n, t, hn, ht, hl => by simp at hl; omega
  | z :: zs, n, t, hn, ht, hl => by
    rw [List.length_cons] at hl
    rw [contA_cons]
    dsimp only [step]
    have ht' : tOk f u (addT f u t z) := by
      cases u <;> dsimp only [addT, tOk] at ht ⊢
      case check => exact ⟨Int.emod_nonneg _ (by omega), Int.emod_lt_of_pos _ hb⟩
      all_goals exact ht
    by_cases h1 : 1 < n
    · rw [if_pos h1]
      have en : n.toNat = (n - 1).toNat + 1 := by omega
      dsimp only [cellA]
      rw [List.nil_append, cont_body hb zs (n - 1) _ (by omega) ht' (by omega), en, List.take_succ_cons, List.drop_succ_cons]
      cases u <;> dsimp only [addT]
      case check => rw [List.sum_cons, Int.emod_add_emod, Int.add_assoc]
    · rw [if_neg h1]
      have en : n.toNat = 1 := by omega
      rw [en]
      dsimp only
      rw [cell_behB]
      cases u <;> dsimp only [addT, tOk] at ht ⊢ <;> simp
      all_goals rw [ht]
theorem cont_len {f : Frm} {u : Us} {zs : List Int} {n : Int} (hb : 0 < f.base) (hn : 0 ≤ n) (hl : n ≤ zs.length) : contA f (behL u n) zs = contA f (behB u (totF f u (zs.take n.toNat))) (zs.drop n.toNat) := by
  unfold behL totF
  by_cases h : 0 < n
  · rw [if_pos h, cont_body hb zs n 0 h (by cases u <;> dsimp only [tOk] <;> omega) hl]
    cases u <;> dsimp only <;> simp
  · have h0 : n = 0 := by omega
    subst h0
    rw [if_neg h]
    cases u <;> simp
theorem cont_long {f : Frm} {u : Us} {ys : List Int} {n k p : Nat} {w : Int} (h : longF f n k ys = .ok w p) : contA f (.length u) ys = contA f (behL u w) (ys.drop (p - k)) ∧ bodyA f ys = (ys.drop (p - k)).take w.toNat := by
  unfold longF longG at h
  cases ys with
  | nil => cases h
  | cons a ys =>
    dsimp only at h
    have two : ∀ b zs, ys = b :: zs → f.width ≠ .one → ¬ f.most < leastL f a → bothL f a b ≤ f.most → w = bothL f a b → p = k + 2 → contA f (.length u) (a :: ys) = contA f (behL u w) ((a :: ys).drop (p - k)) ∧ bodyA f (a :: ys) = ((a :: ys).drop (p - k)).take w.toNat := by
      rintro b zs rfl hw h1 h2 rfl rfl
      rw [show k + 2 - k = 2 by omega]
      refine ⟨?_, ?_⟩
      · rw [contA_cons]
        dsimp only [step, firstS]
        rw [if_neg h1]
        cases hw2 : f.width with
        | one => exact absurd hw2 hw
        | high =>
          dsimp only [cellA]
          rw [List.nil_append, contA_cons]
          dsimp only [step]
          rw [if_neg (by omega)]
          dsimp only
          rw [cell_behL]; rfl
        | low =>
          dsimp only [cellA]
          rw [List.nil_append, contA_cons]
          dsimp only [step]
          rw [if_neg (by omega)]
          dsimp only
          rw [cell_behL]; rfl
      · unfold bodyA
        cases hw2 : f.width with
        | one => exact absurd hw2 hw
        | high => rfl
        | low => rfl
    cases hw : f.width with
    | one =>
      rw [hw] at h
      dsimp only at h
      split at h
      · rename_i h2
        cases h
        rw [show k + 1 - k = 1 by omega]
        refine ⟨?_, ?_⟩
        · rw [contA_cons]
          dsimp only [step, firstS]
          have el : ∀ z, leastL f z = z := fun z => by unfold leastL; rw [hw]
          rw [el, if_neg (by omega), hw]
          dsimp only
          rw [cell_behL]; rfl
        · unfold bodyA
          rw [hw]; rfl
      · cases h
    | high =>
      rw [hw] at h
      dsimp only at h
      split at h
      · cases h
      · rename_i h1
        cases ys with
        | nil => cases h
        | cons b ys =>
          dsimp only at h
          split at h
          · rename_i h2
            cases h
            exact two b ys rfl (by rw [hw]; exact fun h => nomatch h) h1 h2 rfl rfl
          · cases h
    | low =>
      rw [hw] at h
      dsimp only at h
      split at h
      · cases h
      · rename_i h1
        cases ys with
        | nil => cases h
        | cons b ys =>
          dsimp only at h
          split at h
          · rename_i h2
            cases h
            exact two b ys rfl (by rw [hw]; exact fun h => nomatch h) h1 h2 rfl rfl
          · cases h
theorem cont_room {f : Frm} : ∀ ys, contA f .room ys = []
  | [] => rfl
  | y :: ys => by
    rw [contA_cons]
    dsimp only [step, cellA]
    rw [List.nil_append]
    exact cont_room ys
/-- what is told behind a tag that begins a chunk -/
theorem cont_chunk {f : Frm} {u : Us} {ys b : List Int} {n k p : Nat} (o : f.Ok) (hx : ∀ x ∈ ys, 0 ≤ x ∧ x < f.base) (hn : n = k + ys.length) (h : chunkF f n k u ys = .ok b p) : contA f (.length u) ys = contA f .tag (ys.drop (p - k)) ∧ bodyA f ys = b := by
  have hb : 0 < f.base := by have := o.b0; omega
  unfold chunkF at h
  cases hL : longF f n k ys with
  | short q => rw [hL] at h; cases h
  | long q => rw [hL] at h; cases h
  | ok w q =>
    rw [hL] at h
    dsimp only at h
    obtain ⟨w0, w1, p0, p1⟩ := long_ok o hx hL
    obtain ⟨c1, c2⟩ := cont_long (u := u) hL
    have hzl : (ys.drop (q - k)).length = ys.length - (q - k) := List.length_drop
    split at h
    · cases h
    · rename_i hs
      rw [c1, c2, cont_len hb w0 (by omega)]
      cases hc : u.isC with
      | true =>
        rw [hc, if_pos rfl] at h
        have hu : u = .check := by cases u <;> first | rfl | cases hc
        subst hu
        cases hd : (ys.drop (q - k)).drop w.toNat with
        | nil => rw [hd] at h; cases h
        | cons z zs =>
          rw [hd] at h
          dsimp only at h
          split at h
          · rename_i hz
            cases h
            refine ⟨?_, rfl⟩
            dsimp only [behB, totF]
            rw [contA_cons]
            dsimp only [step]
            rw [if_pos hz]
            dsimp only [cellA]
            rw [List.nil_append, show q + w.toNat + 1 - k = (q - k) + (w.toNat + 1) by omega, ← List.drop_drop, ← List.drop_drop, hd]
            rfl
          · cases h
      | false =>
        rw [hc, if_neg (fun h => nomatch h)] at h
        cases h
        refine ⟨?_, rfl⟩
        have e : behB u (totF f u ((ys.drop (q - k)).take w.toNat)) = .tag := by cases u <;> first | rfl | cases hc
        rw [e, show q + w.toNat - k = (q - k) + w.toNat by omega, ← List.drop_drop]
end Dv

set_option Elab.async false
set_option linter.all false
set_option maxRecDepth 100000
set_option maxHeartbeats 4000000
namespace Dv
open PySem PySem.Spec PyProof.Rows L2
local macro_rules | `(tactic| walk_at "ev") => `(tactic| simp only [kRet_s, ev_name, ev_c, nm_val, nm_own, nm_bor, der_d, der_nw, der_sl, sl_own, sl_bor, sl_val, ev_bin, kBin_s, kBin2_s, kBin3_s, kBin4_s, ev_b1, kOne_s, kOne2_s, kRetD_s, ev_un, kUn1_s, kUn12_s, gNeg_i, ev_test, kTst_s, ev_and, ev_or, ev_not, kAnd_t, kAnd_f, kOr_t, kOr_f, kNot_s, ev_notV, kBl_s, ev_andV, ev_orV, kAndV_t, kAndV_f, kOrV_t, kOrV_f, ev_if, kIfE_t, kIfE_f, ev_yes, ev_ch, kCh_s, kCh2_s, kCh3_s, kCh4_s, kCh5_t, kCh5_f, ev_nil, ev_cons, kC1_s, kC2_s, ev_rev, kRv_s, escs_nil, escs_cons, kX1_s, kX2_s, esc_d, esc_nw, esc_sl, escS_own, escS_val, ev_tup, kT1_s, kT2_s, ev_lst, kL1_s, kL2_s, ev_pno, ev_pzero, ev_pint, kPI_s, ev_sl, kS1_s, kS2_s, kS3_s, kS4_s, ev_lrg, kR1_s, kR2_s, ev_call, kF1_s, kF2_s, kF3_s, ders_nil, ders_cons, kD1_s, kD2_s, rt_d, rt_nw, ev_call1, kG1_s, kG2_s, kG3_s, kG4_s, ow_own, ow_bor, put_own, put_bor, ev_iseq, kI1_s, kI2_t, kI2_l, kI2_f, ev_irg1, kN1_u, kN1_i, ev_irg2, kN2_s, kN3_u, ev_lc, kV1_s, kV2_s, ev_seq, kSeq_n, kSeq_r, kSeq_b, kSeq_c, ev_skip, ev_break, ev_cont, ev_retN, ev_ret, kRt_s, ev_sif, kIf_t, kIf_f, ev_drop, kDr_s, ev_set, kSt_s, kSt2_s, ev_own, kOw_s, ev_unp, kUn_s, kUn2_s, kNx_s, bt_nm, bt_tp, sa_nil, sa_cons, ev_par, kPa_s, sp_nil, sp_own, sp_val, ev_app, kAp_s, kAp2_s, kAp3_s, kAp4_s, ev_sti, kSi_s, kSi2_s, kSi3_s, kSi4_s, kSi5_s, kSi6_s, ev_aug, kAg_s, kAg2_s, val_s, ev_for, kFo_s, loop_nil, loop_cons, kLp_s, kLp_n, kLp_c, kLp_b, kLp_r, ev_while, while_s, kWh_f, kWh_t, kWh_n, kWh_c, kWh_b, kWh_r, lc_nil, lc_cons, kLc1_s, kLc2_t, kLc2_f, kLc3_s, kLc4_s, run0_k, kE0_r, kE0_n, rtOf_d, rtOf_nw, rtOf_sl, rtS_own, run1_k, kE1_r, kE1_n, kE2_s, bor_s, gAdd_i, gAdd_l, gAdd_t, gSub_i, gMul_i, gMod_i, gDiv_i, gPow_i, gEq_i, gEq_s, gEq_b, gCmp_i, gIs_n, gInt_i, gInt_b, gMax_i, gMin_i, gAbs_i, gTup_t, gTup_l, gLen_t, gLen_l, gLen_f, gIx_t, gIx_l, gIx_f, kIx_s, at_0, at_1, at_2, at_3, at_4, at_5, gSl_t, gSl_l,
  List.map_cons, List.map_nil, List.cons_append, List.nil_append, List.append_nil, List.length_cons, List.length_nil, List.replicate_succ, List.replicate_zero, Nat.reduceSub, Nat.reduceAdd, List.getElem?_cons_zero, List.getElem?_cons_succ, List.getElem?_nil, List.set_cons_zero, List.set_cons_succ, List.set_nil, Nat.zero_add, Nat.add_zero,
  List.all_cons, List.all_nil, notSl, Bool.and_true, Bool.true_and, Bool.or_true, Bool.true_or, Bool.and_false, Bool.false_and, Bool.or_false, Bool.false_or, if_true, if_false, Bool.false_eq_true, reduceIte, Bool.not_true, Bool.not_false, Bool.bne_true, Bool.bne_false, decide_true, decide_false, wipeE, backE, backS, nc_0, List.length_map, List.length_append, rg_len, Nat.reduceLeDiff, fd_ix, fi_ix, fi_len, fi_it, dcs, eq_self, Int.reduceEq, Int.reduceLT, Int.reduceLE, Int.reduceAdd, Int.reduceSub, Int.reduceMul, Int.reduceToNat, gIs_c, mkD_n, mkD_s, items, and_true, true_and, and_self, bne_self_eq_false, wt, gIn_t, gIsi_i, gIsi_t, gIsi_s, gIsi_n, gIsi_b, gIsi_l, isi2_c, gEq_n, gEq_l, flatD, eqF_s, eqF_i, eqF_n, List.any_cons, List.any_nil, Rt.o, Option.bind_some, phi0_s, phi1_s, List.reverse_cons, List.reverse_nil, decide_eq_true_eq, *])
/-! ### places that are not looked at -/
def Us.isK : Us → Bool | .skip => true | _ => false
theorem us_isK {u : Us} : gEq false u.s (.str "skip") = some (.d (.bl u.isK)) := by cases u <;> rfl
def nI (i : Nat) : D := .int (i : Int)
def looksS (f : Frm) : Std → Bool
  | .head k => match f.head[k]? with | some none => false | _ => true
  | .body u _ _ => !u.isK
  | .room => false
  | _ => true
def blA (f : Frm) : Std → Nat → List Int → List Nat
  | _, _, [] => []
  | s, k, x :: xs => (if looksS f s then [] else [k]) ++ match step f s x with | none => [] | some s' => blA f s' (k + 1) xs
theorem look_head {f : Frm} {j : Nat} {m : Option Int} (h : f.head[j]? = some m) : looksS f (.head j) = m.isSome := by
  show (match f.head[j]? with | some none => false | _ => true) = _
  rw [h]
  cases m <;> rfl
theorem bl_cons {f : Frm} {s : Std} {k : Nat} {x : Int} {xs : List Int} : blA f s k (x :: xs) = (if looksS f s then [] else [k]) ++ (match step f s x with | none => [] | some s' => blA f s' (k + 1) xs) := rfl
theorem bl_yes {f : Frm} {s s' : Std} {k : Nat} {x : Int} {xs : List Int} (e : step f s x = some s') (h : looksS f s = true) : blA f s k (x :: xs) = blA f s' (k + 1) xs := by
  rw [bl_cons, h, e]; rfl
theorem bl_no {f : Frm} {s s' : Std} {k : Nat} {x : Int} {xs : List Int} (e : step f s x = some s') (h : looksS f s = false) : blA f s k (x :: xs) = k :: blA f s' (k + 1) xs := by
  rw [bl_cons, h, e]; rfl
theorem bl_room {f : Frm} : ∀ (ys : List Int) (k : Nat), blA f .room k ys = List.range' k ys.length
  | [], k => rfl
  | y :: ys, k => by
    rw [bl_no (s' := .room) rfl rfl, bl_room ys (k + 1), List.length_cons, List.range'_succ]
theorem bl_body {f : Frm} {u : Us} (hb : 0 < f.base) : ∀ (zs : List Int) (n t : Int) (k : Nat), 0 < n → tOk f u t → n ≤ zs.length → blA f (.body u n t) k zs = (if u.isK then List.range' k n.toNat else []) ++ blA f (behB u (match u with | .check => (t + (zs.take n.toNat).sum) % f.base | _ => 0)) (k + n.toNat) (zs.drop n.toNat)
  | [], n, t, k, hn, ht, hl => by simp at hl; omega
  | z :: zs, n, t, k, hn, ht, hl => by
    rw [List.length_cons] at hl
    rw [bl_cons]
    have ht' : tOk f u (addT f u t z) := by
      cases u <;> dsimp only [addT, tOk] at ht ⊢
      case check => exact ⟨Int.emod_nonneg _ (by omega), Int.emod_lt_of_pos _ hb⟩
      all_goals exact ht
    have hlk : looksS f (.body u n t) = !u.isK := rfl
    rw [hlk]
    by_cases h1 : 1 < n
    · have en : n.toNat = (n - 1).toNat + 1 := by omega
      have es : step f (.body u n t) z = some (.body u (n - 1) (addT f u t z)) := by dsimp only [step]; rw [if_pos h1]
      rw [es]
      dsimp only
      rw [bl_body hb zs (n - 1) _ (k + 1) (by omega) ht' (by omega), en, List.take_succ_cons, List.drop_succ_cons, show k + 1 + (n - 1).toNat = k + ((n - 1).toNat + 1) by omega, List.range'_succ]
      cases u <;> dsimp only [addT, Us.isK] <;> simp
      case check => rw [Int.add_assoc]
    · have en : n.toNat = 1 := by omega
      have es : step f (.body u n t) z = some (behB u (addT f u t z)) := by dsimp only [step]; rw [if_neg h1]
      rw [es, en]
      dsimp only
      cases u <;> dsimp only [addT, tOk, Us.isK] at ht ⊢ <;> simp
      all_goals rw [ht]
theorem bl_len {f : Frm} {u : Us} {zs : List Int} {n : Int} {k : Nat} (hb : 0 < f.base) (hn : 0 ≤ n) (hl : n ≤ zs.length) : blA f (behL u n) k zs = (if u.isK then List.range' k n.toNat else []) ++ blA f (behB u (totF f u (zs.take n.toNat))) (k + n.toNat) (zs.drop n.toNat) := by
  unfold behL totF
  by_cases h : 0 < n
  · rw [if_pos h, bl_body hb zs n 0 k h (by cases u <;> dsimp only [tOk] <;> omega) hl]
    cases u <;> dsimp only <;> simp
  · have h0 : n = 0 := by omega
    subst h0
    rw [if_neg h]
    cases u <;> simp
theorem bl_long {f : Frm} {u : Us} {ys : List Int} {n k p : Nat} {w : Int} (h : longF f n k ys = .ok w p) : blA f (.length u) k ys = blA f (behL u w) p (ys.drop (p - k)) := by
  unfold longF longG at h
  cases ys with
  | nil => cases h
  | cons a ys =>
    dsimp only at h
    have two : ∀ b zs, ys = b :: zs → f.width ≠ .one → ¬ f.most < leastL f a → bothL f a b ≤ f.most → w = bothL f a b → p = k + 2 → blA f (.length u) k (a :: ys) = blA f (behL u w) p ((a :: ys).drop (p - k)) := by
      rintro b zs rfl hw h1 h2 rfl rfl
      rw [show k + 2 - k = 2 by omega]
      have e1 : step f (.length u) a = some (.second u a) := by
        dsimp only [step, firstS]
        rw [if_neg h1]
        cases hw2 : f.width with
        | one => exact absurd hw2 hw
        | high => rfl
        | low => rfl
      have e2 : step f (.second u a) b = some (behL u (bothL f a b)) := by
        dsimp only [step]
        rw [if_neg (by omega)]
      rw [bl_yes e1 rfl, bl_yes e2 rfl]; rfl
    cases hw : f.width with
    | one =>
      rw [hw] at h
      dsimp only at h
      split at h
      · rename_i h2
        cases h
        rw [show k + 1 - k = 1 by omega]
        have el : ∀ z, leastL f z = z := fun z => by unfold leastL; rw [hw]
        have e1 : step f (.length u) w = some (behL u w) := by
          dsimp only [step, firstS]
          rw [el, if_neg (by omega), hw]
        rw [bl_yes e1 rfl]; rfl
      · cases h
    | high =>
      rw [hw] at h
      dsimp only at h
      split at h
      · cases h
      · rename_i h1
        cases ys with
        | nil => cases h
        | cons b ys =>
          dsimp only at h
          split at h
          · rename_i h2
            cases h
            exact two b ys rfl (by rw [hw]; exact fun h => nomatch h) h1 h2 rfl rfl
          · cases h
    | low =>
      rw [hw] at h
      dsimp only at h
      split at h
      · cases h
      · rename_i h1
        cases ys with
        | nil => cases h
        | cons b ys =>
          dsimp only at h
          split at h
          · rename_i h2
            cases h
            exact two b ys rfl (by rw [hw]; exact fun h => nomatch h) h1 h2 rfl rfl
          · cases h
theorem bl_chunk {f : Frm} {u : Us} {ys b : List Int} {n k p : Nat} (o : f.Ok) (hx : ∀ x ∈ ys, 0 ≤ x ∧ x < f.base) (hn : n = k + ys.length) (h : chunkF f n k u ys = .ok b p) : blA f (.length u) k ys = (if u.isK then List.range' (p - b.length) b.length else []) ++ blA f .tag p (ys.drop (p - k)) := by
  have hb : 0 < f.base := by have := o.b0; omega
  unfold chunkF at h
  cases hL : longF f n k ys with
  | short q => rw [hL] at h; cases h
  | long q => rw [hL] at h; cases h
  | ok w q =>
    rw [hL] at h
    dsimp only at h
    obtain ⟨w0, w1, p0, p1⟩ := long_ok o hx hL
    have hzl : (ys.drop (q - k)).length = ys.length - (q - k) := List.length_drop
    split at h
    · cases h
    · rename_i hs
      rw [bl_long hL, bl_len hb w0 (by omega)]
      cases hc : u.isC with
      | true =>
        rw [hc, if_pos rfl] at h
        have hu : u = .check := by cases u <;> first | rfl | cases hc
        subst hu
        cases hd : (ys.drop (q - k)).drop w.toNat with
        | nil => rw [hd] at h; cases h
        | cons z zs =>
          rw [hd] at h
          dsimp only at h
          split at h
          · rename_i hz
            cases h
            have es : step f (.sum (totF f .check ((ys.drop (q - k)).take w.toNat))) z = some .tag := by
              dsimp only [step, totF]; rw [if_pos hz]
            have k0 : ∀ l : List Nat, (if Us.isK .check then l else []) = [] := fun _ => rfl
            rw [k0, k0, List.nil_append, List.nil_append]
            dsimp only [behB]
            rw [bl_yes es rfl, show q + w.toNat + 1 - k = (q - k) + (w.toNat + 1) by omega, ← List.drop_drop, ← List.drop_drop, hd]
            rfl
          · cases h
      | false =>
        rw [hc, if_neg (fun h => nomatch h)] at h
        cases h
        have e : behB u (totF f u ((ys.drop (q - k)).take w.toNat)) = .tag := by cases u <;> first | rfl | cases hc
        rw [e, show q + w.toNat - k = (q - k) + w.toNat by omega, ← List.drop_drop, List.length_take, Nat.min_eq_left (by omega), show q + w.toNat - w.toNat = q by omega]
theorem rg_range' {a n : Nat} : rgD (a : Int) n = (List.range' a n).map nI := by
  unfold rgD
  rw [List.range'_eq_map_range, List.map_map]
  refine List.map_congr_left fun j _ => ?_
  show D.int _ = D.int _
  congr 1
end Dv

set_option Elab.async false
set_option linter.all false
set_option maxRecDepth 100000
set_option maxHeartbeats 4000000
namespace Dv
open PySem PySem.Spec PyProof.Rows L2
local macro_rules | `(tactic| walk_at "ev") => `(tactic| simp only [kRet_s, ev_name, ev_c, nm_val, nm_own, nm_bor, der_d, der_nw, der_sl, sl_own, sl_bor, sl_val, ev_bin, kBin_s, kBin2_s, kBin3_s, kBin4_s, ev_b1, kOne_s, kOne2_s, kRetD_s, ev_un, kUn1_s, kUn12_s, gNeg_i, ev_test, kTst_s, ev_and, ev_or, ev_not, kAnd_t, kAnd_f, kOr_t, kOr_f, kNot_s, ev_notV, kBl_s, ev_andV, ev_orV, kAndV_t, kAndV_f, kOrV_t, kOrV_f, ev_if, kIfE_t, kIfE_f, ev_yes, ev_ch, kCh_s, kCh2_s, kCh3_s, kCh4_s, kCh5_t, kCh5_f, ev_nil, ev_cons, kC1_s, kC2_s, ev_rev, kRv_s, escs_nil, escs_cons, kX1_s, kX2_s, esc_d, esc_nw, esc_sl, escS_own, escS_val, ev_tup, kT1_s, kT2_s, ev_lst, kL1_s, kL2_s, ev_pno, ev_pzero, ev_pint, kPI_s, ev_sl, kS1_s, kS2_s, kS3_s, kS4_s, ev_lrg, kR1_s, kR2_s, ev_call, kF1_s, kF2_s, kF3_s, ders_nil, ders_cons, kD1_s, kD2_s, rt_d, rt_nw, ev_call1, kG1_s, kG2_s, kG3_s, kG4_s, ow_own, ow_bor, put_own, put_bor, ev_iseq, kI1_s, kI2_t, kI2_l, kI2_f, ev_irg1, kN1_u, kN1_i, ev_irg2, kN2_s, kN3_u, ev_lc, kV1_s, kV2_s, ev_seq, kSeq_n, kSeq_r, kSeq_b, kSeq_c, ev_skip, ev_break, ev_cont, ev_retN, ev_ret, kRt_s, ev_sif, kIf_t, kIf_f, ev_drop, kDr_s, ev_set, kSt_s, kSt2_s, ev_own, kOw_s, ev_unp, kUn_s, kUn2_s, kNx_s, bt_nm, bt_tp, sa_nil, sa_cons, ev_par, kPa_s, sp_nil, sp_own, sp_val, ev_app, kAp_s, kAp2_s, kAp3_s, kAp4_s, ev_sti, kSi_s, kSi2_s, kSi3_s, kSi4_s, kSi5_s, kSi6_s, ev_aug, kAg_s, kAg2_s, val_s, ev_for, kFo_s, loop_nil, loop_cons, kLp_s, kLp_n, kLp_c, kLp_b, kLp_r, ev_while, while_s, kWh_f, kWh_t, kWh_n, kWh_c, kWh_b, kWh_r, lc_nil, lc_cons, kLc1_s, kLc2_t, kLc2_f, kLc3_s, kLc4_s, run0_k, kE0_r, kE0_n, rtOf_d, rtOf_nw, rtOf_sl, rtS_own, run1_k, kE1_r, kE1_n, kE2_s, bor_s, gAdd_i, gAdd_l, gAdd_t, gSub_i, gMul_i, gMod_i, gDiv_i, gPow_i, gEq_i, gEq_s, gEq_b, gCmp_i, gIs_n, gInt_i, gInt_b, gMax_i, gMin_i, gAbs_i, gTup_t, gTup_l, gLen_t, gLen_l, gLen_f, gIx_t, gIx_l, gIx_f, kIx_s, at_0, at_1, at_2, at_3, at_4, at_5, gSl_t, gSl_l,
  List.map_cons, List.map_nil, List.cons_append, List.nil_append, List.append_nil, List.length_cons, List.length_nil, List.replicate_succ, List.replicate_zero, Nat.reduceSub, Nat.reduceAdd, List.getElem?_cons_zero, List.getElem?_cons_succ, List.getElem?_nil, List.set_cons_zero, List.set_cons_succ, List.set_nil, Nat.zero_add, Nat.add_zero,
  List.all_cons, List.all_nil, notSl, Bool.and_true, Bool.true_and, Bool.or_true, Bool.true_or, Bool.and_false, Bool.false_and, Bool.or_false, Bool.false_or, if_true, if_false, Bool.false_eq_true, reduceIte, Bool.not_true, Bool.not_false, Bool.bne_true, Bool.bne_false, decide_true, decide_false, wipeE, backE, backS, nc_0, List.length_map, List.length_append, rg_len, Nat.reduceLeDiff, fd_ix, fi_ix, fi_len, fi_it, dcs, eq_self, Int.reduceEq, Int.reduceLT, Int.reduceLE, Int.reduceAdd, Int.reduceSub, Int.reduceMul, Int.reduceToNat, gIs_c, mkD_n, mkD_s, items, and_true, true_and, and_self, bne_self_eq_false, wt, gIn_t, gIsi_i, gIsi_t, gIsi_s, gIsi_n, gIsi_b, gIsi_l, isi2_c, gEq_n, gEq_l, ev_dk, kDk1_s, kDk2_s, kDk3_s, flatD, eqF_s, eqF_i, eqF_n, List.any_cons, List.any_nil, Rt.o, Option.bind_some, phi0_s, phi1_s, List.reverse_cons, List.reverse_nil, decide_eq_true_eq, *])
/-! ### the law's own reading, exactly -/
def ctD (p : Int × List Int) : D := .tup [.int p.1, fileD p.2]
def RdA (f : Frm) (xs : List Int) (a b c : D) : Prop := RfX f (behM f 0) xs c ∧ (c = .non → a = .tup ((contA f (behM f 0) xs).map ctD) ∧ b = .lst ((blA f (behM f 0) 0 xs).map nI))
theorem RdA.bad {f : Frm} {xs : List Int} {a b : D} {ds : List D} (h : RfX f (behM f 0) xs (.tup ds)) : RdA f xs a b (.tup ds) := ⟨h, fun e => nomatch e⟩
abbrev RxG (f : Frm) (xs : List Int) (R : FS) (o : Option Out) : Prop := ∃ a b c, kE0 (kSeq R o) = some (.d (.tup [a, b, c])) ∧ RdA f xs a b c
abbrev RxIH (f : Frm) (xs : List Int) (m fuel : Nat) : Prop := ∀ (k : Nat) (cs : List (Int × List Int)) (bl : List Nat) (c4 c6 c7 c8 c9 : Sl), xs.length - k ≤ m → k ≤ xs.length → cs.length ≤ k → bl.length ≤ k → beh f (behM f 0) (xs.take k) = some .tag → contA f (behM f 0) xs = cs ++ contA f .tag (xs.drop k) → blA f (behM f 0) 0 xs = bl ++ blA f .tag k (xs.drop k) →
    RxG f xs rdE (whileD rdC rdW fuel [.val f.d, .val (fileD xs), .own (cs.map ctD), .own (bl.map nI), c4, .val (.int k), c6, c7, c8, c9, .un])
theorem rx_end {f : Frm} {xs : List Int} (o : f.Ok) {cs : List (Int × List Int)} {bl : List Nat} {c4 c5 c6 c7 c8 c9 : Sl} (htk : beh f (behM f 0) xs = some .tag) (hc : contA f (behM f 0) xs = cs) (hbx : blA f (behM f 0) 0 xs = bl) : ∃ a b c, kE0 (rdE [.val f.d, .val (fileD xs), .own (cs.map ctD), .own (bl.map nI), c4, c5, c6, c7, c8, c9, .un]) = some (.d (.tup [a, b, c])) ∧ RdA f xs a b c := by
  have e := fin_lc (e0 := .val f.d) (e1 := .val (fileD xs)) (e2 := .own (cs.map ctD)) (e3 := .own (bl.map nI)) (e4 := c4) (e5 := c5) (e6 := c6) (e7 := c7) (e8 := c8) (e9 := c9) f.tags [] (by have := o.tl; simp; omega)
  rw [List.nil_append] at e
  have e2 : gEq true (.lst ((f.tags.filter fun t => t.2.isE).map tgD)) (.lst []) = some (.d (.bl _)) := gEq_tags
  cases h : (f.tags.filter fun t => t.2.isE).isEmpty with
  | true =>
    rw [h] at e2
    refine ⟨.tup (cs.map ctD), .lst (bl.map nI), .non, ?_, .read htk h, fun _ => ⟨by rw [hc], by rw [hbx]⟩⟩
    clear h hc htk hbx
    walk_at "ev"
  | false =>
    rw [h] at e2
    refine ⟨.non, .non, .tup [.int xs.length, .str "short"], ?_, .bad (.short htk h)⟩
    clear h hc htk hbx
    walk_at "ev"
theorem rx_main {f : Frm} {xs : List Int} (o : f.Ok) (hx : ∀ x ∈ xs, 0 ≤ x ∧ x < f.base) (hl : xs.length ≤ 900000) {m k fuel : Nat} {cs : List (Int × List Int)} {bl : List Nat} {c4 c6 c7 c8 c9 : Sl} {s : Int} {ys : List Int} (ih : RxIH f xs m fuel) (h1 : xs.length - k ≤ m + 1) (hy : xs.drop k = s :: ys) (hn : xs.length = k + (ys.length + 1)) {u : Us} (hu : useOf f s = some u) (ht : u.isE = false)
    (hcs : cs.length ≤ k) (hbl : bl.length ≤ k) (htk : beh f (behM f 0) (xs.take k) = some .tag) (hct : contA f (behM f 0) xs = cs ++ contA f .tag (xs.drop k)) (hbx : blA f (behM f 0) 0 xs = bl ++ blA f .tag k (xs.drop k)) :
    RxG f xs rdE (whileD rdC rdW (fuel + 1) [.val f.d, .val (fileD xs), .own (cs.map ctD), .own (bl.map nI), c4, .val (.int k), c6, c7, c8, c9, .un]) := by
  have e2 : (k : Int) < xs.length := by omega
  have hxs : ∀ z ∈ s :: ys, 0 ≤ z ∧ z < f.base := fun z hz => hx z (List.mem_of_mem_drop (hy ▸ hz))
  have hys : ∀ z ∈ ys, 0 ≤ z ∧ z < f.base := fun z hz => hxs z (by simp [hz])
  have e1 : atI (xs.map D.int) (k : Int) = some (.int s) := fi_at (by omega) hy
  have hy1 : xs.drop (k + 1) = ys := by rw [← List.drop_drop, hy]; rfl
  have e3 : phi__law_use [f.d, .int s] = some (.d u.s) := by have := law_use (f := f) (s := s); rw [hu] at this; exact this
  have e4 : phi__law_chunk [f.d, fileD xs, .int ((k : Int) + 1), u.s] = some (.d (chunkF f xs.length (k + 1) u ys).d) := by
    have := law_chunk (k := k + 1) (u := u) o (by omega) hx
    rw [hy1] at this
    exact this
  have hst : step f .tag s = some (.length u) := by
    dsimp only [step]; rw [hu]; cases u <;> first | rfl | cases ht
  have hcc : contA f .tag (s :: ys) = cellA f s ys (.length u) ++ contA f (.length u) ys := by rw [contA_cons, hst]
  have hbc : blA f .tag k (s :: ys) = blA f (.length u) (k + 1) ys := bl_yes hst rfl
  have j0 := us_ne (u := u)
  have j1 : gEq false u.s (.str "end") = some (.d (.bl false)) := by cases u <;> first | rfl | cases ht
  have j2 : gEq false u.s (.str "stop") = some (.d (.bl false)) := by cases u <;> first | rfl | cases ht
  cases hC : chunkF f xs.length (k + 1) u ys with
  | short q =>
    rw [hC] at e4
    dsimp only [Ch.d] at e4
    obtain ⟨hq, t, q1, q2⟩ := chunk_short o hys (by omega) hC
    refine ⟨.non, .non, .tup [.int q, .str "short"], ?_, .bad (rx_short (t := t) htk (by rw [hy, beh_cons, hst]; exact q1) q2 _ (by rw [hq]))⟩
    clear ih hx hn hy hxs hys h1 hy1 hC hl hcs hbl htk hst hct hcc hbx hbc hq q1 q2
    walk_at "ev"
  | bad i w =>
    rw [hC] at e4
    obtain ⟨q1, q2, t, q3, q4, q5⟩ := chunk_bad2 o hys (by omega) hC
    have hget : ∀ (j : Nat) (hj : j < (xs.drop k).length), j = (i - (k + 1)) + 1 → (xs.drop k)[j] = ys[i - (k + 1)] := by
      rintro j hj rfl
      have : ∀ (l : List Int) (hl : i - (k + 1) + 1 < l.length), l = s :: ys → l[i - (k + 1) + 1] = ys[i - (k + 1)] := by
        rintro l hl rfl; rfl
      exact this _ hj hy
    have hrf : RfX f (behM f 0) xs (.tup [.int i, .str (if w then "length" else "check")]) := rx_tag (k := k) (r := i - k) (t := t) htk (by rw [hy, List.length_cons]; omega) (by
        rw [hy, show i - k = (i - (k + 1)) + 1 by omega, List.take_succ_cons, beh_cons, hst]; exact q3) (by rw [hget _ _ (by omega)]; exact q4) _ (by omega) _ (by rw [q5]; cases w <;> rfl)
    cases w with
    | true =>
      dsimp only [Ch.d] at e4
      refine ⟨.non, .non, .tup [.int i, .str "length"], ?_, .bad hrf⟩
      clear ih hx hn hy hxs hys h1 hy1 hC hl hcs hbl htk hst hrf hget q1 q3 q4 q5 hct hcc hbx hbc
      walk_at "ev"
    | false =>
      dsimp only [Ch.d] at e4
      refine ⟨.non, .non, .tup [.int i, .str "check"], ?_, .bad hrf⟩
      clear ih hx hn hy hxs hys h1 hy1 hC hl hcs hbl htk hst hrf hget q1 q3 q4 q5 hct hcc hbx hbc
      walk_at "ev"
  | ok b p =>
    rw [hC] at e4
    dsimp only [Ch.d] at e4
    obtain ⟨q1, q2, q3, q4⟩ := chunk_ok o hys (by omega) hC
    obtain ⟨c1, c2⟩ := cont_chunk o hys (by omega) hC
    have d1 := bl_chunk o hys (by omega) hC
    have htp : beh f (behM f 0) (xs.take p) = some .tag := by
      rw [show p = k + (p - k) by omega, List.take_add, beh_app, htk]
      show beh f .tag _ = _
      rw [hy, show p - k = (p - (k + 1)) + 1 by omega, List.take_succ_cons, beh_cons, hst]
      exact q4
    have hdp : ys.drop (p - (k + 1)) = xs.drop p := by rw [← hy1, List.drop_drop]; congr 1; omega
    have g0 : gIs false (fileD b) .non = some (.d (.bl false)) := rfl
    cases hs : u.isK with
    | true =>
      have j3 : gEq false u.s (.str "skip") = some (.d (.bl true)) := by rw [us_isK, hs]
      have r1 : ∀ ρ, kR2 (some ((p : Int) - b.length)) (some (some (p : Int), ρ)) = some (.nw (rgD ((p : Int) - b.length) ((p : Int) - (p - b.length)).toNat), ρ) := fun ρ => kR2_s (by omega)
      have r2 : rgD ((p : Int) - b.length) ((p : Int) - (p - b.length)).toNat = (List.range' (p - b.length) b.length).map nI := by
        rw [← rg_range', show (p : Int) - (p - b.length) = (b.length : Int) by omega, show (p : Int) - b.length = ((p - b.length : Nat) : Int) by omega]; rfl
      rw [r2] at r1
      have r3 : gAdd (.lst (bl.map nI)) (.lst ((List.range' (p - b.length) b.length).map nI)) = some (.nw (bl.map nI ++ (List.range' (p - b.length) b.length).map nI)) := gAdd_l (by simp; omega)
      rw [if_pos hs] at d1
      have hce : cellA f s ys (.length u) = [] := by cases u <;> first | rfl | cases hs
      obtain ⟨a, b', c, e, hr⟩ := ih p cs (bl ++ List.range' (p - b.length) b.length) c4 (.val u.s) c7 (.val (fileD b)) (.val (.int p)) (by omega) q2 (by omega) (by rw [List.length_append, List.length_range']; omega) htp (by rw [hct, hy, hcc, hce, c1, hdp, List.nil_append]) (by rw [hbx, hy, hbc, d1, hdp, List.append_assoc])
      refine ⟨a, b', c, ?_, hr⟩
      rw [← e, List.map_append]
      clear e hr ih hx hn hy hxs hys h1 hy1 hC hl hcs hbl htk hst q1 q2 q3 q4 htp r2 d1 hs hct hcc hbx hbc hce c1 c2 hdp
      walk_at "ev"
    | false =>
      have j3 : gEq false u.s (.str "skip") = some (.d (.bl false)) := by rw [us_isK, hs]
      have r3 : cs.length < 16777216 := by omega
      have hce : cellA f s ys (.length u) = [(s, b)] := by
        rw [← c2]
        cases u <;> first | rfl | (cases ht; done) | (cases hs; done)
      obtain ⟨a, b', c, e, hr⟩ := ih p (cs ++ [(s, b)]) bl c4 (.val u.s) c7 (.val (fileD b)) (.val (.int p)) (by omega) q2 (by rw [List.length_append, List.length_singleton]; omega) (by omega) htp (by rw [hct, hy, hcc, hce, c1, hdp, List.append_assoc]) (by rw [hbx, hy, hbc, d1, if_neg (by rw [hs]; exact fun h => nomatch h), hdp]; rfl)
      refine ⟨a, b', c, ?_, hr⟩
      rw [← e, show (cs ++ [(s, b)]).map ctD = cs.map ctD ++ [.tup [.int s, fileD b]] by simp [ctD]]
      clear e hr ih hx hn hy hxs hys h1 hy1 hC hl hcs hbl htk hst q1 q2 q3 q4 htp d1 hs hct hcc hbx hbc hce c1 c2 hdp
      walk_at "ev"
end Dv

set_option Elab.async false
set_option linter.all false
set_option maxRecDepth 100000
set_option maxHeartbeats 4000000
namespace Dv
open PySem PySem.Spec PyProof.Rows L2
local macro_rules | `(tactic| walk_at "ev") => `(tactic| simp only [kRet_s, ev_name, ev_c, nm_val, nm_own, nm_bor, der_d, der_nw, der_sl, sl_own, sl_bor, sl_val, ev_bin, kBin_s, kBin2_s, kBin3_s, kBin4_s, ev_b1, kOne_s, kOne2_s, kRetD_s, ev_un, kUn1_s, kUn12_s, gNeg_i, ev_test, kTst_s, ev_and, ev_or, ev_not, kAnd_t, kAnd_f, kOr_t, kOr_f, kNot_s, ev_notV, kBl_s, ev_andV, ev_orV, kAndV_t, kAndV_f, kOrV_t, kOrV_f, ev_if, kIfE_t, kIfE_f, ev_yes, ev_ch, kCh_s, kCh2_s, kCh3_s, kCh4_s, kCh5_t, kCh5_f, ev_nil, ev_cons, kC1_s, kC2_s, ev_rev, kRv_s, escs_nil, escs_cons, kX1_s, kX2_s, esc_d, esc_nw, esc_sl, escS_own, escS_val, ev_tup, kT1_s, kT2_s, ev_lst, kL1_s, kL2_s, ev_pno, ev_pzero, ev_pint, kPI_s, ev_sl, kS1_s, kS2_s, kS3_s, kS4_s, ev_lrg, kR1_s, kR2_s, ev_call, kF1_s, kF2_s, kF3_s, ders_nil, ders_cons, kD1_s, kD2_s, rt_d, rt_nw, ev_call1, kG1_s, kG2_s, kG3_s, kG4_s, ow_own, ow_bor, put_own, put_bor, ev_iseq, kI1_s, kI2_t, kI2_l, kI2_f, ev_irg1, kN1_u, kN1_i, ev_irg2, kN2_s, kN3_u, ev_lc, kV1_s, kV2_s, ev_seq, kSeq_n, kSeq_r, kSeq_b, kSeq_c, ev_skip, ev_break, ev_cont, ev_retN, ev_ret, kRt_s, ev_sif, kIf_t, kIf_f, ev_drop, kDr_s, ev_set, kSt_s, kSt2_s, ev_own, kOw_s, ev_unp, kUn_s, kUn2_s, kNx_s, bt_nm, bt_tp, sa_nil, sa_cons, ev_par, kPa_s, sp_nil, sp_own, sp_val, ev_app, kAp_s, kAp2_s, kAp3_s, kAp4_s, ev_sti, kSi_s, kSi2_s, kSi3_s, kSi4_s, kSi5_s, kSi6_s, ev_aug, kAg_s, kAg2_s, val_s, ev_for, kFo_s, loop_nil, loop_cons, kLp_s, kLp_n, kLp_c, kLp_b, kLp_r, ev_while, while_s, kWh_f, kWh_t, kWh_n, kWh_c, kWh_b, kWh_r, lc_nil, lc_cons, kLc1_s, kLc2_t, kLc2_f, kLc3_s, kLc4_s, run0_k, kE0_r, kE0_n, rtOf_d, rtOf_nw, rtOf_sl, rtS_own, run1_k, kE1_r, kE1_n, kE2_s, bor_s, gAdd_i, gAdd_l, gAdd_t, gSub_i, gMul_i, gMod_i, gDiv_i, gPow_i, gEq_i, gEq_s, gEq_b, gCmp_i, gIs_n, gInt_i, gInt_b, gMax_i, gMin_i, gAbs_i, gTup_t, gTup_l, gLen_t, gLen_l, gLen_f, gIx_t, gIx_l, gIx_f, kIx_s, at_0, at_1, at_2, at_3, at_4, at_5, gSl_t, gSl_l,
  List.map_cons, List.map_nil, List.cons_append, List.nil_append, List.append_nil, List.length_cons, List.length_nil, List.replicate_succ, List.replicate_zero, Nat.reduceSub, Nat.reduceAdd, List.getElem?_cons_zero, List.getElem?_cons_succ, List.getElem?_nil, List.set_cons_zero, List.set_cons_succ, List.set_nil, Nat.zero_add, Nat.add_zero,
  List.all_cons, List.all_nil, notSl, Bool.and_true, Bool.true_and, Bool.or_true, Bool.true_or, Bool.and_false, Bool.false_and, Bool.or_false, Bool.false_or, if_true, if_false, Bool.false_eq_true, reduceIte, Bool.not_true, Bool.not_false, Bool.bne_true, Bool.bne_false, decide_true, decide_false, wipeE, backE, backS, nc_0, List.length_map, List.length_append, rg_len, Nat.reduceLeDiff, fd_ix, fi_ix, fi_len, fi_it, dcs, eq_self, Int.reduceEq, Int.reduceLT, Int.reduceLE, Int.reduceAdd, Int.reduceSub, Int.reduceMul, Int.reduceToNat, gIs_c, mkD_n, mkD_s, items, and_true, true_and, and_self, bne_self_eq_false, wt, gIn_t, gIsi_i, gIsi_t, gIsi_s, gIsi_n, gIsi_b, gIsi_l, isi2_c, gEq_n, gEq_l, ev_dk, kDk1_s, kDk2_s, kDk3_s, flatD, eqF_s, eqF_i, eqF_n, List.any_cons, List.any_nil, Rt.o, Option.bind_some, phi0_s, phi1_s, List.reverse_cons, List.reverse_nil, decide_eq_true_eq, *])

/-! ### the law's own reading, exactly: the loops -/
theorem rx_loop {f : Frm} {xs : List Int} (o : f.Ok) (hx : ∀ x ∈ xs, 0 ≤ x ∧ x < f.base) (hl : xs.length ≤ 900000) : ∀ (m fuel : Nat), m < fuel → RxIH f xs m fuel := by
  intro m
  induction m with
  | zero =>
    intro fuel hf k cs bl c4 c6 c7 c8 c9 h1 h2 hcs hbl htk hct hbx
    obtain ⟨fuel, rfl⟩ : ∃ g, fuel = g + 1 := ⟨fuel - 1, by omega⟩
    have e2 : ¬ (k : Int) < xs.length := by omega
    have e3 : xs.drop k = [] := List.drop_eq_nil_of_le (by omega)
    obtain ⟨a, b, c, e, hr⟩ := rx_end (xs := xs) o (cs := cs) (bl := bl) (c4 := c4) (c5 := .val (.int k)) (c6 := c6) (c7 := c7) (c8 := c8) (c9 := c9) (by rw [← List.take_append_drop k xs, beh_app, htk, e3]; rfl) (by rw [hct, e3]; simp [contA]) (by rw [hbx, e3]; simp [blA])
    refine ⟨a, b, c, ?_, hr⟩
    rw [← e]
    clear e hr hf h1 h2 hcs hbl htk hx hl hct hbx e3
    walk_at "ev"
  | succ m ih =>
    intro fuel hf k cs bl c4 c6 c7 c8 c9 h1 h2 hcs hbl htk hct hbx
    obtain ⟨fuel, rfl⟩ : ∃ g, fuel = g + 1 := ⟨fuel - 1, by omega⟩
    cases hy : xs.drop k with
    | nil =>
      have hn := drop_len hy h2
      have e2 : ¬ (k : Int) < xs.length := by simp at hn; omega
      obtain ⟨a, b, c, e, hr⟩ := rx_end (xs := xs) o (cs := cs) (bl := bl) (c4 := c4) (c5 := .val (.int k)) (c6 := c6) (c7 := c7) (c8 := c8) (c9 := c9) (by rw [← List.take_append_drop k xs, beh_app, htk, hy]; rfl) (by rw [hct, hy]; simp [contA]) (by rw [hbx, hy]; simp [blA])
      refine ⟨a, b, c, ?_, hr⟩
      rw [← e]
      clear e hr hf h1 h2 hcs hbl htk hx hl ih hy hn hct hbx
      walk_at "ev"
    | cons s ys =>
      have hn := drop_len hy h2
      rw [List.length_cons] at hn
      have e2 : (k : Int) < xs.length := by omega
      have e1 : atI (xs.map D.int) (k : Int) = some (.int s) := fi_at (by omega) hy
      have e3 := law_use (f := f) (s := s)
      have r1 : ∀ ρ, kR2 (some ((k : Int) + 1)) (some (some (xs.length : Int), ρ)) = some (.nw (rgD ((k : Int) + 1) ((xs.length : Int) - (k + 1)).toNat), ρ) := fun ρ => kR2_s (by omega)
      have r2 : rgD ((k : Int) + 1) ((xs.length : Int) - (k + 1)).toNat = (List.range' (k + 1) ys.length).map nI := by
        rw [← rg_range', show (xs.length : Int) - (k + 1) = (ys.length : Int) by omega]; rfl
      rw [r2] at r1
      have r3 : gAdd (.lst (bl.map nI)) (.lst ((List.range' (k + 1) ys.length).map nI)) = some (.nw (bl.map nI ++ (List.range' (k + 1) ys.length).map nI)) := gAdd_l (by simp; omega)
      have hl0 : ∀ (l : List Int) (h : 0 < l.length), l = s :: ys → l[0] = s := by rintro l h rfl; rfl
      have hl1 : ∀ (l : List Int) (h : 1 < l.length) (z : Int) (zs : List Int), l = s :: z :: zs → l[1] = z := by rintro l h z zs rfl; rfl
      cases hu : useOf f s with
      | none =>
        rw [hu] at e3
        dsimp only [useE] at e3
        have hrx : RfX f (behM f 0) xs (.tup [.int k, .str "tag"]) := rx_tag (r := 0) (t := .tag) htk (by rw [hy]; simp) rfl (by rw [hl0 _ _ hy]; dsimp only [step]; rw [hu]; rfl) _ (by omega) _ rfl
        refine ⟨.non, .non, .tup [.int k, .str "tag"], ?_, .bad hrx⟩
        clear ih hx hl hn hy h1 h2 hcs hbl htk hf r1 r2 r3 hrx hct hbx hl0 hl1
        walk_at "ev"
      | some u =>
        rw [hu] at e3
        cases u with
        | fin =>
          dsimp only [useE, Us.s] at e3
          have hst : step f .tag s = some .room := by dsimp only [step]; rw [hu]; rfl
          have hrx : RfX f (behM f 0) xs .non := rx_read (t := .room) htk (by rw [hy, beh_cons, hst]; exact beh_room ys) rfl
          refine ⟨.tup (cs.map ctD), .lst (bl.map nI ++ (List.range' (k + 1) ys.length).map nI), .non, ?_, hrx, fun _ => ⟨by rw [hct, hy, contA_cons, hst]; dsimp only [cellA]; rw [cont_room, List.append_nil, List.append_nil], by
            rw [hbx, hy, bl_yes hst rfl, bl_room, List.map_append]⟩⟩
          clear ih hx hl hn hy h1 h2 hcs hbl htk hf r2 hrx hct hbx hst hl0 hl1
          walk_at "ev"
        | stop =>
          dsimp only [useE, Us.s] at e3
          clear r1 r2 r3
          have hst : step f .tag s = some .over := by dsimp only [step]; rw [hu]; rfl
          cases ys with
          | nil =>
            have e5 : decide ((k : Int) + 1 = xs.length) = true := decide_eq_true (by simp at hn; omega)
            have hrx : RfX f (behM f 0) xs .non := rx_read (t := .over) htk (by rw [hy, beh_cons, hst]; rfl) rfl
            refine ⟨.tup (cs.map ctD), .lst (bl.map nI), .non, ?_, hrx, fun _ => ⟨by rw [hct, hy, contA_cons, hst]; simp [cellA, contA], by rw [hbx, hy, bl_yes hst rfl]; simp [blA]⟩⟩
            clear ih hx hl hn hy h1 h2 hcs hbl htk hf hrx hct hbx hst hl0 hl1
            walk_at "ev"
          | cons y ys =>
            rw [List.length_cons] at hn
            have e5 : decide ((k : Int) + 1 = xs.length) = false := decide_eq_false (by omega)
            have hrx : RfX f (behM f 0) xs (.tup [.int ((k : Int) + 1), .str "behind"]) := rx_tag (r := 1) (t := .over) htk (by rw [hy]; simp) (by rw [hy]; show beh f .tag [s] = _; rw [beh_cons, hst]; rfl) (by rw [hl1 _ _ y ys hy]; rfl) _ (by omega) _ rfl
            refine ⟨.non, .non, .tup [.int ((k : Int) + 1), .str "behind"], ?_, .bad hrx⟩
            clear ih hx hl hn hy h1 h2 hcs hbl htk hf hrx hct hbx hst hl0 hl1
            walk_at "ev"
        | keep => exact rx_main o hx hl (ih fuel (by omega)) h1 hy hn hu rfl hcs hbl htk hct hbx
        | check => exact rx_main o hx hl (ih fuel (by omega)) h1 hy hn hu rfl hcs hbl htk hct hbx
        | skip => exact rx_main o hx hl (ih fuel (by omega)) h1 hy hn hu rfl hcs hbl htk hct hbx
theorem rxh_loop {f : Frm} {xs : List Int} (o : f.Ok) (hx : ∀ x ∈ xs, 0 ≤ x ∧ x < f.base) (hl : xs.length ≤ 900000) : ∀ (m j : Nat) (bl : List Nat) (c4 : Sl), f.head.length = j + m → j ≤ xs.length → bl.length ≤ j → beh f (behM f 0) (xs.take j) = some (behM f j) → contA f (behM f 0) xs = contA f (behM f j) (xs.drop j) → blA f (behM f 0) 0 xs = bl ++ blA f (behM f j) j (xs.drop j) →
    RxG f xs rdR (loopD (.nm 4) rdH ((List.range' j m).map fun i : Nat => D.int (i : Int)) [.val f.d, .val (fileD xs), .own [], .own (bl.map nI), c4, .un, .un, .un, .un, .un, .un])
  | 0, j, bl, c4, hm, hj, hbl, htk, hct, hbx => by
    have eb : behM f j = .tag := by unfold behM; rw [if_neg (by omega)]
    rw [eb] at htk hct hbx
    obtain ⟨N, hN⟩ : ∃ N : Nat, N = 1000000 := ⟨_, rfl⟩
    obtain ⟨a, b, c, e, hr⟩ := rx_loop o hx hl 900000 N (by omega) j [] bl c4 .un .un .un .un (by omega) hj (by simp) hbl htk hct hbx
    have e0 : ∀ ρ : Ev, wh__law_reading_1 ρ = N := fun _ => hN.symm ▸ rfl
    have e1 : (j : Int) = f.head.length := by omega
    rw [e1, List.map_nil] at e
    refine ⟨a, b, c, ?_, hr⟩
    rw [← e]
    clear e hN hr hct hbx
    unfold rdR
    rw [List.range'_zero]
    walk_at "ev"
  | m + 1, j, bl, c4, hm, hj, hbl, htk, hct, hbx => by
    have hk : j < f.head.length := by omega
    have eb : behM f j = .head j := by unfold behM; rw [if_pos hk]
    rw [eb] at htk hct hbx
    rw [List.range'_succ, List.map_cons]
    have e0 : atI (f.head.map mkD) (j : Int) = some (mkD f.head[j]) := at_map (by omega) (List.getElem?_eq_getElem hk)
    cases hy : xs.drop j with
    | nil =>
      have hn := drop_len hy hj
      have e2 : (xs.length : Int) ≤ j := by simp at hn; omega
      have hrx : RfX f (behM f 0) xs (.tup [.int xs.length, .str "short"]) := .short (t := .head j) (by rw [← List.take_append_drop j xs, beh_app, htk, hy]; rfl) rfl
      refine ⟨.non, .non, .tup [.int xs.length, .str "short"], ?_, .bad hrx⟩
      clear hy hn hx hl hm hj hbl htk hct hbx hrx
      walk_at "ev"
    | cons s ys =>
      have hn := drop_len hy hj
      rw [List.length_cons] at hn
      have e2 : ¬ (xs.length : Int) ≤ j := by omega
      have e1 : atI (xs.map D.int) (j : Int) = some (.int s) := fi_at (by omega) hy
      have hdj : xs.drop (j + 1) = ys := by rw [← List.drop_drop, hy]; rfl
      have hnx : step f (.head j) s = some (behM f (j + 1)) → beh f (behM f 0) (xs.take (j + 1)) = some (behM f (j + 1)) ∧ contA f (behM f 0) xs = contA f (behM f (j + 1)) (xs.drop (j + 1)) ∧ blA f (behM f 0) 0 xs = (bl ++ if looksS f (.head j) then [] else [j]) ++ blA f (behM f (j + 1)) (j + 1) (xs.drop (j + 1)) := fun hq => by
        refine ⟨?_, ?_, ?_⟩
        · rw [List.take_add, beh_app, htk]
          show beh f (.head j) _ = _
          rw [hy]
          show beh f (.head j) [s] = _
          rw [beh_cons, hq]; rfl
        · rw [hct, hy, contA_cons, hq, hdj]
          dsimp only
          rw [cell_behM]; rfl
        · rw [hbx, hy, bl_cons, hq, hdj, List.append_assoc]
      cases hm2 : f.head[j] with
      | none =>
        rw [hm2] at e0
        have hq : step f (.head j) s = some (behM f (j + 1)) := by dsimp only [step]; rw [List.getElem?_eq_getElem hk, hm2]
        have r3 : bl.length < 16777216 := by omega
        obtain ⟨a, b, c, e, hr⟩ := rxh_loop o hx hl m (j + 1) (bl ++ [j]) (.val (.int j)) (by omega) (by omega) (by rw [List.length_append, List.length_singleton]; omega) (hnx hq).1 (hnx hq).2.1 (by
            have := (hnx hq).2.2
            rw [look_head (List.getElem?_eq_getElem hk), hm2] at this
            simpa using this)
        refine ⟨a, b, c, ?_, hr⟩
        have en : nI j = D.int (j : Int) := rfl
        rw [← e, List.map_append]
        clear e hr hnx hy hn hx hl hm hj hbl htk hq hct hdj hbx
        walk_at "ev"
      | some q =>
        rw [hm2] at e0
        by_cases h : q = s
        · have e3 : decide (q = s) = true := decide_eq_true h
          have hq : step f (.head j) s = some (behM f (j + 1)) := by dsimp only [step]; rw [List.getElem?_eq_getElem hk, hm2]; dsimp only; rw [if_pos h]
          obtain ⟨a, b, c, e, hr⟩ := rxh_loop o hx hl m (j + 1) bl (.val (.int j)) (by omega) (by omega) (by omega) (hnx hq).1 (hnx hq).2.1 (by
            have := (hnx hq).2.2
            rw [look_head (List.getElem?_eq_getElem hk), hm2] at this
            simpa using this)
          refine ⟨a, b, c, ?_, hr⟩
          rw [← e]
          clear e hr hnx hy hn hx hl hm hj hbl htk hq h hct hdj hbx
          walk_at "ev"
        · have hq : step f (.head j) s = none := by dsimp only [step]; rw [List.getElem?_eq_getElem hk, hm2]; dsimp only; rw [if_neg h]
          have hj2 : j < xs.length := by omega
          have hg : xs[j] = s := by
            have e : (xs.drop j)[0]? = some s := by rw [hy]; rfl
            rw [List.getElem?_drop, Nat.add_zero, List.getElem?_eq_getElem hj2] at e
            exact Option.some.inj e
          have hrx : RfX f (behM f 0) xs (.tup [.int j, .str "head"]) := .bad (i := j) (t := .head j) hj2 htk (by rw [hg]; exact hq)
          refine ⟨.non, .non, .tup [.int j, .str "head"], ?_, .bad hrx⟩
          clear hnx hy hn hx hl hm hj hbl htk hq hct hdj hbx hrx hj2 hg
          walk_at "ev"
/-- the law's own reading: what is refused, and of a file that is read what it tells -/
theorem reading_x {f : Frm} {xs : List Int} (o : f.Ok) (hx : ∀ x ∈ xs, 0 ≤ x ∧ x < f.base) (hl : xs.length ≤ 900000) : ∃ a b c, phi__law_reading [f.d, fileD xs] = some (.d (.tup [a, b, c])) ∧ RdA f xs a b c := by
  obtain ⟨a, b, c, e, hr⟩ := rxh_loop o hx hl f.head.length 0 [] .un (by omega) (by omega) (by simp) rfl rfl rfl
  refine ⟨a, b, c, ?_, hr⟩
  rw [← e, ← rg_range]
  have h1 : f.head.length ≤ 16777216 := by have := o.hl; omega
  clear e hr
  unfold phi__law_reading g__law_reading
  walk_at "ev"
end Dv

set_option Elab.async false
set_option linter.all false
set_option maxRecDepth 100000
set_option maxHeartbeats 4000000
namespace Dv
open PySem PySem.Spec PyProof.Rows L2
local macro_rules | `(tactic| walk_at "ev") => `(tactic| simp only [kRet_s, ev_name, ev_c, nm_val, nm_own, nm_bor, der_d, der_nw, der_sl, sl_own, sl_bor, sl_val, ev_bin, kBin_s, kBin2_s, kBin3_s, kBin4_s, ev_b1, kOne_s, kOne2_s, kRetD_s, ev_un, kUn1_s, kUn12_s, gNeg_i, ev_test, kTst_s, ev_and, ev_or, ev_not, kAnd_t, kAnd_f, kOr_t, kOr_f, kNot_s, ev_notV, kBl_s, ev_andV, ev_orV, kAndV_t, kAndV_f, kOrV_t, kOrV_f, ev_if, kIfE_t, kIfE_f, ev_yes, ev_ch, kCh_s, kCh2_s, kCh3_s, kCh4_s, kCh5_t, kCh5_f, ev_nil, ev_cons, kC1_s, kC2_s, ev_rev, kRv_s, escs_nil, escs_cons, kX1_s, kX2_s, esc_d, esc_nw, esc_sl, escS_own, escS_val, ev_tup, kT1_s, kT2_s, ev_lst, kL1_s, kL2_s, ev_pno, ev_pzero, ev_pint, kPI_s, ev_sl, kS1_s, kS2_s, kS3_s, kS4_s, ev_lrg, kR1_s, kR2_s, ev_call, kF1_s, kF2_s, kF3_s, ders_nil, ders_cons, kD1_s, kD2_s, rt_d, rt_nw, ev_call1, kG1_s, kG2_s, kG3_s, kG4_s, ow_own, ow_bor, put_own, put_bor, ev_iseq, kI1_s, kI2_t, kI2_l, kI2_f, ev_irg1, kN1_u, kN1_i, ev_irg2, kN2_s, kN3_u, ev_lc, kV1_s, kV2_s, ev_seq, kSeq_n, kSeq_r, kSeq_b, kSeq_c, ev_skip, ev_break, ev_cont, ev_retN, ev_ret, kRt_s, ev_sif, kIf_t, kIf_f, ev_drop, kDr_s, ev_set, kSt_s, kSt2_s, ev_own, kOw_s, ev_unp, kUn_s, kUn2_s, kNx_s, bt_nm, bt_tp, sa_nil, sa_cons, ev_par, kPa_s, sp_nil, sp_own, sp_val, ev_app, kAp_s, kAp2_s, kAp3_s, kAp4_s, ev_sti, kSi_s, kSi2_s, kSi3_s, kSi4_s, kSi5_s, kSi6_s, ev_aug, kAg_s, kAg2_s, val_s, ev_for, kFo_s, loop_nil, loop_cons, kLp_s, kLp_n, kLp_c, kLp_b, kLp_r, ev_while, while_s, kWh_f, kWh_t, kWh_n, kWh_c, kWh_b, kWh_r, lc_nil, lc_cons, kLc1_s, kLc2_t, kLc2_f, kLc3_s, kLc4_s, run0_k, kE0_r, kE0_n, rtOf_d, rtOf_nw, rtOf_sl, rtS_own, run1_k, kE1_r, kE1_n, kE2_s, bor_s, gAdd_i, gAdd_l, gAdd_t, gSub_i, gMul_i, gMod_i, gDiv_i, gPow_i, gEq_i, gEq_s, gEq_b, gCmp_i, gIs_n, gInt_i, gInt_b, gMax_i, gMin_i, gAbs_i, gTup_t, gTup_l, gLen_t, gLen_l, gLen_f, gIx_t, gIx_l, gIx_f, kIx_s, at_0, at_1, at_2, at_3, at_4, at_5, gSl_t, gSl_l,
  List.map_cons, List.map_nil, List.cons_append, List.nil_append, List.append_nil, List.length_cons, List.length_nil, List.replicate_succ, List.replicate_zero, Nat.reduceSub, Nat.reduceAdd, List.getElem?_cons_zero, List.getElem?_cons_succ, List.getElem?_nil, List.set_cons_zero, List.set_cons_succ, List.set_nil, Nat.zero_add, Nat.add_zero,
  List.all_cons, List.all_nil, notSl, Bool.and_true, Bool.true_and, Bool.or_true, Bool.true_or, Bool.and_false, Bool.false_and, Bool.or_false, Bool.false_or, if_true, if_false, Bool.false_eq_true, reduceIte, Bool.not_true, Bool.not_false, Bool.bne_true, Bool.bne_false, decide_true, decide_false, wipeE, backE, backS, nc_0, List.length_map, List.length_append, rg_len, Nat.reduceLeDiff, fd_ix, fi_ix, fi_len, fi_it, dcs, eq_self, Int.reduceEq, Int.reduceLT, Int.reduceLE, Int.reduceAdd, Int.reduceSub, Int.reduceMul, Int.reduceToNat, gIs_c, mkD_n, mkD_s, items, and_true, true_and, and_self, bne_self_eq_false, wt, gIn_t, gIsi_i, gIsi_t, gIsi_s, gIsi_n, gIsi_b, gIsi_l, isi2_c, gEq_n, gEq_l, ev_dk, kDk1_s, kDk2_s, kDk3_s, flatD, eqF_s, eqF_i, eqF_n, List.any_cons, List.any_nil, Rt.o, Option.bind_some, phi0_s, phi1_s, List.reverse_cons, List.reverse_nil, decide_eq_true_eq, kDk1_s, ev_izp, kZ1_s, kZ2_s, *])
/-! ### what the package tells: places -/
def stL (f : Frm) : Std → List Int → List Std
  | s, [] => [s]
  | s, x :: xs => s :: match step f s x with | none => [] | some s' => stL f s' xs
theorem along_stL {f : Frm} : ∀ (xs : List Int) (s t : Std), beh f s xs = some t → alongF f s xs = (stL f s xs).map some ∧ (stL f s xs).length = xs.length + 1
  | [], s, t, h => ⟨rfl, rfl⟩
  | x :: xs, s, t, h => by
    rw [beh_cons] at h
    unfold alongF stL
    cases e : step f s x with
    | none => rw [e] at h; cases h
    | some q =>
      rw [e] at h
      obtain ⟨h1, h2⟩ := along_stL xs q t h
      exact ⟨by dsimp only; rw [h1]; rfl, by dsimp only; rw [List.length_cons, h2]; rfl⟩
theorem us_told {u : Us} : gIn false u.s (.tup [.str "keep", .str "check"]) = some (.d (.bl u.told)) := by cases u <;> rfl
/-! the parts -/
def tagP (f : Frm) (x : Int) : Option Us → Int
  | some u => if u.told then f.base + x else -1
  | none => -1
def partI (f : Frm) : Std → Int → Int
  | .tag, x => tagP f x (useOf f x)
  | .body u _ _, x => if u.told then x else -1
  | _, _ => -1
def partsL (f : Frm) : Std → List Int → List Int
  | _, [] => []
  | s, x :: xs => partI f s x :: match step f s x with | none => [] | some s' => partsL f s' xs
def Std.quiet : Std → Bool
  | .body u _ _ => !u.told
  | .length u => !u.told
  | .second u _ => !u.told
  | _ => true
def bodyQ (b : Int) (ps : List Int) : List Int := (ps.takeWhile fun p => decide (p < b)).filter fun p => decide (p ≠ -1)
theorem bq_nil {b : Int} : bodyQ b [] = [] := rfl
theorem bq_stop {b p : Int} {ps : List Int} (h : b ≤ p) : bodyQ b (p :: ps) = [] := by
  unfold bodyQ; rw [List.takeWhile_cons, if_neg (by simpa using h)]; rfl
theorem bq_no {b : Int} {ps : List Int} (h : 0 < b) : bodyQ b (-1 :: ps) = bodyQ b ps := by
  unfold bodyQ; rw [List.takeWhile_cons, if_pos (by simp; omega), List.filter_cons, if_neg (by simp)]
theorem bq_yes {b p : Int} {ps : List Int} (h0 : 0 ≤ p) (h : p < b) : bodyQ b (p :: ps) = p :: bodyQ b ps := by
  unfold bodyQ; rw [List.takeWhile_cons, if_pos (by simpa using h), List.filter_cons, if_pos (by simp; omega)]
theorem quiet_behB {u : Us} {t : Int} : (behB u t).quiet = true := by cases u <;> rfl
theorem quiet_behM {f : Frm} {k : Nat} : (behM f k).quiet = true := by unfold behM; split <;> rfl
theorem quiet_behL {u : Us} {n : Int} (h : u.told = false) : (behL u n).quiet = true := by
  unfold behL; split
  · simp [Std.quiet, h]
  · exact quiet_behB
theorem parts_cons {f : Frm} {s : Std} {x : Int} {xs : List Int} : partsL f s (x :: xs) = partI f s x :: match step f s x with | none => [] | some s' => partsL f s' xs := rfl
theorem bq_quiet {f : Frm} (hb : 0 < f.base) : ∀ (xs : List Int) (s : Std), (∀ x ∈ xs, 0 ≤ x ∧ x < f.base) → s.quiet = true → bodyQ f.base (partsL f s xs) = []
  | [], s, _, _ => rfl
  | x :: xs, s, hx, hq => by
    have h0 := hx x (by simp)
    have hx' : ∀ z ∈ xs, 0 ≤ z ∧ z < f.base := fun z hz => hx z (by simp [hz])
    have go : ∀ o : Option Std, (∀ s', o = some s' → s'.quiet = true) → bodyQ f.base (-1 :: match o with | none => [] | some s' => partsL f s' xs) = [] := fun o ho => by
      rw [bq_no hb]
      cases o with
      | none => rfl
      | some s' => exact bq_quiet hb xs s' hx' (ho s' rfl)
    rw [parts_cons]
    cases s with
    | tag =>
      show bodyQ f.base (tagP f x (useOf f x) :: match tagS (useOf f x) with | none => [] | some s' => partsL f s' xs) = []
      cases hu : useOf f x with
      | none => exact go none (fun s' e => by cases e)
      | some u =>
        cases ht : u.told with
        | true => unfold tagP; dsimp only; rw [ht, if_pos rfl]; exact bq_stop (by omega)
        | false =>
          unfold tagP; dsimp only; rw [ht, if_neg (fun z => nomatch z)]
          refine go _ fun s' e => ?_
          cases u <;> first | (cases ht; done) | (cases e; rfl)
    | body u n t =>
      have hu : u.told = false := by simpa [Std.quiet] using hq
      unfold partI; dsimp only; rw [hu, if_neg (fun z => nomatch z)]
      refine go _ fun s' e => ?_
      unfold step at e; dsimp only at e
      split at e <;> cases e
      · simp [Std.quiet, hu]
      · exact quiet_behB
    | head k =>
      refine go _ fun s' e => ?_
      unfold step at e; dsimp only at e
      split at e
      · split at e <;> cases e; exact quiet_behM
      · cases e; exact quiet_behM
    | length u =>
      have hu : u.told = false := by simpa [Std.quiet] using hq
      refine go _ fun s' e => ?_
      unfold step firstS at e; dsimp only at e
      split at e
      · cases e
      · split at e <;> cases e
        · exact quiet_behL hu
        · simp [Std.quiet, hu]
    | second u a =>
      have hu : u.told = false := by simpa [Std.quiet] using hq
      refine go _ fun s' e => ?_
      unfold step at e; dsimp only at e
      split at e <;> cases e; exact quiet_behL hu
    | sum t =>
      refine go _ fun s' e => ?_
      unfold step at e; dsimp only at e
      split at e <;> cases e; rfl
    | room => exact go (some .room) fun s' e => by cases e; rfl
    | over => exact go none fun s' e => by cases e
theorem bq_body {f : Frm} (hb : 0 < f.base) {u : Us} (hu : u.told = true) : ∀ (xs : List Int) (n t : Int), 0 < n → (∀ x ∈ xs, 0 ≤ x ∧ x < f.base) → bodyQ f.base (partsL f (.body u n t) xs) = xs.take n.toNat
  | [], n, t, _, _ => by rw [List.take_nil]; rfl
  | x :: xs, n, t, hn, hx => by
    have h0 := hx x (by simp)
    have hx' : ∀ z ∈ xs, 0 ≤ z ∧ z < f.base := fun z hz => hx z (by simp [hz])
    have hp : partI f (.body u n t) x = x := by unfold partI; dsimp only; rw [if_pos hu]
    rw [parts_cons, hp, bq_yes h0.1 h0.2, show n.toNat = (n - 1).toNat + 1 by omega, List.take_succ_cons]
    congr 1
    unfold step; dsimp only
    by_cases h1 : 1 < n
    · rw [if_pos h1]; exact bq_body hb hu xs (n - 1) _ (by omega) hx'
    · rw [if_neg h1]
      dsimp only
      rw [bq_quiet hb xs _ hx' quiet_behB, show (n - 1).toNat = 0 by omega, List.take_zero]
theorem bq_behL {f : Frm} (hb : 0 < f.base) {u : Us} (hu : u.told = true) {xs : List Int} {n : Int} (hn : 0 ≤ n) (hx : ∀ x ∈ xs, 0 ≤ x ∧ x < f.base) : bodyQ f.base (partsL f (behL u n) xs) = xs.take n.toNat := by
  unfold behL
  split
  · exact bq_body hb hu xs n 0 (by omega) hx
  · rw [bq_quiet hb xs _ hx quiet_behB, show n.toNat = 0 by omega, List.take_zero]
theorem both_0 {f : Frm} {a b : Int} (hb : 0 < f.base) (ha : 0 ≤ a) (h : 0 ≤ b) : 0 ≤ bothL f a b := by
  unfold bothL
  split
  · have := Int.mul_nonneg ha (Int.le_of_lt hb); omega
  · have := Int.mul_nonneg h (Int.le_of_lt hb); omega
def widB (f : Frm) (a : Int) : List Int → List Int
  | [] => []
  | b :: zs => zs.take (bothL f a b).toNat
theorem bq_length {f : Frm} (hb : 0 < f.base) {u : Us} (hu : u.told = true) {xs : List Int} {t : Std} (hx : ∀ x ∈ xs, 0 ≤ x ∧ x < f.base) (hr : beh f (.length u) xs = some t) : bodyQ f.base (partsL f (.length u) xs) = bodyA f xs := by
  cases xs with
  | nil => rfl
  | cons a ys =>
    have h0 := hx a (by simp)
    have hx' : ∀ z ∈ ys, 0 ≤ z ∧ z < f.base := fun z hz => hx z (by simp [hz])
    rw [beh_cons] at hr
    rw [parts_cons, show partI f (.length u) a = -1 from rfl, bq_no hb]
    unfold step firstS at hr ⊢
    dsimp only at hr ⊢
    unfold bodyA
    by_cases hm : f.most < leastL f a
    · rw [if_pos hm] at hr; cases hr
    · rw [if_neg hm] at hr ⊢
      have wide : ∀ {t}, beh f (.second u a) ys = some t → bodyQ f.base (partsL f (.second u a) ys) = widB f a ys := fun {t} hr => by
        cases ys with
        | nil => rfl
        | cons b zs =>
          have h1 := hx' b (by simp)
          rw [beh_cons] at hr
          rw [parts_cons, show partI f (.second u a) b = -1 from rfl, bq_no hb]
          unfold step at hr ⊢
          dsimp only at hr ⊢
          by_cases hm2 : f.most < bothL f a b
          · rw [if_pos hm2] at hr; cases hr
          · rw [if_neg hm2]
            exact bq_behL hb hu (both_0 hb h0.1 h1.1) fun z hz => hx' z (by simp [hz])
      cases hw : f.width with
      | one => dsimp only; exact bq_behL hb hu h0.1 hx'
      | high => rw [hw] at hr; dsimp only at hr ⊢; rw [wide hr]; cases ys <;> rfl
      | low => rw [hw] at hr; dsimp only at hr ⊢; rw [wide hr]; cases ys <;> rfl
def tellG (b : Int) : List Int → List Int → List (Int × List Int)
  | p :: ps, x :: xs => if b ≤ p then (x, bodyQ b ps) :: tellG b ps xs else tellG b ps xs
  | _, _ => []
theorem tell_cont {f : Frm} (hb : 0 < f.base) : ∀ (xs : List Int) (s t : Std), (∀ x ∈ xs, 0 ≤ x ∧ x < f.base) → beh f s xs = some t → tellG f.base (partsL f s xs) xs = contA f s xs
  | [], s, t, _, _ => rfl
  | x :: xs, s, t, hx, hr => by
    have h0 := hx x (by simp)
    have hx' : ∀ z ∈ xs, 0 ≤ z ∧ z < f.base := fun z hz => hx z (by simp [hz])
    rw [beh_cons] at hr
    rw [contA_cons, parts_cons]
    cases e : step f s x with
    | none => rw [e] at hr; cases hr
    | some s' =>
      rw [e] at hr
      dsimp only at hr ⊢
      have ih := tell_cont hb xs s' t hx' hr
      have no : ∀ p, p < f.base → cellA f x xs s' = [] → tellG f.base (p :: partsL f s' xs) (x :: xs) = cellA f x xs s' ++ contA f s' xs := fun p hp hc => by
        show (if f.base ≤ p then _ else _) = _
        rw [if_neg (by omega), ih, hc, List.nil_append]
      have no1 : cellA f x xs s' = [] → tellG f.base (-1 :: partsL f s' xs) (x :: xs) = cellA f x xs s' ++ contA f s' xs := no (-1) (by omega)
      cases s with
      | tag =>
        show tellG f.base (tagP f x (useOf f x) :: _) _ = _
        change tagS (useOf f x) = some s' at e
        cases hu : useOf f x with
        | none => rw [hu] at e; cases e
        | some u =>
          rw [hu] at e
          cases ht : u.told with
          | true =>
            have es : s' = .length u := by cases u <;> first | (cases ht; done) | (cases e; rfl)
            subst es
            unfold tagP; dsimp only; rw [ht, if_pos rfl]
            show (if f.base ≤ f.base + x then _ else _) = _
            rw [if_pos (by omega), ih, bq_length hb ht hx' hr]
            unfold cellA; dsimp only; rw [ht, if_pos rfl]; rfl
          | false =>
            unfold tagP; dsimp only; rw [ht, if_neg (fun z => nomatch z)]
            refine no1 ?_
            cases u <;> first | (cases ht; done) | (cases e; rfl)
      | body u n t' =>
        have hc : cellA f x xs s' = [] := by
          unfold step at e; dsimp only at e
          split at e <;> cases e
          · rfl
          · exact cell_behB
        unfold partI; dsimp only
        cases u.told
        · rw [if_neg (fun z => nomatch z)]; exact no1 hc
        · rw [if_pos rfl]; exact no x h0.2 hc
      | head k =>
        refine no1 ?_
        unfold step at e; dsimp only at e
        split at e
        · split at e <;> cases e; exact cell_behM
        · cases e; exact cell_behM
      | length u =>
        refine no1 ?_
        unfold step firstS at e; dsimp only at e
        split at e
        · cases e
        · split at e <;> cases e
          · exact cell_behL
          · rfl
      | second u a =>
        refine no1 ?_
        unfold step at e; dsimp only at e
        split at e <;> cases e; exact cell_behL
      | sum t =>
        refine no1 ?_
        unfold step at e; dsimp only at e
        split at e <;> cases e; rfl
      | room => exact no1 (by cases e; rfl)
      | over => cases e
/-! the places at which a part is begun -/
def begP (b : Int) (P : List Int) (n o : Nat) : List Nat := (List.range' o (n - o)).filter fun k => decide (b ≤ P.getD k 0)
theorem beg_end {b : Int} {P : List Int} {n : Nat} : begP b P n n = [] := by unfold begP; simp
theorem beg_cons {b : Int} {P : List Int} {n o : Nat} (h : o < n) : begP b P n o = if b ≤ P.getD o 0 then o :: begP b P n (o + 1) else begP b P n (o + 1) := by
  unfold begP
  rw [show n - o = (n - (o + 1)) + 1 by omega, List.range'_succ, List.filter_cons]
  by_cases hp : b ≤ P.getD o 0
  · rw [if_pos (by simpa using hp), if_pos hp]
  · rw [if_neg (by simpa using hp), if_neg hp]
def headE (n : Nat) : List Nat → Nat | [] => n | k :: _ => k
theorem head_ge {b : Int} {P : List Int} {n o : Nat} (h : o ≤ n) : o ≤ headE n (begP b P n o) := by
  cases e : begP b P n o with
  | nil => exact h
  | cons k ks =>
    have hk : k ∈ begP b P n o := by rw [e]; simp
    have := List.mem_range'.mp (List.mem_filter.mp hk).1
    show o ≤ k
    omega
theorem head_take {b : Int} {P : List Int} {n : Nat} (hl : P.length = n) : ∀ (m o : Nat), o + m = n → (P.drop o).take (headE n (begP b P n o) - o) = (P.drop o).takeWhile fun p => decide (p < b)
  | 0, o, h => by
    have : o = n := by omega
    subst this
    rw [beg_end, List.drop_eq_nil_of_le (by omega)]; simp
  | m + 1, o, h => by
    have hd : P.drop o = P.getD o 0 :: P.drop (o + 1) := by
      rw [List.drop_eq_getElem_cons (by omega), List.getD_eq_getElem?_getD, List.getElem?_eq_getElem (by omega)]; rfl
    rw [beg_cons (by omega), hd, List.takeWhile_cons]
    by_cases hp : b ≤ P.getD o 0
    · rw [if_pos hp, if_neg (by simpa using hp)]
      show List.take (o - o) _ = _
      rw [Nat.sub_self, List.take_zero]
    · rw [if_neg hp, if_pos (by simpa using hp)]
      have ge := head_ge (b := b) (P := P) (n := n) (o := o + 1) (by omega)
      rw [show headE n (begP b P n (o + 1)) - o = (headE n (begP b P n (o + 1)) - (o + 1)) + 1 by omega, List.take_succ_cons, head_take hl m (o + 1) (by omega)]
def chunkAt (P xs : List Int) (q : Nat × Nat) : Int × List Int := (xs.getD q.1 0, ((P.drop (q.1 + 1)).take (q.2 - (q.1 + 1))).filter fun p => decide (p ≠ -1))
def endsAt (n : Nat) (B : List Nat) : List Nat := B.drop 1 ++ [n]
theorem chunks_tell {b : Int} {P xs : List Int} {n : Nat} (hl : P.length = n) (hx : xs.length = n) : ∀ (m o : Nat), o + m = n → ((begP b P n o).zip (endsAt n (begP b P n o))).map (chunkAt P xs) = tellG b (P.drop o) (xs.drop o)
  | 0, o, h => by
    have : o = n := by omega
    subst this
    rw [beg_end, List.drop_eq_nil_of_le (by omega)]; rfl
  | m + 1, o, h => by
    have hd : P.drop o = P.getD o 0 :: P.drop (o + 1) := by
      rw [List.drop_eq_getElem_cons (by omega), List.getD_eq_getElem?_getD, List.getElem?_eq_getElem (by omega)]; rfl
    have hd2 : xs.drop o = xs.getD o 0 :: xs.drop (o + 1) := by
      rw [List.drop_eq_getElem_cons (by omega), List.getD_eq_getElem?_getD, List.getElem?_eq_getElem (by omega)]; rfl
    have ih := chunks_tell (b := b) hl hx m (o + 1) (by omega)
    have ht := head_take (b := b) hl m (o + 1) (by omega)
    rw [beg_cons (by omega), hd, hd2]
    unfold tellG
    by_cases hp : b ≤ P.getD o 0
    · rw [if_pos hp, if_pos hp, ← ih]
      have hc : chunkAt P xs (o, headE n (begP b P n (o + 1))) = (xs.getD o 0, bodyQ b (P.drop (o + 1))) := by
        unfold chunkAt bodyQ; dsimp only; rw [ht]
      rw [← hc]
      cases begP b P n (o + 1) with
      | nil => rfl
      | cons c cs => rfl
    · rw [if_neg hp, if_neg hp, ← ih]
theorem parts_len {f : Frm} : ∀ (xs : List Int) (s t : Std), beh f s xs = some t → (partsL f s xs).length = xs.length
  | [], s, t, h => rfl
  | x :: xs, s, t, h => by
    rw [beh_cons] at h
    rw [parts_cons]
    cases e : step f s x with
    | none => rw [e] at h; cases h
    | some q => rw [e] at h; dsimp only; rw [List.length_cons, parts_len xs q t h, List.length_cons]
theorem parts_at {f : Frm} : ∀ (xs : List Int) (s t q : Std) (j : Nat), beh f s xs = some t → j < xs.length → beh f s (xs.take j) = some q → (partsL f s xs).getD j 0 = partI f q (xs.getD j 0)
  | [], s, t, q, j, h, hj, hq => by simp at hj
  | x :: xs, s, t, q, 0, h, hj, hq => by
    rw [List.take_zero] at hq
    cases hq; rfl
  | x :: xs, s, t, q, j + 1, h, hj, hq => by
    rw [List.take_succ_cons, beh_cons] at hq
    rw [beh_cons] at h
    rw [parts_cons]
    cases e : step f s x with
    | none => rw [e] at h; cases h
    | some s' =>
      rw [e] at h hq
      dsimp only
      rw [List.getD_cons_succ, List.getD_cons_succ]
      exact parts_at xs s' t q j h (by simpa using hj) hq
end Dv

set_option Elab.async false
set_option linter.all false
set_option maxRecDepth 100000
set_option maxHeartbeats 4000000
namespace Dv
open PySem PySem.Spec PyProof.Rows L2
local macro_rules | `(tactic| walk_at "ev") => `(tactic| simp only [kRet_s, ev_name, ev_c, nm_val, nm_own, nm_bor, der_d, der_nw, der_sl, sl_own, sl_bor, sl_val, ev_bin, kBin_s, kBin2_s, kBin3_s, kBin4_s, ev_b1, kOne_s, kOne2_s, kRetD_s, ev_un, kUn1_s, kUn12_s, gNeg_i, ev_test, kTst_s, ev_and, ev_or, ev_not, kAnd_t, kAnd_f, kOr_t, kOr_f, kNot_s, ev_notV, kBl_s, ev_andV, ev_orV, kAndV_t, kAndV_f, kOrV_t, kOrV_f, ev_if, kIfE_t, kIfE_f, ev_yes, ev_ch, kCh_s, kCh2_s, kCh3_s, kCh4_s, kCh5_t, kCh5_f, ev_nil, ev_cons, kC1_s, kC2_s, ev_rev, kRv_s, escs_nil, escs_cons, kX1_s, kX2_s, esc_d, esc_nw, esc_sl, escS_own, escS_val, ev_tup, kT1_s, kT2_s, ev_lst, kL1_s, kL2_s, ev_pno, ev_pzero, ev_pint, kPI_s, ev_sl, kS1_s, kS2_s, kS3_s, kS4_s, ev_lrg, kR1_s, kR2_s, ev_call, kF1_s, kF2_s, kF3_s, ders_nil, ders_cons, kD1_s, kD2_s, rt_d, rt_nw, ev_call1, kG1_s, kG2_s, kG3_s, kG4_s, ow_own, ow_bor, put_own, put_bor, ev_iseq, kI1_s, kI2_t, kI2_l, kI2_f, ev_irg1, kN1_u, kN1_i, ev_irg2, kN2_s, kN3_u, ev_lc, kV1_s, kV2_s, ev_seq, kSeq_n, kSeq_r, kSeq_b, kSeq_c, ev_skip, ev_break, ev_cont, ev_retN, ev_ret, kRt_s, ev_sif, kIf_t, kIf_f, ev_drop, kDr_s, ev_set, kSt_s, kSt2_s, ev_own, kOw_s, ev_unp, kUn_s, kUn2_s, kNx_s, bt_nm, bt_tp, sa_nil, sa_cons, ev_par, kPa_s, sp_nil, sp_own, sp_val, ev_app, kAp_s, kAp2_s, kAp3_s, kAp4_s, ev_sti, kSi_s, kSi2_s, kSi3_s, kSi4_s, kSi5_s, kSi6_s, ev_aug, kAg_s, kAg2_s, val_s, ev_for, kFo_s, loop_nil, loop_cons, kLp_s, kLp_n, kLp_c, kLp_b, kLp_r, ev_while, while_s, kWh_f, kWh_t, kWh_n, kWh_c, kWh_b, kWh_r, lc_nil, lc_cons, kLc1_s, kLc2_t, kLc2_f, kLc3_s, kLc4_s, run0_k, kE0_r, kE0_n, rtOf_d, rtOf_nw, rtOf_sl, rtS_own, run1_k, kE1_r, kE1_n, kE2_s, bor_s, gAdd_i, gAdd_l, gAdd_t, gSub_i, gMul_i, gMod_i, gDiv_i, gPow_i, gEq_i, gEq_s, gEq_b, gCmp_i, gIs_n, gInt_i, gInt_b, gMax_i, gMin_i, gAbs_i, gTup_t, gTup_l, gLen_t, gLen_l, gLen_f, gIx_t, gIx_l, gIx_f, kIx_s, at_0, at_1, at_2, at_3, at_4, at_5, gSl_t, gSl_l,
  List.map_cons, List.map_nil, List.cons_append, List.nil_append, List.append_nil, List.length_cons, List.length_nil, List.replicate_succ, List.replicate_zero, Nat.reduceSub, Nat.reduceAdd, List.getElem?_cons_zero, List.getElem?_cons_succ, List.getElem?_nil, List.set_cons_zero, List.set_cons_succ, List.set_nil, Nat.zero_add, Nat.add_zero,
  List.all_cons, List.all_nil, notSl, Bool.and_true, Bool.true_and, Bool.or_true, Bool.true_or, Bool.and_false, Bool.false_and, Bool.or_false, Bool.false_or, if_true, if_false, Bool.false_eq_true, reduceIte, Bool.not_true, Bool.not_false, Bool.bne_true, Bool.bne_false, decide_true, decide_false, wipeE, backE, backS, nc_0, List.length_map, List.length_append, rg_len, Nat.reduceLeDiff, fd_ix, fi_ix, fi_len, fi_it, dcs, eq_self, Int.reduceEq, Int.reduceLT, Int.reduceLE, Int.reduceAdd, Int.reduceSub, Int.reduceMul, Int.reduceToNat, gIs_c, mkD_n, mkD_s, items, and_true, true_and, and_self, bne_self_eq_false, wt, gIn_t, gIsi_i, gIsi_t, gIsi_s, gIsi_n, gIsi_b, gIsi_l, isi2_c, gEq_n, gEq_l, ev_dk, kDk1_s, kDk2_s, kDk3_s, flatD, eqF_s, eqF_i, eqF_n, List.any_cons, List.any_nil, Rt.o, Option.bind_some, phi0_s, phi1_s, List.reverse_cons, List.reverse_nil, decide_eq_true_eq, kDk1_s, ev_izp, kZ1_s, kZ2_s, *])
/-! ### what the package tells -/
theorem stL_at {f : Frm} : ∀ (xs : List Int) (s t q : Std) (j : Nat), beh f s xs = some t → j ≤ xs.length → beh f s (xs.take j) = some q → (stL f s xs)[j]? = some q
  | [], s, t, q, j, h, hj, hq => by
    have : j = 0 := by simpa using hj
    subst this
    cases hq; rfl
  | x :: xs, s, t, q, 0, h, hj, hq => by
    rw [List.take_zero] at hq
    cases hq; rfl
  | x :: xs, s, t, q, j + 1, h, hj, hq => by
    rw [List.take_succ_cons, beh_cons] at hq
    rw [beh_cons] at h
    unfold stL
    cases e : step f s x with
    | none => rw [e] at h; cases h
    | some s' =>
      rw [e] at h hq
      dsimp only
      rw [List.getElem?_cons_succ]
      exact stL_at xs s' t q j h (by simpa using hj) hq
end Dv

set_option Elab.async false
set_option linter.all false
set_option maxRecDepth 100000
set_option maxHeartbeats 4000000
namespace Dv
open PySem PySem.Spec PyProof.Rows L2
local macro_rules | `(tactic| walk_at "ev") => `(tactic| simp only [kRet_s, ev_name, ev_c, nm_val, nm_own, nm_bor, der_d, der_nw, der_sl, sl_own, sl_bor, sl_val, ev_bin, kBin_s, kBin2_s, kBin3_s, kBin4_s, ev_b1, kOne_s, kOne2_s, kRetD_s, ev_un, kUn1_s, kUn12_s, gNeg_i, ev_test, kTst_s, ev_and, ev_or, ev_not, kAnd_t, kAnd_f, kOr_t, kOr_f, kNot_s, ev_notV, kBl_s, ev_andV, ev_orV, kAndV_t, kAndV_f, kOrV_t, kOrV_f, ev_if, kIfE_t, kIfE_f, ev_yes, ev_ch, kCh_s, kCh2_s, kCh3_s, kCh4_s, kCh5_t, kCh5_f, ev_nil, ev_cons, kC1_s, kC2_s, ev_rev, kRv_s, escs_nil, escs_cons, kX1_s, kX2_s, esc_d, esc_nw, esc_sl, escS_own, escS_val, ev_tup, kT1_s, kT2_s, ev_lst, kL1_s, kL2_s, ev_pno, ev_pzero, ev_pint, kPI_s, ev_sl, kS1_s, kS2_s, kS3_s, kS4_s, ev_lrg, kR1_s, kR2_s, ev_call, kF1_s, kF2_s, kF3_s, ders_nil, ders_cons, kD1_s, kD2_s, rt_d, rt_nw, ev_call1, kG1_s, kG2_s, kG3_s, kG4_s, ow_own, ow_bor, put_own, put_bor, ev_iseq, kI1_s, kI2_t, kI2_l, kI2_f, ev_irg1, kN1_u, kN1_i, ev_irg2, kN2_s, kN3_u, ev_lc, kV1_s, kV2_s, ev_seq, kSeq_n, kSeq_r, kSeq_b, kSeq_c, ev_skip, ev_break, ev_cont, ev_retN, ev_ret, kRt_s, ev_sif, kIf_t, kIf_f, ev_drop, kDr_s, ev_set, kSt_s, kSt2_s, ev_own, kOw_s, ev_unp, kUn_s, kUn2_s, kNx_s, bt_nm, bt_tp, sa_nil, sa_cons, ev_par, kPa_s, sp_nil, sp_own, sp_val, ev_app, kAp_s, kAp2_s, kAp3_s, kAp4_s, ev_sti, kSi_s, kSi2_s, kSi3_s, kSi4_s, kSi5_s, kSi6_s, ev_aug, kAg_s, kAg2_s, val_s, ev_for, kFo_s, loop_nil, loop_cons, kLp_s, kLp_n, kLp_c, kLp_b, kLp_r, ev_while, while_s, kWh_f, kWh_t, kWh_n, kWh_c, kWh_b, kWh_r, lc_nil, lc_cons, kLc1_s, kLc2_t, kLc2_f, kLc3_s, kLc4_s, run0_k, kE0_r, kE0_n, rtOf_d, rtOf_nw, rtOf_sl, rtS_own, run1_k, kE1_r, kE1_n, kE2_s, bor_s, gAdd_i, gAdd_l, gAdd_t, gSub_i, gMul_i, gMod_i, gDiv_i, gPow_i, gEq_i, gEq_s, gEq_b, gCmp_i, gIs_n, gInt_i, gInt_b, gMax_i, gMin_i, gAbs_i, gTup_t, gTup_l, gLen_t, gLen_l, gLen_f, gIx_t, gIx_l, gIx_f, kIx_s, at_0, at_1, at_2, at_3, at_4, at_5, gSl_t, gSl_l,
  List.map_cons, List.map_nil, List.cons_append, List.nil_append, List.append_nil, List.length_cons, List.length_nil, List.replicate_succ, List.replicate_zero, Nat.reduceSub, Nat.reduceAdd, List.getElem?_cons_zero, List.getElem?_cons_succ, List.getElem?_nil, List.set_cons_zero, List.set_cons_succ, List.set_nil, Nat.zero_add, Nat.add_zero,
  List.all_cons, List.all_nil, notSl, Bool.and_true, Bool.true_and, Bool.or_true, Bool.true_or, Bool.and_false, Bool.false_and, Bool.or_false, Bool.false_or, if_true, if_false, Bool.false_eq_true, reduceIte, Bool.not_true, Bool.not_false, Bool.bne_true, Bool.bne_false, decide_true, decide_false, wipeE, backE, backS, nc_0, List.length_map, List.length_append, rg_len, Nat.reduceLeDiff, fd_ix, fi_ix, fi_len, fi_it, dcs, eq_self, Int.reduceEq, Int.reduceLT, Int.reduceLE, Int.reduceAdd, Int.reduceSub, Int.reduceMul, Int.reduceToNat, gIs_c, mkD_n, mkD_s, items, and_true, true_and, and_self, bne_self_eq_false, wt, gIn_t, gIsi_i, gIsi_t, gIsi_s, gIsi_n, gIsi_b, gIsi_l, isi2_c, gEq_n, gEq_l, ev_dk, kDk1_s, kDk2_s, kDk3_s, flatD, eqF_s, eqF_i, eqF_n, List.any_cons, List.any_nil, Rt.o, Option.bind_some, phi0_s, phi1_s, List.reverse_cons, List.reverse_nil, decide_eq_true_eq, kDk1_s, ev_izp, kZ1_s, kZ2_s, *])
/-! ### read -/
theorem at_A {f : Frm} {xs : List Int} {s t q : Std} {j : Nat} (hr : beh f s xs = some t) (hj : j ≤ xs.length) (hq : beh f s (xs.take j) = some q) : atI ((alongF f s xs).map optD) (j : Int) = some q.d := by
  rw [(along_stL xs s t hr).1, List.map_map]
  exact at_map (g := optD ∘ some) (by omega) (by rw [show ((j : Int)).toNat = j by omega]; exact stL_at xs s t q j hr hj hq)
theorem beh_take {f : Frm} {xs : List Int} {s t : Std} (hr : beh f s xs = some t) (j : Nat) : ∃ q, beh f s (xs.take j) = some q := by
  rw [← List.take_append_drop j xs, beh_app] at hr
  cases h : beh f s (xs.take j) with
  | none => rw [h] at hr; cases hr
  | some q => exact ⟨q, rfl⟩
theorem told_tag {f : Frm} {x : Int} : gIn false (useD (useOf f x)) dc_TOLD_USES = some (.d (.bl (match useOf f x with | some u => u.told | none => false))) := by
  cases useOf f x with
  | none => rfl
  | some u => exact us_told
theorem tp_ok {f : Frm} {s : Std} {x : Int} : phi_told_part [f.d, s.d, .int x] = some (.d (.int (partI f s x))) := by
  have h1 := eq_tag s
  have hix := std_ix (s := s)
  unfold phi_told_part g_told_part
  cases s with
  | tag =>
    have hu := use_ok (f := f) (s := x)
    have ht := told_tag (f := f) (x := x)
    have hn : dc_NOTHING = .int (-1) := rfl
    unfold partI tagP
    dsimp only [Std.isTag, Std.name] at *
    cases he : useOf f x with
    | none =>
      rw [he] at ht hu
      dsimp only at *
      clear he
      walk_at "ev"
    | some u =>
      rw [he] at ht hu
      dsimp only at *
      clear he
      cases hq : u.told with
      | true => rw [hq] at ht; clear hq; walk_at "ev"
      | false => rw [hq] at ht; clear hq; walk_at "ev"
  | body u n t =>
    have e2 : gIx (Std.body u n t).d (.int 1) = some (.d u.s) := rfl
    have e3 : gIn false u.s dc_TOLD_USES = some (.d (.bl u.told)) := us_told
    have hn : dc_NOTHING = .int (-1) := rfl
    unfold partI
    dsimp only [Std.isTag, Std.name] at *
    cases hq : u.told with
    | true => rw [hq] at e3; clear hq; walk_at "ev"
    | false => rw [hq] at e3; clear hq; walk_at "ev"
  | head k => have hn : dc_NOTHING = .int (-1) := rfl; unfold partI; dsimp only [Std.isTag, Std.name] at *; walk_at "ev"
  | length u => have hn : dc_NOTHING = .int (-1) := rfl; unfold partI; dsimp only [Std.isTag, Std.name] at *; walk_at "ev"
  | second u a => have hn : dc_NOTHING = .int (-1) := rfl; unfold partI; dsimp only [Std.isTag, Std.name] at *; walk_at "ev"
  | sum t => have hn : dc_NOTHING = .int (-1) := rfl; unfold partI; dsimp only [Std.isTag, Std.name] at *; walk_at "ev"
  | room => have hn : dc_NOTHING = .int (-1) := rfl; unfold partI; dsimp only [Std.isTag, Std.name] at *; walk_at "ev"
  | over => have hn : dc_NOTHING = .int (-1) := rfl; unfold partI; dsimp only [Std.isTag, Std.name] at *; walk_at "ev"
abbrev boF : FT := (fTest (fBin (gEq true) (fName 1) (fC dc_NOTHING)))
theorem bo_lc {e0 : Sl} : ∀ (ps : List Int) (acc : List D), acc.length + ps.length ≤ 16777216 →
    lcD (.nm 1) boF (fName 1) [1] (ps.map D.int) [e0, .un] acc = some (acc ++ (ps.filter fun p => decide (p ≠ -1)).map D.int, [e0, .un])
  | [], acc, _ => by rw [List.map_nil, lc_nil, List.filter_nil, List.map_nil, List.append_nil]
  | p :: ps, acc, hl => by
    rw [List.length_cons] at hl
    have hla : acc.length < 16777216 := by omega
    have hn : dc_NOTHING = .int (-1) := rfl
    by_cases hp : p = -1
    · have ih := bo_lc (e0 := e0) ps acc (by omega)
      rw [List.filter_cons, if_neg (by simpa using hp), List.map_cons, ← ih]
      subst hp
      clear ih hl
      walk_at "ev"
    · have ih := bo_lc (e0 := e0) ps (acc ++ [.int p]) (by rw [List.length_append, List.length_singleton]; omega)
      rw [List.filter_cons, if_pos (by simpa using hp), List.map_cons, List.map_cons, show acc ++ D.int p :: List.map D.int (ps.filter fun p => decide (p ≠ -1)) = (acc ++ [.int p]) ++ List.map D.int (ps.filter fun p => decide (p ≠ -1)) by simp, ← ih]
      have hq : (p == -1) = false := by simpa using hp
      have hq2 : decide (p = -1) = false := by simpa using hp
      clear ih hl
      walk_at "ev"
theorem bo_ok {ps : List Int} (hl : ps.length ≤ 16777216) : phi__body_of [.lst (ps.map D.int)] = some (.d (fileD (ps.filter fun p => decide (p ≠ -1)))) := by
  have h := bo_lc (e0 := .val (.lst (ps.map D.int))) ps [] (by simpa using hl)
  rw [List.nil_append] at h
  have hf : fileD (ps.filter fun p => decide (p ≠ -1)) = .tup ((ps.filter fun p => decide (p ≠ -1)).map D.int) := rfl
  have h2 : (ps.filter fun p => decide (p ≠ -1)).length ≤ 16777216 := Nat.le_trans (List.length_filter_le _ _) hl
  rw [hf]
  unfold phi__body_of g__body_of
  walk_at "ev"
end Dv

set_option Elab.async false
set_option linter.all false
set_option maxRecDepth 100000
set_option maxHeartbeats 4000000
namespace Dv
open PySem PySem.Spec PyProof.Rows L2
local macro_rules | `(tactic| walk_at "ev") => `(tactic| simp only [kRet_s, ev_name, ev_c, nm_val, nm_own, nm_bor, der_d, der_nw, der_sl, sl_own, sl_bor, sl_val, ev_bin, kBin_s, kBin2_s, kBin3_s, kBin4_s, ev_b1, kOne_s, kOne2_s, kRetD_s, ev_un, kUn1_s, kUn12_s, gNeg_i, ev_test, kTst_s, ev_and, ev_or, ev_not, kAnd_t, kAnd_f, kOr_t, kOr_f, kNot_s, ev_notV, kBl_s, ev_andV, ev_orV, kAndV_t, kAndV_f, kOrV_t, kOrV_f, ev_if, kIfE_t, kIfE_f, ev_yes, ev_ch, kCh_s, kCh2_s, kCh3_s, kCh4_s, kCh5_t, kCh5_f, ev_nil, ev_cons, kC1_s, kC2_s, ev_rev, kRv_s, escs_nil, escs_cons, kX1_s, kX2_s, esc_d, esc_nw, esc_sl, escS_own, escS_val, ev_tup, kT1_s, kT2_s, ev_lst, kL1_s, kL2_s, ev_pno, ev_pzero, ev_pint, kPI_s, ev_sl, kS1_s, kS2_s, kS3_s, kS4_s, ev_lrg, kR1_s, kR2_s, ev_call, kF1_s, kF2_s, kF3_s, ders_nil, ders_cons, kD1_s, kD2_s, rt_d, rt_nw, ev_call1, kG1_s, kG2_s, kG3_s, kG4_s, ow_own, ow_bor, put_own, put_bor, ev_iseq, kI1_s, kI2_t, kI2_l, kI2_f, ev_irg1, kN1_u, kN1_i, ev_irg2, kN2_s, kN3_u, ev_lc, kV1_s, kV2_s, ev_seq, kSeq_n, kSeq_r, kSeq_b, kSeq_c, ev_skip, ev_break, ev_cont, ev_retN, ev_ret, kRt_s, ev_sif, kIf_t, kIf_f, ev_drop, kDr_s, ev_set, kSt_s, kSt2_s, ev_own, kOw_s, ev_unp, kUn_s, kUn2_s, kNx_s, bt_nm, bt_tp, sa_nil, sa_cons, ev_par, kPa_s, sp_nil, sp_own, sp_val, ev_app, kAp_s, kAp2_s, kAp3_s, kAp4_s, ev_sti, kSi_s, kSi2_s, kSi3_s, kSi4_s, kSi5_s, kSi6_s, ev_aug, kAg_s, kAg2_s, val_s, ev_for, kFo_s, loop_nil, loop_cons, kLp_s, kLp_n, kLp_c, kLp_b, kLp_r, ev_while, while_s, kWh_f, kWh_t, kWh_n, kWh_c, kWh_b, kWh_r, lc_nil, lc_cons, kLc1_s, kLc2_t, kLc2_f, kLc3_s, kLc4_s, run0_k, kE0_r, kE0_n, rtOf_d, rtOf_nw, rtOf_sl, rtS_own, run1_k, kE1_r, kE1_n, kE2_s, bor_s, gAdd_i, gAdd_l, gAdd_t, gSub_i, gMul_i, gMod_i, gDiv_i, gPow_i, gEq_i, gEq_s, gEq_b, gCmp_i, gIs_n, gInt_i, gInt_b, gMax_i, gMin_i, gAbs_i, gTup_t, gTup_l, gLen_t, gLen_l, gLen_f, gIx_t, gIx_l, gIx_f, kIx_s, at_0, at_1, at_2, at_3, at_4, at_5, gSl_t, gSl_l,
  List.map_cons, List.map_nil, List.cons_append, List.nil_append, List.append_nil, List.length_cons, List.length_nil, List.replicate_succ, List.replicate_zero, Nat.reduceSub, Nat.reduceAdd, List.getElem?_cons_zero, List.getElem?_cons_succ, List.getElem?_nil, List.set_cons_zero, List.set_cons_succ, List.set_nil, Nat.zero_add, Nat.add_zero,
  List.all_cons, List.all_nil, notSl, Bool.and_true, Bool.true_and, Bool.or_true, Bool.true_or, Bool.and_false, Bool.false_and, Bool.or_false, Bool.false_or, if_true, if_false, Bool.false_eq_true, reduceIte, Bool.not_true, Bool.not_false, Bool.bne_true, Bool.bne_false, decide_true, decide_false, wipeE, backE, backS, nc_0, List.length_map, List.length_append, rg_len, Nat.reduceLeDiff, fd_ix, fi_ix, fi_len, fi_it, dcs, eq_self, Int.reduceEq, Int.reduceLT, Int.reduceLE, Int.reduceAdd, Int.reduceSub, Int.reduceMul, Int.reduceToNat, gIs_c, mkD_n, mkD_s, items, and_true, true_and, and_self, bne_self_eq_false, wt, gIn_t, gIsi_i, gIsi_t, gIsi_s, gIsi_n, gIsi_b, gIsi_l, isi2_c, gEq_n, gEq_l, ev_dk, kDk1_s, kDk2_s, kDk3_s, flatD, eqF_s, eqF_i, eqF_n, List.any_cons, List.any_nil, Rt.o, Option.bind_some, phi0_s, phi1_s, List.reverse_cons, List.reverse_nil, decide_eq_true_eq, kDk1_s, ev_izp, kZ1_s, kZ2_s, *])
/-! ### read, by its three lists -/
abbrev tpE : FE := (fCall phi_told_part (aCons (fName 0) (aCons (fBin gIx (fName 2) (fName 6)) (aCons (fBin gIx (fName 1) (fName 6)) aNil))))
abbrev bgT : FT := (fTest (fBin (gCmp fun i j => decide (j ≤ i)) (fBin gIx (fName 3) (fName 6)) (fBin gIx (fName 0) (fC (.int 0)))))
abbrev zpE : FE := (fTup (aCons (fBin gIx (fName 1) (fName 7)) (aCons (fCall phi__body_of (aCons (fSl (fName 3) (pInt (fBin gAdd (fName 7) (fC (.int 1)))) (pInt (fName 8))) aNil)) aNil)))
theorem at_int {xs : List Int} {k : Nat} (h : k < xs.length) : atI (xs.map D.int) (k : Int) = some (.int (xs.getD k 0)) :=
  at_map (by omega) (by rw [show ((k : Int)).toNat = k by omega, List.getD_eq_getElem?_getD, List.getElem?_eq_getElem h]; rfl)
theorem ta_lc1 {f : Frm} {xs : List Int} {s t : Std} (hr : beh f s xs = some t) {e3 e4 e5 e7 e8 : Sl} : ∀ (ks : List Nat) (acc : List D), (∀ k ∈ ks, k < xs.length) → acc.length + ks.length ≤ 16777216 →
    lcD (.nm 6) fYes tpE [6] (ks.map fun i : Nat => D.int (i : Int)) [.val f.d, .val (fileD xs), .val (.lst ((alongF f s xs).map optD)), e3, e4, e5, .un, e7, e8] acc = some (acc ++ ks.map fun k => D.int ((partsL f s xs).getD k 0), [.val f.d, .val (fileD xs), .val (.lst ((alongF f s xs).map optD)), e3, e4, e5, .un, e7, e8])
  | [], acc, _, _ => by rw [List.map_nil, lc_nil, List.map_nil, List.append_nil]
  | k :: ks, acc, hk, hl => by
    rw [List.length_cons] at hl
    have hk1 := hk k (by simp)
    obtain ⟨q, hq⟩ := beh_take hr k
    have ha := at_A hr (by omega) hq
    have hg := at_int (xs := xs) hk1
    have hp := parts_at xs s t q k hr hk1 hq
    have hf := tp_ok (f := f) (s := q) (x := xs.getD k 0)
    rw [← hp] at hf
    have hla : acc.length < 16777216 := by omega
    have ih := ta_lc1 hr (e3 := e3) (e4 := e4) (e5 := e5) (e7 := e7) (e8 := e8) ks (acc ++ [.int ((partsL f s xs).getD k 0)]) (fun j hj => hk j (by simp [hj])) (by rw [List.length_append, List.length_singleton]; omega)
    rw [List.map_cons, List.map_cons, show acc ++ D.int ((partsL f s xs).getD k 0) :: ks.map (fun k => D.int ((partsL f s xs).getD k 0)) = (acc ++ [.int ((partsL f s xs).getD k 0)]) ++ ks.map (fun k => D.int ((partsL f s xs).getD k 0)) by simp, ← ih]
    clear ih hp hq hk hl hk1 hr
    generalize (partsL f s xs).getD k 0 = v at *
    walk_at "ev"
theorem ta_lc2 {f : Frm} {P : List Int} {e1 e2 e4 e5 e7 e8 : Sl} : ∀ (ks : List Nat) (acc : List D), (∀ k ∈ ks, k < P.length) → acc.length + ks.length ≤ 16777216 →
    lcD (.nm 6) bgT (fName 6) [6] (ks.map fun i : Nat => D.int (i : Int)) [.val f.d, e1, e2, .val (.lst (P.map D.int)), e4, e5, .un, e7, e8] acc = some (acc ++ (ks.filter fun k => decide (f.base ≤ P.getD k 0)).map fun i : Nat => D.int (i : Int), [.val f.d, e1, e2, .val (.lst (P.map D.int)), e4, e5, .un, e7, e8])
  | [], acc, _, _ => by rw [List.map_nil, lc_nil, List.filter_nil, List.map_nil, List.append_nil]
  | k :: ks, acc, hk, hl => by
    rw [List.length_cons] at hl
    have hk1 := hk k (by simp)
    have hg := at_int (xs := P) hk1
    have hla : acc.length < 16777216 := by omega
    by_cases hp : f.base ≤ P.getD k 0
    · have ih := ta_lc2 (f := f) (P := P) (e1 := e1) (e2 := e2) (e4 := e4) (e5 := e5) (e7 := e7) (e8 := e8) ks (acc ++ [.int k]) (fun j hj => hk j (by simp [hj])) (by rw [List.length_append, List.length_singleton]; omega)
      rw [List.filter_cons, if_pos (by simpa using hp), List.map_cons, List.map_cons, show acc ++ D.int (k : Int) :: (ks.filter fun k => decide (f.base ≤ P.getD k 0)).map (fun i : Nat => D.int (i : Int)) = (acc ++ [.int k]) ++ (ks.filter fun k => decide (f.base ≤ P.getD k 0)).map (fun i : Nat => D.int (i : Int)) by simp, ← ih]
      have hd : decide (f.base ≤ P.getD k 0) = true := by simpa using hp
      clear ih hk hl hk1
      generalize P.getD k 0 = v at *
      walk_at "ev"
    · have ih := ta_lc2 (f := f) (P := P) (e1 := e1) (e2 := e2) (e4 := e4) (e5 := e5) (e7 := e7) (e8 := e8) ks acc (fun j hj => hk j (by simp [hj])) (by omega)
      rw [List.filter_cons, if_neg (by simpa using hp), List.map_cons, ← ih]
      have hd : decide (f.base ≤ P.getD k 0) = false := by simpa using hp
      clear ih hk hl hk1
      generalize P.getD k 0 = v at *
      walk_at "ev"
def prD (q : Nat × Nat) : D := .tup [.int (q.1 : Int), .int (q.2 : Int)]
theorem pr_bind {q : Nat × Nat} {ρ : Ev} {i j : Nat} : bindT (.tp [i, j]) (prD q) ρ = setAll [i, j] [.int (q.1 : Int), .int (q.2 : Int)] ρ := rfl
theorem ta_lc3 {P xs : List Int} {e0 e2 e4 e5 e6 : Sl} (hP : P.length ≤ 900000) : ∀ (qs : List (Nat × Nat)) (acc : List D), (∀ q ∈ qs, q.1 + 1 ≤ q.2 ∧ q.2 ≤ xs.length) → acc.length + qs.length ≤ 16777216 →
    lcD (.tp [7, 8]) fYes zpE [7, 8] (qs.map prD) [e0, .val (fileD xs), e2, .val (.lst (P.map D.int)), e4, e5, e6, .un, .un] acc = some (acc ++ (qs.map (chunkAt P xs)).map ctD, [e0, .val (fileD xs), e2, .val (.lst (P.map D.int)), e4, e5, e6, .un, .un])
  | [], acc, _, _ => by rw [List.map_nil, lc_nil, List.map_nil, List.map_nil, List.append_nil]
  | q :: qs, acc, hk, hl => by
    rw [List.length_cons] at hl
    obtain ⟨hk1, hk2⟩ := hk q (by simp)
    have hg := at_int (xs := xs) (k := q.1) (by omega)
    have hla : acc.length < 16777216 := by omega
    have ih := ta_lc3 (xs := xs) (e0 := e0) (e2 := e2) (e4 := e4) (e5 := e5) (e6 := e6) hP qs (acc ++ [ctD (chunkAt P xs q)]) (fun j hj => hk j (by simp [hj])) (by rw [List.length_append, List.length_singleton]; omega)
    have hs : gSl (.lst (P.map D.int)) (some ((q.1 : Int) + 1)) (some (q.2 : Int)) = some (.nw (((P.drop (q.1 + 1)).take (q.2 - (q.1 + 1))).map D.int)) := by
      rw [gSl_l, cut_map (by omega) (by omega), show ((q.1 : Int) + 1).toNat = q.1 + 1 by omega, show ((q.2 : Int) - ((q.1 : Int) + 1)).toNat = q.2 - (q.1 + 1) by omega]
    have hbo := bo_ok (ps := (P.drop (q.1 + 1)).take (q.2 - (q.1 + 1))) (by rw [List.length_take, List.length_drop]; omega)
    rw [List.map_cons, List.map_cons, List.map_cons, show ∀ r, acc ++ ctD (chunkAt P xs q) :: r = (acc ++ [ctD (chunkAt P xs q)]) ++ r from fun r => by simp, ← ih]
    have hc : ctD (chunkAt P xs q) = .tup [.int (xs.getD q.1 0), fileD (((P.drop (q.1 + 1)).take (q.2 - (q.1 + 1))).filter fun p => decide (p ≠ -1))] := rfl
    have hb := fun ρ => pr_bind (q := q) (ρ := ρ) (i := 7) (j := 8)
    rw [hc]
    clear ih hk hl hk1 hk2 hc
    generalize fileD (((P.drop (q.1 + 1)).take (q.2 - (q.1 + 1))).filter fun p => decide (p ≠ -1)) = w at *
    generalize ((P.drop (q.1 + 1)).take (q.2 - (q.1 + 1))).map D.int = z at *
    generalize xs.getD q.1 0 = y at *
    walk_at "ev"
theorem zip_prD : ∀ (xs ys : List Nat), zipD (xs.map fun i : Nat => D.int (i : Int)) (ys.map fun i : Nat => D.int (i : Int)) = (xs.zip ys).map prD
  | [], ys => by simp [zipD]
  | x :: xs, [] => by simp [zipD]
  | x :: xs, y :: ys => by
    have ih := zip_prD xs ys
    unfold zipD at ih ⊢
    simp only [List.map_cons, List.zipWith_cons_cons, List.zip_cons_cons, ih]
    rfl
theorem head_le {b : Int} {P : List Int} {n o : Nat} (h : o ≤ n) : headE n (begP b P n o) ≤ n := by
  cases e : begP b P n o with
  | nil => exact Nat.le_refl _
  | cons k ks =>
    have hk : k ∈ begP b P n o := by rw [e]; simp
    have := List.mem_range'.mp (List.mem_filter.mp hk).1
    show k ≤ n
    omega
theorem zip_in {b : Int} {P : List Int} {n : Nat} : ∀ (m o : Nat), o + m = n → ∀ q ∈ (begP b P n o).zip (endsAt n (begP b P n o)), q.1 + 1 ≤ q.2 ∧ q.2 ≤ n
  | 0, o, h => by
    have : o = n := by omega
    subst this
    rw [beg_end]; intro q hq; cases hq
  | m + 1, o, h => by
    have ih := zip_in (b := b) (P := P) (n := n) m (o + 1) (by omega)
    have g1 := head_ge (b := b) (P := P) (n := n) (o := o + 1) (by omega)
    have g2 := head_le (b := b) (P := P) (n := n) (o := o + 1) (by omega)
    rw [beg_cons (b := b) (P := P) (n := n) (o := o) (by omega)]
    split
    · cases e : begP b P n (o + 1) with
      | nil =>
        rw [e] at g1 g2
        intro q hq
        have : q = (o, n) := by simpa [endsAt] using hq
        subst this
        exact ⟨by have := g1; unfold headE at this; omega, Nat.le_refl _⟩
      | cons c cs =>
        rw [e] at g1 g2 ih
        intro q hq
        rcases List.mem_cons.mp (show q ∈ (o, c) :: (c :: cs).zip (endsAt n (c :: cs)) from hq) with rfl | hq
        · exact ⟨g1, g2⟩
        · exact ih q hq
    · exact ih
theorem zip_len {n : Nat} {B : List Nat} : (B.zip (endsAt n B)).length ≤ B.length := by rw [List.length_zip]; omega
theorem beg_len {b : Int} {P : List Int} {n o : Nat} : (begP b P n o).length ≤ n := by
  unfold begP
  have := List.length_filter_le (fun k => decide (b ≤ P.getD k 0)) (List.range' o (n - o))
  rw [List.length_range'] at this; omega
theorem map_range {P : List Int} : (List.range' 0 P.length).map (fun k => D.int (P.getD k 0)) = P.map D.int := by
  apply List.ext_getElem?
  intro i
  rw [List.getElem?_map, List.getElem?_map]
  by_cases h : i < P.length
  · rw [List.getElem?_range' h, List.getElem?_eq_getElem h]
    show some (D.int (P.getD (0 + 1 * i) 0)) = some (D.int P[i])
    rw [show 0 + 1 * i = i by omega, List.getD_eq_getElem?_getD, List.getElem?_eq_getElem h]; rfl
  · rw [List.getElem?_eq_none (by simpa using Nat.le_of_not_lt h), List.getElem?_eq_none (by omega)]; rfl
theorem cut_1 {B : List Nat} : cutD (B.map fun i : Nat => D.int (i : Int)) (some 1) none = (B.drop 1).map fun i : Nat => D.int (i : Int) := by
  have := cut_from (xs := B.map fun i : Nat => (i : Int)) (p := 1) (by omega)
  rw [List.map_map] at this
  rw [show (B.map fun i : Nat => D.int (i : Int)) = B.map (D.int ∘ fun i : Nat => (i : Int)) from rfl, this, ← List.map_drop, List.map_map]
  rfl
theorem told_al {f : Frm} {xs : List Int} {t : Std} (o : f.Ok) (hx : ∀ x ∈ xs, 0 ≤ x ∧ x < f.base) (hl : xs.length ≤ 900000) (hr : beh f (behM f 0) xs = some t) : phi_told_along [f.d, fileD xs, .lst ((alongF f (behM f 0) xs).map optD)] = some (.d (.tup ((contA f (behM f 0) xs).map ctD))) := by
  have hb : 0 < f.base := by have := o.b0; omega
  have pl := parts_len xs _ t hr
  have l1 := ta_lc1 hr (e3 := .un) (e4 := .un) (e5 := .un) (e7 := .un) (e8 := .un) (List.range' 0 xs.length) [] (fun k hk => by have := List.mem_range'.mp hk; omega) (by simp; omega)
  have tc := tell_cont hb xs (behM f 0) t hx hr
  rw [show List.range' 0 xs.length = List.range' 0 (partsL f (behM f 0) xs).length by rw [pl], map_range, pl, ← rg_range, List.nil_append] at l1
  have ct := chunks_tell (b := f.base) pl rfl xs.length 0 (by omega)
  rw [List.drop_zero, List.drop_zero, tc] at ct
  have zi := zip_in (b := f.base) (P := partsL f (behM f 0) xs) (n := xs.length) xs.length 0 (by omega)
  have zl := zip_len (n := xs.length) (B := begP f.base (partsL f (behM f 0) xs) xs.length 0)
  have bl := beg_len (b := f.base) (P := partsL f (behM f 0) xs) (n := xs.length) (o := 0)
  have hPl : (partsL f (behM f 0) xs).length ≤ 900000 := by omega
  have l2 := ta_lc2 (f := f) (P := partsL f (behM f 0) xs) (e1 := .val (fileD xs)) (e2 := .val (.lst ((alongF f (behM f 0) xs).map optD))) (e4 := .un) (e5 := .un) (e7 := .un) (e8 := .un) (List.range' 0 xs.length) [] (fun k hk => by have := List.mem_range'.mp hk; omega) (by simp; omega)
  rw [← rg_range, List.nil_append, show (List.range' 0 xs.length).filter (fun k => decide (f.base ≤ (partsL f (behM f 0) xs).getD k 0)) = begP f.base (partsL f (behM f 0) xs) xs.length 0 from rfl] at l2
  have l3 := ta_lc3 (P := partsL f (behM f 0) xs) (xs := xs) (e0 := .val f.d) (e2 := .val (.lst ((alongF f (behM f 0) xs).map optD))) (e4 := .val (.lst ((begP f.base (partsL f (behM f 0) xs) xs.length 0).map fun i : Nat => D.int (i : Int)))) (e5 := .val (.lst ((endsAt xs.length (begP f.base (partsL f (behM f 0) xs) xs.length 0)).map fun i : Nat => D.int (i : Int)))) (e6 := .un) hPl
    ((begP f.base (partsL f (behM f 0) xs) xs.length 0).zip (endsAt xs.length (begP f.base (partsL f (behM f 0) xs) xs.length 0))) [] zi (by simp; omega)
  rw [ct, ← zip_prD, List.nil_append] at l3
  have c1 := cut_1 (B := begP f.base (partsL f (behM f 0) xs) xs.length 0)
  have e5 : (List.drop 1 (begP f.base (partsL f (behM f 0) xs) xs.length 0)).map (fun i : Nat => D.int (i : Int)) ++ [.int (xs.length : Int)] = (endsAt xs.length (begP f.base (partsL f (behM f 0) xs) xs.length 0)).map fun i : Nat => D.int (i : Int) := by
    unfold endsAt; rw [List.map_append]; rfl
  have n1 : xs.length ≤ 16777216 := by omega
  have n2 : ((List.drop 1 (begP f.base (partsL f (behM f 0) xs) xs.length 0)).map (fun i : Nat => D.int (i : Int))).length + [D.int (xs.length : Int)].length ≤ 16777216 := by
    rw [List.length_map, List.length_drop, List.length_singleton]; omega
  have ga := gAdd_l n2
  rw [e5] at ga
  rw [← c1] at ga
  have n3 : ((contA f (behM f 0) xs).map ctD).length ≤ 16777216 := by
    rw [← ct, List.length_map, List.length_map]; omega
  clear c1 e5 n2 zi zl bl hPl ct tc pl hr hx hl hb
  generalize (endsAt xs.length (begP f.base (partsL f (behM f 0) xs) xs.length 0)).map (fun i : Nat => D.int (i : Int)) = E at *
  generalize (begP f.base (partsL f (behM f 0) xs) xs.length 0).map (fun i : Nat => D.int (i : Int)) = B at *
  generalize (partsL f (behM f 0) xs).map D.int = P at *
  generalize (contA f (behM f 0) xs).map ctD = T at *
  unfold phi_told_along g_told_along
  walk_at "ev"
theorem read_ok {f : Frm} {xs : List Int} (o : f.Ok) (hx : ∀ x ∈ xs, 0 ≤ x ∧ x < f.base) (hl : xs.length ≤ 900000) (h : RfX f (behM f 0) xs .non) : phi_read [f.d, fileD xs] = some (.d (.tup ((contA f (behM f 0) xs).map ctD))) := by
  obtain ⟨c, e, h'⟩ := ra_ok (f := f) (s := behM f 0) (xs := xs) hl
  have hc := h'.one h
  subst hc
  have e1 := cfile_ok o (by omega) hx
  have e2 := sal_ok o hx (by omega)
  have ea : phi_along_read [f.d, fileD xs] = some (.d (.lst ((alongF f (behM f 0) xs).map optD))) := by
    clear h h' hx hl
    unfold phi_along_read g_along_read
    walk_at "ev"
  cases h with
  | @read t hr he =>
    have hta := told_al o hx hl hr
    clear e e1 e2 hr he h' hx hl
    unfold phi_read g_read
    walk_at "ev"
end Dv

set_option Elab.async false
set_option linter.all false
set_option maxRecDepth 100000
set_option maxHeartbeats 4000000
namespace Dv
open PySem PySem.Spec PyProof.Rows L2
local macro_rules | `(tactic| walk_at "ev") => `(tactic| simp only [kRet_s, ev_name, ev_c, nm_val, nm_own, nm_bor, der_d, der_nw, der_sl, sl_own, sl_bor, sl_val, ev_bin, kBin_s, kBin2_s, kBin3_s, kBin4_s, ev_b1, kOne_s, kOne2_s, kRetD_s, ev_un, kUn1_s, kUn12_s, gNeg_i, ev_test, kTst_s, ev_and, ev_or, ev_not, kAnd_t, kAnd_f, kOr_t, kOr_f, kNot_s, ev_notV, kBl_s, ev_andV, ev_orV, kAndV_t, kAndV_f, kOrV_t, kOrV_f, ev_if, kIfE_t, kIfE_f, ev_yes, ev_ch, kCh_s, kCh2_s, kCh3_s, kCh4_s, kCh5_t, kCh5_f, ev_nil, ev_cons, kC1_s, kC2_s, ev_rev, kRv_s, escs_nil, escs_cons, kX1_s, kX2_s, esc_d, esc_nw, esc_sl, escS_own, escS_val, ev_tup, kT1_s, kT2_s, ev_lst, kL1_s, kL2_s, ev_pno, ev_pzero, ev_pint, kPI_s, ev_sl, kS1_s, kS2_s, kS3_s, kS4_s, ev_lrg, kR1_s, kR2_s, ev_call, kF1_s, kF2_s, kF3_s, ders_nil, ders_cons, kD1_s, kD2_s, rt_d, rt_nw, ev_call1, kG1_s, kG2_s, kG3_s, kG4_s, ow_own, ow_bor, put_own, put_bor, ev_iseq, kI1_s, kI2_t, kI2_l, kI2_f, ev_irg1, kN1_u, kN1_i, ev_irg2, kN2_s, kN3_u, ev_lc, kV1_s, kV2_s, ev_seq, kSeq_n, kSeq_r, kSeq_b, kSeq_c, ev_skip, ev_break, ev_cont, ev_retN, ev_ret, kRt_s, ev_sif, kIf_t, kIf_f, ev_drop, kDr_s, ev_set, kSt_s, kSt2_s, ev_own, kOw_s, ev_unp, kUn_s, kUn2_s, kNx_s, bt_nm, bt_tp, sa_nil, sa_cons, ev_par, kPa_s, sp_nil, sp_own, sp_val, ev_app, kAp_s, kAp2_s, kAp3_s, kAp4_s, ev_sti, kSi_s, kSi2_s, kSi3_s, kSi4_s, kSi5_s, kSi6_s, ev_aug, kAg_s, kAg2_s, val_s, ev_for, kFo_s, loop_nil, loop_cons, kLp_s, kLp_n, kLp_c, kLp_b, kLp_r, ev_while, while_s, kWh_f, kWh_t, kWh_n, kWh_c, kWh_b, kWh_r, lc_nil, lc_cons, kLc1_s, kLc2_t, kLc2_f, kLc3_s, kLc4_s, run0_k, kE0_r, kE0_n, rtOf_d, rtOf_nw, rtOf_sl, rtS_own, run1_k, kE1_r, kE1_n, kE2_s, bor_s, gAdd_i, gAdd_l, gAdd_t, gSub_i, gMul_i, gMod_i, gDiv_i, gPow_i, gEq_i, gEq_s, gEq_b, gCmp_i, gIs_n, gInt_i, gInt_b, gMax_i, gMin_i, gAbs_i, gTup_t, gTup_l, gLen_t, gLen_l, gLen_f, gIx_t, gIx_l, gIx_f, kIx_s, at_0, at_1, at_2, at_3, at_4, at_5, gSl_t, gSl_l,
  List.map_cons, List.map_nil, List.cons_append, List.nil_append, List.append_nil, List.length_cons, List.length_nil, List.replicate_succ, List.replicate_zero, Nat.reduceSub, Nat.reduceAdd, List.getElem?_cons_zero, List.getElem?_cons_succ, List.getElem?_nil, List.set_cons_zero, List.set_cons_succ, List.set_nil, Nat.zero_add, Nat.add_zero,
  List.all_cons, List.all_nil, notSl, Bool.and_true, Bool.true_and, Bool.or_true, Bool.true_or, Bool.and_false, Bool.false_and, Bool.or_false, Bool.false_or, if_true, if_false, Bool.false_eq_true, reduceIte, Bool.not_true, Bool.not_false, Bool.bne_true, Bool.bne_false, decide_true, decide_false, wipeE, backE, backS, nc_0, List.length_map, List.length_append, rg_len, Nat.reduceLeDiff, fd_ix, fi_ix, fi_len, fi_it, dcs, eq_self, Int.reduceEq, Int.reduceLT, Int.reduceLE, Int.reduceAdd, Int.reduceSub, Int.reduceMul, Int.reduceToNat, gIs_c, mkD_n, mkD_s, items, and_true, true_and, and_self, bne_self_eq_false, wt, gIn_t, gIsi_i, gIsi_t, gIsi_s, gIsi_n, gIsi_b, gIsi_l, isi2_c, gEq_n, gEq_l, ev_dk, kDk1_s, kDk2_s, kDk3_s, flatD, eqF_s, eqF_i, eqF_n, List.any_cons, List.any_nil, Rt.o, Option.bind_some, phi0_s, phi1_s, List.reverse_cons, List.reverse_nil, decide_eq_true_eq, *])

/-! ### the law's judge -/
theorem body_len {f : Frm} {xs : List Int} : (bodyA f xs).length ≤ xs.length := by
  unfold bodyA
  cases xs with
  | nil => simp
  | cons a ys =>
    dsimp only
    cases f.width with
    | one => rw [List.length_take, List.length_cons]; omega
    | high => cases ys with
      | nil => simp
      | cons b zs => rw [List.length_take, List.length_cons, List.length_cons]; omega
    | low => cases ys with
      | nil => simp
      | cons b zs => rw [List.length_take, List.length_cons, List.length_cons]; omega
theorem cell_len {f : Frm} {x : Int} {xs : List Int} {q : Std} : (cellA f x xs q).length ≤ 1 ∧ ∀ c ∈ cellA f x xs q, c.2.length ≤ xs.length := by
  cases q with
  | length u =>
    dsimp only [cellA]
    cases u.told with
    | true =>
      rw [if_pos rfl]
      refine ⟨by simp, fun c hc => ?_⟩
      rw [List.mem_singleton.mp hc]
      exact body_len
    | false =>
      rw [if_neg (fun h => nomatch h)]
      exact ⟨by simp, fun c hc => nomatch hc⟩
  | _ => exact ⟨by simp [cellA], fun c hc => nomatch hc⟩
theorem cont_len2 {f : Frm} : ∀ (xs : List Int) (s : Std), (contA f s xs).length ≤ xs.length ∧ ∀ c ∈ contA f s xs, c.2.length ≤ xs.length
  | [], s => ⟨by simp [contA], fun c hc => nomatch hc⟩
  | x :: xs, s => by
    rw [contA_cons]
    cases e : step f s x with
    | none => exact ⟨by simp, fun c hc => nomatch hc⟩
    | some q =>
      obtain ⟨h1, h2⟩ := cont_len2 (f := f) xs q
      obtain ⟨h3, h4⟩ := cell_len (f := f) (x := x) (xs := xs) (q := q)
      refine ⟨by rw [List.length_append, List.length_cons]; omega, fun c hc => ?_⟩
      rw [List.length_cons]
      rcases List.mem_append.mp hc with hc | hc
      · have := h4 c hc; omega
      · have := h2 c hc; omega
theorem eqv_file {k : Nat} {xs : List Int} (h : xs.length ≤ 1000) : phiR__law_equal (k + 2) [fileD xs, fileD xs] = some (.d (.bl true)) := by
  unfold fileD
  refine eqv_tup (by simpa using h) fun d hd => ?_
  obtain ⟨x, _, rfl⟩ := List.mem_map.mp hd
  exact eqv_int
theorem eqv_cont {k : Nat} {cs : List (Int × List Int)} (h : cs.length ≤ 1000) (h2 : ∀ c ∈ cs, c.2.length ≤ 1000) : phiR__law_equal (k + 4) [.tup (cs.map ctD), .tup (cs.map ctD)] = some (.d (.bl true)) := by
  refine eqv_tup (by simpa using h) fun d hd => ?_
  obtain ⟨c, hc, rfl⟩ := List.mem_map.mp hd
  refine eqv_tup (by simp) ?_
  simp only [List.forall_mem_cons, List.not_mem_nil, false_implies, implies_true, and_true]
  exact ⟨eqv_int, eqv_file (h2 c hc)⟩
theorem eqv_ref {f : Frm} {s : Std} {xs : List Int} {c : D} {k : Nat} (h : RfX f s xs c) : phiR__law_equal (k + 2) [c, c] = some (.d (.bl true)) := by
  cases h with
  | read _ _ => exact eqv_non
  | short _ _ => refine eqv_tup (by simp) ?_; simp only [List.forall_mem_cons, List.not_mem_nil, false_implies, implies_true, and_true]; exact ⟨eqv_int, eqv_str⟩
  | bad _ _ _ => refine eqv_tup (by simp) ?_; simp only [List.forall_mem_cons, List.not_mem_nil, false_implies, implies_true, and_true]; exact ⟨eqv_int, eqv_str⟩
theorem right_ok {f : Frm} {xs : List Int} (o : f.Ok) (hx : ∀ x ∈ xs, 0 ≤ x ∧ x < f.base) (hl : xs.length ≤ 1000) : phi__law_right [f.d, fileD xs] = some (.d (.bl true)) := by
  obtain ⟨a, b, c, e, hr, hc⟩ := reading_x o hx (by omega)
  obtain ⟨c', e1, hr'⟩ := refusal_ok o hx (by omega)
  have := hr'.one hr
  subst this
  have e2 : phi__law_equal [c', c'] = some (.d (.bl true)) := eqv_ref (k := 6) hr
  by_cases h : c' = .non
  · subst h
    have ha := (hc rfl).1
    subst ha
    have e3 := read_ok o hx (by omega) hr
    obtain ⟨l1, l2⟩ := cont_len2 (f := f) xs (behM f 0)
    have e4 : phi__law_equal [.tup ((contA f (behM f 0) xs).map ctD), .tup ((contA f (behM f 0) xs).map ctD)] = some (.d (.bl true)) := eqv_cont (k := 4) (by omega) (fun c h => by have := l2 c h; omega)
    clear hc hr hr' hx hl l1 l2
    unfold phi__law_right g__law_right
    walk_at "ev"
  · have e3 : gIs true c' .non = some (.d (.bl true)) := by
      cases hr with
      | read _ _ => exact absurd rfl h
      | short _ _ => rfl
      | bad _ _ _ => rfl
    clear hc hr hr' hx hl h
    unfold phi__law_right g__law_right
    walk_at "ev"
end Dv

set_option Elab.async false
set_option linter.all false
set_option maxRecDepth 100000
set_option maxHeartbeats 4000000
namespace Dv
open PySem PySem.Spec PyProof.Rows L2
local macro_rules | `(tactic| walk_at "ev") => `(tactic| simp only [kRet_s, ev_name, ev_c, nm_val, nm_own, nm_bor, der_d, der_nw, der_sl, sl_own, sl_bor, sl_val, ev_bin, kBin_s, kBin2_s, kBin3_s, kBin4_s, ev_b1, kOne_s, kOne2_s, kRetD_s, ev_un, kUn1_s, kUn12_s, gNeg_i, ev_test, kTst_s, ev_and, ev_or, ev_not, kAnd_t, kAnd_f, kOr_t, kOr_f, kNot_s, ev_notV, kBl_s, ev_andV, ev_orV, kAndV_t, kAndV_f, kOrV_t, kOrV_f, ev_if, kIfE_t, kIfE_f, ev_yes, ev_ch, kCh_s, kCh2_s, kCh3_s, kCh4_s, kCh5_t, kCh5_f, ev_nil, ev_cons, kC1_s, kC2_s, ev_rev, kRv_s, escs_nil, escs_cons, kX1_s, kX2_s, esc_d, esc_nw, esc_sl, escS_own, escS_val, ev_tup, kT1_s, kT2_s, ev_lst, kL1_s, kL2_s, ev_pno, ev_pzero, ev_pint, kPI_s, ev_sl, kS1_s, kS2_s, kS3_s, kS4_s, ev_lrg, kR1_s, kR2_s, ev_call, kF1_s, kF2_s, kF3_s, ders_nil, ders_cons, kD1_s, kD2_s, rt_d, rt_nw, ev_call1, kG1_s, kG2_s, kG3_s, kG4_s, ow_own, ow_bor, put_own, put_bor, ev_iseq, kI1_s, kI2_t, kI2_l, kI2_f, ev_irg1, kN1_u, kN1_i, ev_irg2, kN2_s, kN3_u, ev_lc, kV1_s, kV2_s, ev_seq, kSeq_n, kSeq_r, kSeq_b, kSeq_c, ev_skip, ev_break, ev_cont, ev_retN, ev_ret, kRt_s, ev_sif, kIf_t, kIf_f, ev_drop, kDr_s, ev_set, kSt_s, kSt2_s, ev_own, kOw_s, ev_unp, kUn_s, kUn2_s, kNx_s, bt_nm, bt_tp, sa_nil, sa_cons, ev_par, kPa_s, sp_nil, sp_own, sp_val, ev_app, kAp_s, kAp2_s, kAp3_s, kAp4_s, ev_sti, kSi_s, kSi2_s, kSi3_s, kSi4_s, kSi5_s, kSi6_s, ev_aug, kAg_s, kAg2_s, val_s, ev_for, kFo_s, loop_nil, loop_cons, kLp_s, kLp_n, kLp_c, kLp_b, kLp_r, ev_while, while_s, kWh_f, kWh_t, kWh_n, kWh_c, kWh_b, kWh_r, lc_nil, lc_cons, kLc1_s, kLc2_t, kLc2_f, kLc3_s, kLc4_s, run0_k, kE0_r, kE0_n, rtOf_d, rtOf_nw, rtOf_sl, rtS_own, run1_k, kE1_r, kE1_n, kE2_s, bor_s, gAdd_i, gAdd_l, gAdd_t, gSub_i, gMul_i, gMod_i, gDiv_i, gPow_i, gEq_i, gEq_s, gEq_b, gCmp_i, gIs_n, gInt_i, gInt_b, gMax_i, gMin_i, gAbs_i, gTup_t, gTup_l, gLen_t, gLen_l, gLen_f, gIx_t, gIx_l, gIx_f, kIx_s, at_0, at_1, at_2, at_3, at_4, at_5, gSl_t, gSl_l,
  List.map_cons, List.map_nil, List.cons_append, List.nil_append, List.append_nil, List.length_cons, List.length_nil, List.replicate_succ, List.replicate_zero, Nat.reduceSub, Nat.reduceAdd, List.getElem?_cons_zero, List.getElem?_cons_succ, List.getElem?_nil, List.set_cons_zero, List.set_cons_succ, List.set_nil, Nat.zero_add, Nat.add_zero,
  List.all_cons, List.all_nil, notSl, Bool.and_true, Bool.true_and, Bool.or_true, Bool.true_or, Bool.and_false, Bool.false_and, Bool.or_false, Bool.false_or, if_true, if_false, Bool.false_eq_true, reduceIte, Bool.not_true, Bool.not_false, Bool.bne_true, Bool.bne_false, decide_true, decide_false, wipeE, backE, backS, nc_0, List.length_map, List.length_append, rg_len, Nat.reduceLeDiff, fd_ix, fi_ix, fi_len, fi_it, dcs, eq_self, Int.reduceEq, Int.reduceLT, Int.reduceLE, Int.reduceAdd, Int.reduceSub, Int.reduceMul, Int.reduceToNat, gIs_c, mkD_n, mkD_s, items, and_true, true_and, and_self, bne_self_eq_false, wt, gIn_t, gIsi_i, gIsi_t, gIsi_s, gIsi_n, gIsi_b, gIsi_l, isi2_c, gEq_n, gEq_l, ev_dk, kDk1_s, kDk2_s, kDk3_s, flatD, eqF_s, eqF_i, eqF_n, List.any_cons, List.any_nil, Rt.o, Option.bind_some, phi0_s, phi1_s, List.reverse_cons, List.reverse_nil, decide_eq_true_eq, *])
abbrev gfB : FS := (sSeq (sSet 5 (fCall1 phi__law_written (aCons (fName 0) (aCons (fName 1) (aCons (fName 2) aNil)))))
    (sIf (fAnd (fTest (fBin (gCmp fun i j => decide (i ≤ j)) (fB1 gLen (fName 5)) (fName 3))) (fTest (fBin (gIs false) (fBin gIx (fCall phi__law_reading (aCons (fName 1) (aCons (fName 5) aNil))) (fC (.int 2))) (fC .non)))) (sRet (fName 5)) sSkip))
abbrev sgB : FS := (sIf (fNot (fTest (fCall phi__law_right (aCons (fName 6) (aCons (fBin gAdd (fBin gAdd (fSl (fName 7) pNo (pInt (fName 8))) (fTup (aCons (fName 10) aNil))) (fSl (fName 7) (pInt (fBin gAdd (fName 8) (fC (.int 1)))) pNo)) aNil))))) (sRet (fC (.bl false))) sSkip)
abbrev kkB : FS := (sSeq (sSet 9 (fLRg pZero (pInt (fName 4))))
    (sSeq (sIf (fTest (fBin (gCmp fun i j => decide (j < i)) (fName 4) (fC (.int 4)))) (sSet 9 (fLc (iRg1 (pInt (fC (.int 3)))) (.nm 12) fYes (fCall1 phi__law_grab (aCons (fName 2) (aCons (fName 4) aNil))) [12])) sSkip)
    (sSeq (sFor (iSeq (fName 9)) (.nm 10) sgB)
    (sIf (fNot (fTest (fCall phi__law_right (aCons (fName 6) (aCons (fSl (fName 7) pNo (pInt (fName 8))) aNil))))) (sRet (fC (.bl false))) sSkip))))
abbrev ifB : FS := (sIf (fTest (fBin (gIs true) (fName 7) (fC .non))) (sSeq (sFor (iRg1 (pInt (fB1 gLen (fName 7)))) (.nm 8) kkB)
    (sIf (fOr (fNot (fTest (fCall phi__law_right (aCons (fName 6) (aCons (fBin gAdd (fName 7) (fTup (aCons (fCall1 phi__law_grab (aCons (fName 2) (aCons (fBin gIx (fName 6) (fC (.int 0))) aNil))) aNil))) aNil))))) (fNot (fTest (fCall phi__law_right (aCons (fName 6) (aCons (fName 7) aNil)))))) (sRet (fC (.bl false))) sSkip)) sSkip)
abbrev tuB : FS := (sSeq (sUnp (.tp [4, 5]) (fTup (aCons (fBin gIx (fLst (aCons (fC (.int 2)) (aCons (fC (.int 4)) (aCons (fC (.int 16)) aNil)))) (fCall1 phi__law_grab (aCons (fName 2) (aCons (fC (.int 3)) aNil)))) (aCons (fBin gIx (fLst (aCons (fC (.int 3)) (aCons (fC (.int 20)) aNil))) (fCall1 phi__law_grab (aCons (fName 2) (aCons (fC (.int 2)) aNil)))) aNil))))
    (sSeq (sSet 6 (fCall1 phi__law_drawn_form (aCons (fName 2) (aCons (fName 4) (aCons (fC (.int 4)) (aCons (fName 5) (aCons (fBin gIx (fLst (aCons (fC (.int 3)) (aCons (fC (.int 8)) aNil))) (fCall1 phi__law_grab (aCons (fName 2) (aCons (fC (.int 2)) aNil)))) aNil)))))))
    (sSeq (sSet 7 (fCall1 phi__law_good_file (aCons (fName 2) (aCons (fName 6) (aCons (fC (.int 4)) (aCons (fC (.int 40)) aNil))))))
    ifB)))
abbrev atB : FS := (sSeq (sOwn 2 (fCall phi__law_bag (aCons (fName 0) (aCons (fName 1) aNil))))
    (sFor (iRg1 (pInt (fC (.int 3)))) (.nm 3) tuB))
abbrev jjE : FE := (fCall1 phi__law_grab (aCons (fName 2) (aCons (fName 4) aNil)))
/-! ### the law: a drawn file that is read -/
def RowOk (f : Frm) (r : D) : Prop := r = .non ∨ ∃ xs, r = fileD xs ∧ Signs f xs ∧ xs.length ≤ 40
theorem gf_loop {f : Frm} (o : f.Ok) (hh : f.head.length ≤ 900) : ∀ (ds : List D) (g : Bag) (N : Int) (c4 c5 : Sl), g.In N → N + 6000 * (ds.length : Int) + 30000 < 2 ^ 60 →
    ∃ (r : D) (g' : Bag), kE1 (kSeq (sRet (fC .non)) (loopD (.nm 4) gfB ds [.bor g.d, .val f.d, .val (.int 4), .val (.int 40), c4, c5])) = some (.d r, g'.d) ∧ RowOk f r ∧ Bag.In g' (N + 6000 * (ds.length : Int))
  | [], g, N, c4, c5, hg, hN => ⟨.non, g, rfl, .inl rfl, by simpa using hg⟩
  | d :: ds, g, N, c4, c5, hg, hN => by
    rw [List.length_cons] at hN
    obtain ⟨xs, g1, q1, s1, l1, i1⟩ := written_ok o (many := 4) (by omega) hh hg (by omega)
    obtain ⟨a, b, c, e, hr, hc⟩ := reading_x o s1 (by omega)
    have more : ∃ (r : D) (g' : Bag), kE1 (kSeq (sRet (fC .non)) (loopD (.nm 4) gfB ds [.bor g1.d, .val f.d, .val (.int 4), .val (.int 40), .val d, .val (fileD xs)])) = some (.d r, g'.d) ∧ RowOk f r ∧ Bag.In g' (N + 6000 * ((ds.length + 1 : Nat) : Int)) := by
      obtain ⟨r, g', e2, r2, r3⟩ := gf_loop o hh ds g1 (N + 6000) (.val d) (.val (fileD xs)) i1 (by omega)
      exact ⟨r, g', e2, r2, r3.le (by omega)⟩
    by_cases h1 : (xs.length : Int) ≤ 40
    · by_cases h2 : c = .non
      · refine ⟨fileD xs, g1, ?_, .inr ⟨xs, rfl, s1, by omega⟩, i1.le (by rw [List.length_cons]; omega)⟩
        subst h2
        clear more hr hc i1 hg hN s1 l1 hh
        walk_at "ev"
      · have e3 : gIs false c .non = some (.d (.bl false)) := by
          cases hr with
          | read _ _ => exact absurd rfl h2
          | short _ _ => rfl
          | bad _ _ _ => rfl
        obtain ⟨r, g', e2, r2, r3⟩ := more
        refine ⟨r, g', ?_, r2, by rw [List.length_cons]; exact r3⟩
        rw [← e2]
        clear e2 r2 r3 hr hc i1 hg hN s1 l1 hh h2
        walk_at "ev"
    · obtain ⟨r, g', e2, r2, r3⟩ := more
      refine ⟨r, g', ?_, r2, by rw [List.length_cons]; exact r3⟩
      rw [← e2]
      clear e2 r2 r3 hr hc i1 hg hN s1 l1 hh
      walk_at "ev"
theorem good_ok {f : Frm} (o : f.Ok) (hh : f.head.length ≤ 900) {g : Bag} {N : Int} (hg : g.In N) (hN : N + 100000 < 2 ^ 60) : ∃ (r : D) (g' : Bag), phi__law_good_file [.lst g.d, f.d, .int 4, .int 40] = some (.d r, g'.d) ∧ RowOk f r ∧ Bag.In g' (N + 24000) := by
  obtain ⟨r, g', e, r1, r2⟩ := gf_loop o hh (rgD 0 4) g N .un .un hg (by rw [rg_len]; omega)
  rw [rg_len] at r2
  refine ⟨r, g', ?_, r1, r2.le (by omega)⟩
  rw [← e]
  clear e r1 r2 hg hN hh
  unfold phi__law_good_file g__law_good_file
  walk_at "ev"
theorem fi_to {xs : List Int} {p : Int} (hp : 0 ≤ p) : gSl (fileD xs) none (some p) = some (.d (fileD (xs.take p.toNat))) := by
  unfold fileD
  rw [gSl_t, cut_to hp]
theorem fi_from {xs : List Int} {p : Int} (hp : 0 ≤ p) : gSl (fileD xs) (some p) none = some (.d (fileD (xs.drop p.toNat))) := by
  unfold fileD
  rw [gSl_t, cut_from hp]
theorem fi_add {xs ys : List Int} (h : xs.length + ys.length ≤ 16777216) : gAdd (fileD xs) (fileD ys) = some (.d (fileD (xs ++ ys))) := by
  unfold fileD
  rw [gAdd_t (by simpa using h), List.map_append]
theorem fi_one {x : Int} : D.tup [.int x] = fileD [x] := rfl
/-- signs put in at one place -/
theorem sg_loop {f : Frm} (o : f.Ok) {xs : List Int} (hx : Signs f xs) (hl : xs.length ≤ 40) {k : Nat} {e0 e1 e2 e3 e4 e5 e9 e11 e12 : Sl} : ∀ (ss : List Int) (c10 : Sl), Signs f ss →
    ∃ d10, loopD (.nm 10) sgB (ss.map D.int) [e0, e1, e2, e3, e4, e5, .val f.d, .val (fileD xs), .val (.int k), e9, c10, e11, e12] = some (.nx [e0, e1, e2, e3, e4, e5, .val f.d, .val (fileD xs), .val (.int k), e9, d10, e11, e12])
  | [], c10, _ => ⟨c10, rfl⟩
  | s :: ss, c10, hs => by
    have s1 := fi_to (xs := xs) (p := (k : Int)) (by omega)
    have s2 := fi_from (xs := xs) (p := (k : Int) + 1) (by omega)
    rw [show ((k : Int)).toNat = k by omega] at s1
    rw [show ((k : Int) + 1).toNat = k + 1 by omega] at s2
    have l1 : (xs.take k).length ≤ 40 := by rw [List.length_take]; omega
    have l2 : (xs.drop (k + 1)).length ≤ 40 := by rw [List.length_drop]; omega
    have a1 : gAdd (fileD (xs.take k)) (.tup [.int s]) = some (.d (fileD (xs.take k ++ [s]))) := by rw [fi_one]; exact fi_add (by simp; omega)
    have a2 : gAdd (fileD (xs.take k ++ [s])) (fileD (xs.drop (k + 1))) = some (.d (fileD (xs.take k ++ [s] ++ xs.drop (k + 1)))) := fi_add (by rw [List.length_append, List.length_singleton]; omega)
    have r1 := right_ok o (xs := xs.take k ++ [s] ++ xs.drop (k + 1)) ((hx.take.app (Signs.one (hs s (by simp)))).app hx.drop) (by rw [List.length_append, List.length_append, List.length_singleton]; omega)
    obtain ⟨d10, e⟩ := sg_loop o hx hl (k := k) (e0 := e0) (e1 := e1) (e2 := e2) (e3 := e3) (e4 := e4) (e5 := e5) (e9 := e9) (e11 := e11) (e12 := e12) ss (.val (.int s)) (fun y hy => hs y (by simp [hy]))
    refine ⟨d10, ?_⟩
    rw [← e]
    clear e hs l1 l2 hx hl
    walk_at "ev"
end Dv

set_option Elab.async false
set_option linter.all false
set_option maxRecDepth 100000
set_option maxHeartbeats 4000000
namespace Dv
open PySem PySem.Spec PyProof.Rows L2
local macro_rules | `(tactic| walk_at "ev") => `(tactic| simp only [kRet_s, ev_name, ev_c, nm_val, nm_own, nm_bor, der_d, der_nw, der_sl, sl_own, sl_bor, sl_val, ev_bin, kBin_s, kBin2_s, kBin3_s, kBin4_s, ev_b1, kOne_s, kOne2_s, kRetD_s, ev_un, kUn1_s, kUn12_s, gNeg_i, ev_test, kTst_s, ev_and, ev_or, ev_not, kAnd_t, kAnd_f, kOr_t, kOr_f, kNot_s, ev_notV, kBl_s, ev_andV, ev_orV, kAndV_t, kAndV_f, kOrV_t, kOrV_f, ev_if, kIfE_t, kIfE_f, ev_yes, ev_ch, kCh_s, kCh2_s, kCh3_s, kCh4_s, kCh5_t, kCh5_f, ev_nil, ev_cons, kC1_s, kC2_s, ev_rev, kRv_s, escs_nil, escs_cons, kX1_s, kX2_s, esc_d, esc_nw, esc_sl, escS_own, escS_val, ev_tup, kT1_s, kT2_s, ev_lst, kL1_s, kL2_s, ev_pno, ev_pzero, ev_pint, kPI_s, ev_sl, kS1_s, kS2_s, kS3_s, kS4_s, ev_lrg, kR1_s, kR2_s, ev_call, kF1_s, kF2_s, kF3_s, ders_nil, ders_cons, kD1_s, kD2_s, rt_d, rt_nw, ev_call1, kG1_s, kG2_s, kG3_s, kG4_s, ow_own, ow_bor, put_own, put_bor, ev_iseq, kI1_s, kI2_t, kI2_l, kI2_f, ev_irg1, kN1_u, kN1_i, ev_irg2, kN2_s, kN3_u, ev_lc, kV1_s, kV2_s, ev_seq, kSeq_n, kSeq_r, kSeq_b, kSeq_c, ev_skip, ev_break, ev_cont, ev_retN, ev_ret, kRt_s, ev_sif, kIf_t, kIf_f, ev_drop, kDr_s, ev_set, kSt_s, kSt2_s, ev_own, kOw_s, ev_unp, kUn_s, kUn2_s, kNx_s, bt_nm, bt_tp, sa_nil, sa_cons, ev_par, kPa_s, sp_nil, sp_own, sp_val, ev_app, kAp_s, kAp2_s, kAp3_s, kAp4_s, ev_sti, kSi_s, kSi2_s, kSi3_s, kSi4_s, kSi5_s, kSi6_s, ev_aug, kAg_s, kAg2_s, val_s, ev_for, kFo_s, loop_nil, loop_cons, kLp_s, kLp_n, kLp_c, kLp_b, kLp_r, ev_while, while_s, kWh_f, kWh_t, kWh_n, kWh_c, kWh_b, kWh_r, lc_nil, lc_cons, kLc1_s, kLc2_t, kLc2_f, kLc3_s, kLc4_s, run0_k, kE0_r, kE0_n, rtOf_d, rtOf_nw, rtOf_sl, rtS_own, run1_k, kE1_r, kE1_n, kE2_s, bor_s, gAdd_i, gAdd_l, gAdd_t, gSub_i, gMul_i, gMod_i, gDiv_i, gPow_i, gEq_i, gEq_s, gEq_b, gCmp_i, gIs_n, gInt_i, gInt_b, gMax_i, gMin_i, gAbs_i, gTup_t, gTup_l, gLen_t, gLen_l, gLen_f, gIx_t, gIx_l, gIx_f, kIx_s, at_0, at_1, at_2, at_3, at_4, at_5, gSl_t, gSl_l,
  List.map_cons, List.map_nil, List.cons_append, List.nil_append, List.append_nil, List.length_cons, List.length_nil, List.replicate_succ, List.replicate_zero, Nat.reduceSub, Nat.reduceAdd, List.getElem?_cons_zero, List.getElem?_cons_succ, List.getElem?_nil, List.set_cons_zero, List.set_cons_succ, List.set_nil, Nat.zero_add, Nat.add_zero,
  List.all_cons, List.all_nil, notSl, Bool.and_true, Bool.true_and, Bool.or_true, Bool.true_or, Bool.and_false, Bool.false_and, Bool.or_false, Bool.false_or, if_true, if_false, Bool.false_eq_true, reduceIte, Bool.not_true, Bool.not_false, Bool.bne_true, Bool.bne_false, decide_true, decide_false, wipeE, backE, backS, nc_0, List.length_map, List.length_append, rg_len, Nat.reduceLeDiff, fd_ix, fi_ix, fi_len, fi_it, dcs, eq_self, Int.reduceEq, Int.reduceLT, Int.reduceLE, Int.reduceAdd, Int.reduceSub, Int.reduceMul, Int.reduceToNat, gIs_c, mkD_n, mkD_s, items, and_true, true_and, and_self, bne_self_eq_false, wt, gIn_t, gIsi_i, gIsi_t, gIsi_s, gIsi_n, gIsi_b, gIsi_l, isi2_c, gEq_n, gEq_l, ev_dk, kDk1_s, kDk2_s, kDk3_s, flatD, eqF_s, eqF_i, eqF_n, List.any_cons, List.any_nil, Rt.o, Option.bind_some, phi0_s, phi1_s, List.reverse_cons, List.reverse_nil, decide_eq_true_eq, *])
/-! ### the law: its loops -/
theorem jj_lc {base : Int} (hb : 2 ≤ base ∧ base ≤ 256) {e0 e1 e3 e5 e6 e7 e8 e9 e10 e11 : Sl} : ∀ (ds : List D) (g : Bag) (N : Int) (acc : List D), acc.length + ds.length ≤ 16777216 → g.In N → N + (ds.length : Int) < 2 ^ 60 →
    ∃ (vs : List Int) (g' : Bag), lcD (.nm 12) fYes jjE [12] ds [e0, e1, .own g.d, e3, .val (.int base), e5, e6, e7, e8, e9, e10, e11, .un] acc = some (acc ++ vs.map D.int, [e0, e1, .own g'.d, e3, .val (.int base), e5, e6, e7, e8, e9, e10, e11, .un]) ∧ (∀ v ∈ vs, 0 ≤ v ∧ v < base) ∧ Bag.In g' (N + (ds.length : Int))
  | [], g, N, acc, _, hg, _ => ⟨[], g, by rw [lc_nil, List.map_nil, List.append_nil], (fun _ h => nomatch h), by simpa using hg⟩
  | d :: ds, g, N, acc, hl, hg, hN => by
    rw [List.length_cons] at hl hN
    obtain ⟨v, g1, q1, v0, v1, hg1⟩ := grab_ok (g := g) (n := base) (N := N) (by omega) (by omega) hg (by omega)
    have hla : acc.length < 16777216 := by omega
    obtain ⟨xs, g', e, r2, r3⟩ := jj_lc hb (e0 := e0) (e1 := e1) (e3 := e3) (e5 := e5) (e6 := e6) (e7 := e7) (e8 := e8) (e9 := e9) (e10 := e10) (e11 := e11) ds g1 (N + 1) (acc ++ [.int v]) (by rw [List.length_append, List.length_singleton]; omega) hg1 (by omega)
    refine ⟨v :: xs, g', ?_, (fun y hy => by
      rcases List.mem_cons.mp hy with rfl | hy
      · exact ⟨v0, v1⟩
      · exact r2 y hy), r3.le (by rw [List.length_cons]; omega)⟩
    rw [List.map_cons, show acc ++ D.int v :: xs.map D.int = (acc ++ [.int v]) ++ xs.map D.int by simp, ← e]
    clear e r2 r3 hl hN hg hg1 v0 v1 hb
    walk_at "ev"
theorem kk_loop {f : Frm} (o : f.Ok) {xs : List Int} (hx : Signs f xs) (hl : xs.length ≤ 40) {e0 e1 e3 e5 e11 : Sl} : ∀ (ks : List Nat) (g : Bag) (N : Int) (c8 c9 c10 : Sl), g.In N → N + 3 * (ks.length : Int) + 100 < 2 ^ 60 →
    ∃ (g' : Bag) (d8 d9 d10 : Sl), loopD (.nm 8) kkB (ks.map fun i : Nat => D.int (i : Int)) [e0, e1, .own g.d, e3, .val (.int f.base), e5, .val f.d, .val (fileD xs), c8, c9, c10, e11, .un] = some (.nx [e0, e1, .own g'.d, e3, .val (.int f.base), e5, .val f.d, .val (fileD xs), d8, d9, d10, e11, .un]) ∧ Bag.In g' (N + 3 * (ks.length : Int))
  | [], g, N, c8, c9, c10, hg, hN => ⟨g, c8, c9, c10, rfl, by simpa using hg⟩
  | k :: ks, g, N, c8, c9, c10, hg, hN => by
    have b0 := o.b0
    have b1 := o.b1
    rw [List.length_cons] at hN
    have s1 := fi_to (xs := xs) (p := (k : Int)) (by omega)
    rw [show ((k : Int)).toNat = k by omega] at s1
    have r1 := right_ok o (xs := xs.take k) hx.take (by rw [List.length_take]; omega)
    have rr : ∀ ρ, kR2 (some 0) (some (some f.base, ρ)) = some (.nw (rgD 0 (f.base - 0).toNat), ρ) := fun ρ => kR2_s (by omega)
    by_cases hb : 4 < f.base
    · obtain ⟨vs, g1, q1, v1, i1⟩ := jj_lc (base := f.base) ⟨b0, b1⟩ (e0 := e0) (e1 := e1) (e3 := e3) (e5 := e5) (e6 := .val f.d) (e7 := .val (fileD xs)) (e8 := .val (.int k)) (e9 := .val (.lst (rgD 0 (f.base - 0).toNat))) (e10 := c10) (e11 := e11) (rgD 0 3) g N [] (by rw [rg_len]; simp) hg (by rw [rg_len]; omega)
      rw [rg_len] at i1
      rw [List.nil_append] at q1
      obtain ⟨d10, q2⟩ := sg_loop o hx hl (k := k) (e0 := e0) (e1 := e1) (e2 := .own g1.d) (e3 := e3) (e4 := .val (.int f.base)) (e5 := e5) (e9 := .val (.lst (vs.map D.int))) (e11 := e11) (e12 := .un) vs c10 v1
      obtain ⟨g2, x8, x9, x10, e, i2⟩ := kk_loop o hx hl (e0 := e0) (e1 := e1) (e3 := e3) (e5 := e5) (e11 := e11) ks g1 (N + 3) (.val (.int k)) (.val (.lst (vs.map D.int))) d10 (i1.le (by omega)) (by omega)
      refine ⟨g2, x8, x9, x10, ?_, i2.le (by rw [List.length_cons]; omega)⟩
      rw [← e]
      clear e i1 i2 v1 hg hN hx hl b0 b1
      walk_at "ev"
    · have hsg : rgD 0 (f.base - 0).toNat = ((List.range' 0 (f.base - 0).toNat).map fun i : Nat => (i : Int)).map D.int := by rw [rg_range, List.map_map]; rfl
      obtain ⟨d10, q2⟩ := sg_loop o hx hl (k := k) (e0 := e0) (e1 := e1) (e2 := .own g.d) (e3 := e3) (e4 := .val (.int f.base)) (e5 := e5) (e9 := .val (.lst (rgD 0 (f.base - 0).toNat))) (e11 := e11) (e12 := .un) ((List.range' 0 (f.base - 0).toNat).map fun i : Nat => (i : Int)) c10 (fun y hy => by
        obtain ⟨i, hi, rfl⟩ := List.mem_map.mp hy
        obtain ⟨j, hj, rfl⟩ := List.mem_range'.mp hi
        omega)
      rw [← hsg] at q2
      obtain ⟨g2, x8, x9, x10, e, i2⟩ := kk_loop o hx hl (e0 := e0) (e1 := e1) (e3 := e3) (e5 := e5) (e11 := e11) ks g N (.val (.int k)) (.val (.lst (rgD 0 (f.base - 0).toNat))) d10 hg (by omega)
      refine ⟨g2, x8, x9, x10, ?_, i2.le (by rw [List.length_cons]; omega)⟩
      rw [← e]
      clear e i2 hg hN hx hl b0 b1 hsg
      walk_at "ev"
theorem if_ok {f : Frm} (o : f.Ok) {g : Bag} {N : Int} {r : D} (hr : RowOk f r) (hg : g.In N) (hN : N + 10000 < 2 ^ 60) {e0 e1 e3 e5 c8 c9 c10 e11 : Sl} :
    ∃ (g' : Bag) (d8 d9 d10 : Sl), ifB [e0, e1, .own g.d, e3, .val (.int f.base), e5, .val f.d, .val r, c8, c9, c10, e11, .un] = some (.nx [e0, e1, .own g'.d, e3, .val (.int f.base), e5, .val f.d, .val r, d8, d9, d10, e11, .un]) ∧ Bag.In g' (N + 1000) := by
  have b0 := o.b0
  have b1 := o.b1
  rcases hr with rfl | ⟨xs, rfl, hx, hl⟩
  · refine ⟨g, c8, c9, c10, ?_, hg.le (by omega)⟩
    clear hg hN b0 b1
    walk_at "ev"
  · obtain ⟨g1, d8, d9, d10, e, i1⟩ := kk_loop o hx hl (e0 := e0) (e1 := e1) (e3 := e3) (e5 := e5) (e11 := e11) (List.range' 0 xs.length) g N c8 c9 c10 hg (by simp; omega)
    rw [← rg_range] at e
    rw [List.length_range'] at i1
    obtain ⟨z, g2, q2, z0, z1, i2⟩ := grab_ok (n := f.base) (by omega) (by omega) i1 (by omega)
    have a1 : gAdd (fileD xs) (.tup [.int z]) = some (.d (fileD (xs ++ [z]))) := by rw [fi_one]; exact fi_add (by simp; omega)
    have r1 := right_ok o (xs := xs ++ [z]) (hx.app (Signs.one ⟨z0, z1⟩)) (by rw [List.length_append, List.length_singleton]; omega)
    have r2 := right_ok o hx (by omega)
    have g0 : gIs true (fileD xs) .non = some (.d (.bl true)) := rfl
    have n1 : xs.length ≤ 16777216 := by omega
    refine ⟨g2, d8, d9, d10, ?_, i2.le (by omega)⟩
    clear i1 i2 z0 z1 hg hN hx hl b0 b1
    walk_at "ev"
end Dv

set_option Elab.async false
set_option linter.all false
set_option maxRecDepth 100000
set_option maxHeartbeats 4000000
namespace Dv
open PySem PySem.Spec PyProof.Rows L2
local macro_rules | `(tactic| walk_at "ev") => `(tactic| simp only [kRet_s, ev_name, ev_c, nm_val, nm_own, nm_bor, der_d, der_nw, der_sl, sl_own, sl_bor, sl_val, ev_bin, kBin_s, kBin2_s, kBin3_s, kBin4_s, ev_b1, kOne_s, kOne2_s, kRetD_s, ev_un, kUn1_s, kUn12_s, gNeg_i, ev_test, kTst_s, ev_and, ev_or, ev_not, kAnd_t, kAnd_f, kOr_t, kOr_f, kNot_s, ev_notV, kBl_s, ev_andV, ev_orV, kAndV_t, kAndV_f, kOrV_t, kOrV_f, ev_if, kIfE_t, kIfE_f, ev_yes, ev_ch, kCh_s, kCh2_s, kCh3_s, kCh4_s, kCh5_t, kCh5_f, ev_nil, ev_cons, kC1_s, kC2_s, ev_rev, kRv_s, escs_nil, escs_cons, kX1_s, kX2_s, esc_d, esc_nw, esc_sl, escS_own, escS_val, ev_tup, kT1_s, kT2_s, ev_lst, kL1_s, kL2_s, ev_pno, ev_pzero, ev_pint, kPI_s, ev_sl, kS1_s, kS2_s, kS3_s, kS4_s, ev_lrg, kR1_s, kR2_s, ev_call, kF1_s, kF2_s, kF3_s, ders_nil, ders_cons, kD1_s, kD2_s, rt_d, rt_nw, ev_call1, kG1_s, kG2_s, kG3_s, kG4_s, ow_own, ow_bor, put_own, put_bor, ev_iseq, kI1_s, kI2_t, kI2_l, kI2_f, ev_irg1, kN1_u, kN1_i, ev_irg2, kN2_s, kN3_u, ev_lc, kV1_s, kV2_s, ev_seq, kSeq_n, kSeq_r, kSeq_b, kSeq_c, ev_skip, ev_break, ev_cont, ev_retN, ev_ret, kRt_s, ev_sif, kIf_t, kIf_f, ev_drop, kDr_s, ev_set, kSt_s, kSt2_s, ev_own, kOw_s, ev_unp, kUn_s, kUn2_s, kNx_s, bt_nm, bt_tp, sa_nil, sa_cons, ev_par, kPa_s, sp_nil, sp_own, sp_val, ev_app, kAp_s, kAp2_s, kAp3_s, kAp4_s, ev_sti, kSi_s, kSi2_s, kSi3_s, kSi4_s, kSi5_s, kSi6_s, ev_aug, kAg_s, kAg2_s, val_s, ev_for, kFo_s, loop_nil, loop_cons, kLp_s, kLp_n, kLp_c, kLp_b, kLp_r, ev_while, while_s, kWh_f, kWh_t, kWh_n, kWh_c, kWh_b, kWh_r, lc_nil, lc_cons, kLc1_s, kLc2_t, kLc2_f, kLc3_s, kLc4_s, run0_k, kE0_r, kE0_n, rtOf_d, rtOf_nw, rtOf_sl, rtS_own, run1_k, kE1_r, kE1_n, kE2_s, bor_s, gAdd_i, gAdd_l, gAdd_t, gSub_i, gMul_i, gMod_i, gDiv_i, gPow_i, gEq_i, gEq_s, gEq_b, gCmp_i, gIs_n, gInt_i, gInt_b, gMax_i, gMin_i, gAbs_i, gTup_t, gTup_l, gLen_t, gLen_l, gLen_f, gIx_t, gIx_l, gIx_f, kIx_s, at_0, at_1, at_2, at_3, at_4, at_5, gSl_t, gSl_l,
  List.map_cons, List.map_nil, List.cons_append, List.nil_append, List.append_nil, List.length_cons, List.length_nil, List.replicate_succ, List.replicate_zero, Nat.reduceSub, Nat.reduceAdd, List.getElem?_cons_zero, List.getElem?_cons_succ, List.getElem?_nil, List.set_cons_zero, List.set_cons_succ, List.set_nil, Nat.zero_add, Nat.add_zero,
  List.all_cons, List.all_nil, notSl, Bool.and_true, Bool.true_and, Bool.or_true, Bool.true_or, Bool.and_false, Bool.false_and, Bool.or_false, Bool.false_or, if_true, if_false, Bool.false_eq_true, reduceIte, Bool.not_true, Bool.not_false, Bool.bne_true, Bool.bne_false, decide_true, decide_false, wipeE, backE, backS, nc_0, List.length_map, List.length_append, rg_len, Nat.reduceLeDiff, fd_ix, fi_ix, fi_len, fi_it, dcs, eq_self, Int.reduceEq, Int.reduceLT, Int.reduceLE, Int.reduceAdd, Int.reduceSub, Int.reduceMul, Int.reduceToNat, gIs_c, mkD_n, mkD_s, items, and_true, true_and, and_self, bne_self_eq_false, wt, gIn_t, gIsi_i, gIsi_t, gIsi_s, gIsi_n, gIsi_b, gIsi_l, isi2_c, gEq_n, gEq_l, ev_dk, kDk1_s, kDk2_s, kDk3_s, flatD, eqF_s, eqF_i, eqF_n, List.any_cons, List.any_nil, Rt.o, Option.bind_some, phi0_s, phi1_s, List.reverse_cons, List.reverse_nil, decide_eq_true_eq, *])
/-! ### the law is true -/
theorem tu_ok {g : Bag} {N : Int} (hg : g.In N) (hN : N + 200000 < 2 ^ 60) {e0 e1 e3 c4 c5 c6 c7 c8 c9 c10 e11 : Sl} :
    ∃ (g' : Bag) (d4 d5 d6 d7 d8 d9 d10 : Sl), tuB [e0, e1, .own g.d, e3, c4, c5, c6, c7, c8, c9, c10, e11, .un] = some (.nx [e0, e1, .own g'.d, e3, d4, d5, d6, d7, d8, d9, d10, e11, .un]) ∧ Bag.In g' (N + 50000) := by
  obtain ⟨v1, g1, q1, a1, z1, i1⟩ := grab_ok (n := 3) (by omega) (by omega) hg (by omega)
  obtain ⟨base, p1, r1⟩ := pick3 (x := 2) (y := 4) (z := 16) a1 z1
  obtain ⟨v2, g2, q2, a2, z2, i2⟩ := grab_ok (n := 2) (by omega) (by omega) i1 (by omega)
  obtain ⟨top, p2, r2⟩ := pick2 (x := 3) (y := 20) a2 z2
  obtain ⟨v3, g3, q3, a3, z3, i3⟩ := grab_ok (n := 2) (by omega) (by omega) i2 (by omega)
  obtain ⟨many, p3, r3⟩ := pick2 (x := 3) (y := 8) a3 z3
  obtain ⟨f, g4, q4, o, fb, fl, i4⟩ := drawn_form (base := base) (marks := 4) (most := top) (many := many) (by omega) (by omega) (by omega) (by omega) i3 (by omega)
  obtain ⟨r, g5, q5, hr, i5⟩ := good_ok o fl i4 (by omega)
  obtain ⟨g6, d8, d9, d10, e6, i6⟩ := if_ok o hr i5 (by omega) (e0 := e0) (e1 := e1) (e3 := e3) (e5 := .val (.int top)) (c8 := c8) (c9 := c9) (c10 := c10) (e11 := e11)
  refine ⟨g6, .val (.int f.base), .val (.int top), .val f.d, .val r, d8, d9, d10, ?_, i6.le (by omega)⟩
  rw [← e6]
  rw [← fb] at q4 p1
  clear e6 i1 i2 i3 i4 i5 i6 hr fb fl a1 z1 a2 z2 a3 z3 r1 r2 r3 hg hN
  walk_at "ev"
theorem tl_loop {e0 e1 e11 : Sl} : ∀ (ds : List D) (g : Bag) (N : Int) (c3 c4 c5 c6 c7 c8 c9 c10 : Sl), g.In N → N + 50000 * (ds.length : Int) + 300000 < 2 ^ 60 →
    ∃ (g' : Bag) (d3 d4 d5 d6 d7 d8 d9 d10 : Sl), loopD (.nm 3) tuB ds [e0, e1, .own g.d, c3, c4, c5, c6, c7, c8, c9, c10, e11, .un] = some (.nx [e0, e1, .own g'.d, d3, d4, d5, d6, d7, d8, d9, d10, e11, .un])
  | [], g, N, c3, c4, c5, c6, c7, c8, c9, c10, _, _ => ⟨g, c3, c4, c5, c6, c7, c8, c9, c10, rfl⟩
  | d :: ds, g, N, c3, c4, c5, c6, c7, c8, c9, c10, hg, hN => by
    rw [List.length_cons] at hN
    obtain ⟨g1, d4, d5, d6, d7, d8, d9, d10, e, i1⟩ := tu_ok (g := g) (N := N) hg (by omega) (e0 := e0) (e1 := e1) (e3 := .val d) (c4 := c4) (c5 := c5) (c6 := c6) (c7 := c7) (c8 := c8) (c9 := c9) (c10 := c10) (e11 := e11)
    obtain ⟨g2, x3, x4, x5, x6, x7, x8, x9, x10, e2⟩ := tl_loop (e0 := e0) (e1 := e1) (e11 := e11) ds g1 (N + 50000) (.val d) d4 d5 d6 d7 d8 d9 d10 i1 (by omega)
    refine ⟨g2, x3, x4, x5, x6, x7, x8, x9, x10, ?_⟩
    rw [loop_cons, bt_nm, kLp_s]
    show kLp2 (.nm 3) tuB ds (tuB [e0, e1, .own g.d, .val d, c4, c5, c6, c7, c8, c9, c10, e11, .un]) = _
    rw [e, kLp_n, e2]
theorem at_ok {ns : List Int} {j : Nat} (hj : j ≤ 1000) {c2 c3 c4 c5 c6 c7 c8 c9 c10 e11 : Sl} :
    ∃ (d2 d3 d4 d5 d6 d7 d8 d9 d10 : Sl), atB [.val (.frl (ns.map D.int)), .val (.int j), c2, c3, c4, c5, c6, c7, c8, c9, c10, e11, .un] = some (.nx [.val (.frl (ns.map D.int)), .val (.int j), d2, d3, d4, d5, d6, d7, d8, d9, d10, e11, .un]) := by
  obtain ⟨g, q, i⟩ := law_bag (ns := ns) (at' := j) hj
  obtain ⟨g2, x3, x4, x5, x6, x7, x8, x9, x10, e2⟩ := tl_loop (e0 := .val (.frl (ns.map D.int))) (e1 := .val (.int j)) (e11 := e11) (rgD 0 3) g 0 c3 c4 c5 c6 c7 c8 c9 c10 i (by rw [rg_len]; decide)
  refine ⟨.own g2.d, x3, x4, x5, x6, x7, x8, x9, x10, ?_⟩
  clear i hj
  walk_at "ev"
theorem al_loop {ns : List Int} {e11 : Sl} : ∀ (js : List Nat) (c1 c2 c3 c4 c5 c6 c7 c8 c9 c10 : Sl), (∀ j ∈ js, j ≤ 1000) →
    ∃ (d1 d2 d3 d4 d5 d6 d7 d8 d9 d10 : Sl), loopD (.nm 1) atB (js.map fun i : Nat => D.int (i : Int)) [.val (.frl (ns.map D.int)), c1, c2, c3, c4, c5, c6, c7, c8, c9, c10, e11, .un] = some (.nx [.val (.frl (ns.map D.int)), d1, d2, d3, d4, d5, d6, d7, d8, d9, d10, e11, .un])
  | [], c1, c2, c3, c4, c5, c6, c7, c8, c9, c10, _ => ⟨c1, c2, c3, c4, c5, c6, c7, c8, c9, c10, rfl⟩
  | j :: js, c1, c2, c3, c4, c5, c6, c7, c8, c9, c10, h => by
    obtain ⟨d2, d3, d4, d5, d6, d7, d8, d9, d10, e⟩ := at_ok (ns := ns) (h j (by simp)) (c2 := c2) (c3 := c3) (c4 := c4) (c5 := c5) (c6 := c6) (c7 := c7) (c8 := c8) (c9 := c9) (c10 := c10) (e11 := e11)
    obtain ⟨x1, x2, x3, x4, x5, x6, x7, x8, x9, x10, e2⟩ := al_loop (ns := ns) (e11 := e11) js (.val (.int j)) d2 d3 d4 d5 d6 d7 d8 d9 d10 (fun j hj => h j (by simp [hj]))
    refine ⟨x1, x2, x3, x4, x5, x6, x7, x8, x9, x10, ?_⟩
    rw [List.map_cons, loop_cons, bt_nm, kLp_s]
    show kLp2 (.nm 1) atB _ (atB [.val (.frl (ns.map D.int)), .val (.int j), c2, c3, c4, c5, c6, c7, c8, c9, c10, e11, .un]) = _
    rw [e, kLp_n, e2]
def form0 : Frm := ⟨4, [], .low, 2, [(1, .check)], .skip⟩
theorem form0_ok : form0.Ok := by
  refine ⟨by decide, by decide, (fun k hk => nomatch hk), by decide, by decide, by decide, ?_, ?_, by decide⟩
  · intro t ht
    unfold form0 at ht
    simp at ht
    subst ht; decide
  · unfold form0
    simp
abbrev fD0 : D := .tup [.int 4, .tup [], .str "low", .int 2, .tup [.tup [.int 1, .str "check"]], .str "skip"]
theorem end1 : phi_refusal [fD0, .tup [.int 1, .int 3, .int 0]] = some (.d (.tup [.int 1, .str "length"])) := by
  obtain ⟨c, e, h⟩ := refusal_ok (f := form0) (xs := [1, 3, 0]) form0_ok (by decide) (by decide)
  have h2 : RfX form0 (behM form0 0) [1, 3, 0] (.tup [.int (1 : Nat), .str (Std.length .check).word]) := .bad (i := 1) (t := .length .check) (by decide) rfl rfl
  rw [h.one h2] at e
  exact e
theorem end2 : phi_refusal [fD0, .tup [.int 1, .int 2, .int 1]] = some (.d (.tup [.int 2, .str "length"])) := by
  obtain ⟨c, e, h⟩ := refusal_ok (f := form0) (xs := [1, 2, 1]) form0_ok (by decide) (by decide)
  have h2 : RfX form0 (behM form0 0) [1, 2, 1] (.tup [.int (2 : Nat), .str (Std.second .check 2).word]) := .bad (i := 2) (t := .second .check 2) (by decide) rfl rfl
  rw [h.one h2] at e
  exact e
theorem end3 : phi_refusal [fD0, .tup []] = some (.d .non) := by
  obtain ⟨c, e, h⟩ := refusal_ok (f := form0) (xs := []) form0_ok (by decide) (by decide)
  have h2 : RfX form0 (behM form0 0) [] .non := .read (t := .tag) rfl rfl
  rw [h.one h2] at e
  exact e
abbrev endD : D := .lst [.tup [.int 1, .str "length"], .tup [.int 2, .str "length"], .non]
theorem end_eq : gEq false endD endD = some (.d (.bl true)) := by
  show (if okP endD = true ∧ okP endD = true then some (Opd.d (.bl (eqP endD endD != false))) else none) = _
  have h1 : okP endD = true := by decide +kernel
  have h2 : eqP endD endD = true := by decide +kernel
  rw [if_pos ⟨h1, h1⟩, h2]; rfl
theorem K08_true (ns : List Int) (h : ns.length ≤ 63) : phi_law_08 [.frl (ns.map D.int)] = some (.d (.bl true)) := by
  obtain ⟨m, hm, m0, m1⟩ := min_cut2 (x := 5) (y := (ns.length : Int)) (by omega) (by omega)
  obtain ⟨n, hn, n0, n1⟩ : ∃ n : Int, (if m > 1 then m else 1) = n ∧ 0 ≤ n ∧ n ≤ 1000 := by
    by_cases h2 : m > 1
    · exact ⟨m, if_pos h2, by omega, by omega⟩
    · exact ⟨1, if_neg h2, by omega, by omega⟩
  obtain ⟨x1, x2, x3, x4, x5, x6, x7, x8, x9, x10, e⟩ := al_loop (ns := ns) (e11 := .un) (List.range' 0 n.toNat) .un .un .un .un .un .un .un .un .un .un (fun j hj => by
    have := List.mem_range'.mp hj
    obtain ⟨i, hi, rfl⟩ := this
    omega)
  rw [← rg_range] at e
  have e1 := end1
  have e2 := end2
  have e3 := end3
  have e4 := end_eq
  have n2 : n ≤ 16777216 := by omega
  clear m0 m1 n1 h
  unfold phi_law_08 g_law_08
  walk_at "ev"
end Dv

set_option Elab.async false
set_option linter.all false
set_option maxRecDepth 100000
set_option maxHeartbeats 8000000
namespace Dv.K08
open PySem PySem.Spec PyProof.Rows L2
def topS (i : Nat) : Stmt := PySem.Challenge.pw_bothreaders_k08_every_sign_spoilt.main.body.getD i (.Pass ⟨0, 0, 0, 0⟩)
structure Tx (K : PySem.W.Frag) (w : World) (mg : Str → Option Value) : Prop where
  n_abs : mg "abs" = none
  n_all : mg "all" = none
  n_bool : mg "bool" = none
  n_int : mg "int" = none
  n_isinstance : mg "isinstance" = none
  n_len : mg "len" = none
  n_list : mg "list" = none
  n_max : mg "max" = none
  n_min : mg "min" = none
  n_range : mg "range" = none
  n_str : mg "str" = none
  n_sum : mg "sum" = none
  n_tuple : mg "tuple" = none
  n_zip : mg "zip" = none
  c_BASE : Glo K mg "BASE" dc_BASE
  c_HEAD : Glo K mg "HEAD" dc_HEAD
  c_MOST : Glo K mg "MOST" dc_MOST
  c_NOTHING : Glo K mg "NOTHING" dc_NOTHING
  c_OTHERS : Glo K mg "OTHERS" dc_OTHERS
  c_OVER : Glo K mg "OVER" dc_OVER
  c_ROOM : Glo K mg "ROOM" dc_ROOM
  c_TAG : Glo K mg "TAG" dc_TAG
  c_TAGS : Glo K mg "TAGS" dc_TAGS
  c_TOLD_USES : Glo K mg "TOLD_USES" dc_TOLD_USES
  c_USES : Glo K mg "USES" dc_USES
  c_WIDTH : Glo K mg "WIDTH" dc_WIDTH
  c_WIDTHS : Glo K mg "WIDTHS" dc_WIDTHS
  k_REFUSALS : Kd K w mg "REFUSALS" tb_REFUSALS
abbrev s__law_bag : Stmt := topS 56
theorem sc__law_bag : FnScope ["script", "at", "cell"] ["script", "at"] (defScope s__law_bag) := ⟨rfl, rfl, rfl, by decide +kernel, rfl, by decide +kernel, by decide +kernel⟩
abbrev s__law_grab : Stmt := topS 57
theorem sc__law_grab : FnScope ["bag", "below", "digit", "mix"] ["bag", "below"] (defScope s__law_grab) := ⟨rfl, rfl, rfl, by decide +kernel, rfl, by decide +kernel, by decide +kernel⟩
abbrev s__law_drawn_tags : Stmt := topS 59
theorem sc__law_drawn_tags : FnScope ["bag", "base", "many_here", "kinds_here", "found", "sign"] ["bag", "base", "many_here"] (defScope s__law_drawn_tags) := ⟨rfl, rfl, rfl, by decide +kernel, rfl, by decide +kernel, by decide +kernel⟩
abbrev s__law_drawn_form : Stmt := topS 60
theorem sc__law_drawn_form : FnScope ["bag", "base", "marks_here", "most_here", "many_here", "many_marks", "head_here", "wide", "top", "rows", "k"] ["bag", "base", "marks_here", "most_here", "many_here"] (defScope s__law_drawn_form) := ⟨rfl, rfl, rfl, by decide +kernel, rfl, by decide +kernel, by decide +kernel⟩
abbrev s__law_long : Stmt := topS 62
theorem sc__law_long : FnScope ["form_here", "signs_here", "at", "base", "wide", "top", "first", "second", "worth"] ["form_here", "signs_here", "at"] (defScope s__law_long) := ⟨rfl, rfl, rfl, by decide +kernel, rfl, by decide +kernel, by decide +kernel⟩
abbrev s__law_chunk : Stmt := topS 63
theorem sc__law_chunk : FnScope ["form_here", "signs_here", "at", "use_here", "worth", "body_here", "good"] ["form_here", "signs_here", "at", "use_here"] (defScope s__law_chunk) := ⟨rfl, rfl, rfl, by decide +kernel, rfl, by decide +kernel, by decide +kernel⟩
abbrev s__law_use : Stmt := topS 61
theorem sc__law_use : FnScope ["form_here", "sign", "row"] ["form_here", "sign"] (defScope s__law_use) := ⟨rfl, rfl, rfl, by decide +kernel, rfl, by decide +kernel, by decide +kernel⟩
abbrev s__law_reading : Stmt := topS 64
theorem sc__law_reading : FnScope ["form_here", "signs_here", "content_here", "blind", "k", "at", "use_here", "good", "body_here", "after", "row"] ["form_here", "signs_here"] (defScope s__law_reading) := ⟨rfl, rfl, rfl, by decide +kernel, rfl, by decide +kernel, by decide +kernel⟩
abbrev s__law_written : Stmt := topS 65
theorem sc__law_written : FnScope ["bag", "form_here", "many_here", "base", "found", "ends", "k", "sign", "use_here", "worth", "body_here", "size", "row", "spot", "mark", "turn"] ["bag", "form_here", "many_here"] (defScope s__law_written) := ⟨rfl, rfl, rfl, by decide +kernel, rfl, by decide +kernel, by decide +kernel⟩
abbrev s__law_good_file : Stmt := topS 66
theorem sc__law_good_file : FnScope ["bag", "form_here", "many_here", "most_here", "turn", "row"] ["bag", "form_here", "many_here", "most_here"] (defScope s__law_good_file) := ⟨rfl, rfl, rfl, by decide +kernel, rfl, by decide +kernel, by decide +kernel⟩
abbrev s__law_equal : Stmt := topS 58
theorem sc__law_equal : FnScope ["found", "due", "k"] ["found", "due"] (defScope s__law_equal) := ⟨rfl, rfl, rfl, by decide +kernel, rfl, by decide +kernel, by decide +kernel⟩
abbrev s_is_integer : Stmt := topS 39
theorem sc_is_integer : FnScope ["value"] ["value"] (defScope s_is_integer) := ⟨rfl, rfl, rfl, by decide +kernel, rfl, by decide +kernel, by decide +kernel⟩
abbrev s_is_sign : Stmt := topS 40
theorem sc_is_sign : FnScope ["value", "base"] ["value", "base"] (defScope s_is_sign) := ⟨rfl, rfl, rfl, by decide +kernel, rfl, by decide +kernel, by decide +kernel⟩
abbrev s_are_signs : Stmt := topS 41
theorem sc_are_signs : FnScope ["value", "base", "sign"] ["value", "base"] (defScope s_are_signs) := ⟨rfl, rfl, rfl, by decide +kernel, rfl, by decide +kernel, by decide +kernel⟩
abbrev s__is_word : Stmt := topS 42
theorem sc__is_word : FnScope ["value", "words"] ["value", "words"] (defScope s__is_word) := ⟨rfl, rfl, rfl, by decide +kernel, rfl, by decide +kernel, by decide +kernel⟩
abbrev s__is_tag : Stmt := topS 44
theorem sc__is_tag : FnScope ["value", "base"] ["value", "base"] (defScope s__is_tag) := ⟨rfl, rfl, rfl, by decide +kernel, rfl, by decide +kernel, by decide +kernel⟩
abbrev s__are_tags : Stmt := topS 45
theorem sc__are_tags : FnScope ["value", "base", "tag", "k"] ["value", "base"] (defScope s__are_tags) := ⟨rfl, rfl, rfl, by decide +kernel, rfl, by decide +kernel, by decide +kernel⟩
abbrev s__is_head : Stmt := topS 43
theorem sc__is_head : FnScope ["value", "base", "mark"] ["value", "base"] (defScope s__is_head) := ⟨rfl, rfl, rfl, by decide +kernel, rfl, by decide +kernel, by decide +kernel⟩
abbrev s_is_format : Stmt := topS 35
theorem sc_is_format : FnScope ["value", "base", "head", "width", "most", "tags", "others"] ["value"] (defScope s_is_format) := ⟨rfl, rfl, rfl, by decide +kernel, rfl, by decide +kernel, by decide +kernel⟩
abbrev s_check_format : Stmt := topS 37
theorem sc_check_format : FnScope ["form"] ["form"] (defScope s_check_format) := ⟨rfl, rfl, rfl, by decide +kernel, rfl, by decide +kernel, by decide +kernel⟩
abbrev s_is_file : Stmt := topS 36
theorem sc_is_file : FnScope ["form", "value"] ["form", "value"] (defScope s_is_file) := ⟨rfl, rfl, rfl, by decide +kernel, rfl, by decide +kernel, by decide +kernel⟩
abbrev s_check_file : Stmt := topS 38
theorem sc_check_file : FnScope ["form", "file"] ["form", "file"] (defScope s_check_file) := ⟨rfl, rfl, rfl, by decide +kernel, rfl, by decide +kernel, by decide +kernel⟩
abbrev s_end_tag : Stmt := topS 20
theorem sc_end_tag : FnScope ["form", "tag", "use"] ["form"] (defScope s_end_tag) := ⟨rfl, rfl, rfl, by decide +kernel, rfl, by decide +kernel, by decide +kernel⟩
abbrev s_ends_well : Stmt := topS 29
theorem sc_ends_well : FnScope ["form", "stand"] ["form", "stand"] (defScope s_ends_well) := ⟨rfl, rfl, rfl, by decide +kernel, rfl, by decide +kernel, by decide +kernel⟩
abbrev s_word_at : Stmt := topS 50
theorem sc_word_at : FnScope ["stand"] ["stand"] (defScope s_word_at) := ⟨rfl, rfl, rfl, by decide +kernel, rfl, by decide +kernel, by decide +kernel⟩
abbrev s_refusal_along : Stmt := topS 51
theorem sc_refusal_along : FnScope ["form", "along"] ["form", "along"] (defScope s_refusal_along) := ⟨rfl, rfl, rfl, by decide +kernel, rfl, by decide +kernel, by decide +kernel⟩
abbrev s_behind_marks : Stmt := topS 18
theorem sc_behind_marks : FnScope ["form", "count"] ["form", "count"] (defScope s_behind_marks) := ⟨rfl, rfl, rfl, by decide +kernel, rfl, by decide +kernel, by decide +kernel⟩
abbrev s_first_stand : Stmt := topS 17
theorem sc_first_stand : FnScope ["form"] ["form"] (defScope s_first_stand) := ⟨rfl, rfl, rfl, by decide +kernel, rfl, by decide +kernel, by decide +kernel⟩
abbrev s__behind_body : Stmt := topS 27
theorem sc__behind_body : FnScope ["use", "due"] ["use", "due"] (defScope s__behind_body) := ⟨rfl, rfl, rfl, by decide +kernel, rfl, by decide +kernel, by decide +kernel⟩
abbrev s__behind_body_sign : Stmt := topS 28
theorem sc__behind_body_sign : FnScope ["form", "stand", "sign", "_", "use", "left", "total"] ["form", "stand", "sign"] (defScope s__behind_body_sign) := ⟨rfl, rfl, rfl, by decide +kernel, rfl, by decide +kernel, by decide +kernel⟩
abbrev s__behind_length : Stmt := topS 26
theorem sc__behind_length : FnScope ["use", "length"] ["use", "length"] (defScope s__behind_length) := ⟨rfl, rfl, rfl, by decide +kernel, rfl, by decide +kernel, by decide +kernel⟩
abbrev s__behind_first : Stmt := topS 24
theorem sc__behind_first : FnScope ["form", "use", "sign", "least"] ["form", "use", "sign"] (defScope s__behind_first) := ⟨rfl, rfl, rfl, by decide +kernel, rfl, by decide +kernel, by decide +kernel⟩
abbrev s__behind_mark : Stmt := topS 22
theorem sc__behind_mark : FnScope ["form", "at", "sign", "mark"] ["form", "at", "sign"] (defScope s__behind_mark) := ⟨rfl, rfl, rfl, by decide +kernel, rfl, by decide +kernel, by decide +kernel⟩
abbrev s__behind_second : Stmt := topS 25
theorem sc__behind_second : FnScope ["form", "use", "first", "sign", "length"] ["form", "use", "first", "sign"] (defScope s__behind_second) := ⟨rfl, rfl, rfl, by decide +kernel, rfl, by decide +kernel, by decide +kernel⟩
abbrev s_use_of : Stmt := topS 19
theorem sc_use_of : FnScope ["form", "sign", "tag", "use"] ["form", "sign"] (defScope s_use_of) := ⟨rfl, rfl, rfl, by decide +kernel, rfl, by decide +kernel, by decide +kernel⟩
abbrev s__behind_tag : Stmt := topS 23
theorem sc__behind_tag : FnScope ["form", "sign", "use"] ["form", "sign"] (defScope s__behind_tag) := ⟨rfl, rfl, rfl, by decide +kernel, rfl, by decide +kernel, by decide +kernel⟩
abbrev s_next_stand : Stmt := topS 21
theorem sc_next_stand : FnScope ["form", "stand", "sign", "name"] ["form", "stand", "sign"] (defScope s_next_stand) := ⟨rfl, rfl, rfl, by decide +kernel, rfl, by decide +kernel, by decide +kernel⟩
abbrev s_stands_along : Stmt := topS 31
theorem sc_stands_along : FnScope ["form", "file", "stand", "along", "sign"] ["form", "file"] (defScope s_stands_along) := ⟨rfl, rfl, rfl, by decide +kernel, rfl, by decide +kernel, by decide +kernel⟩
abbrev s_along_read : Stmt := topS 52
theorem sc_along_read : FnScope ["form", "file", "along", "found"] ["form", "file"] (defScope s_along_read) := ⟨rfl, rfl, rfl, by decide +kernel, rfl, by decide +kernel, by decide +kernel⟩
abbrev s__body_of : Stmt := topS 54
theorem sc__body_of : FnScope ["parts", "part"] ["parts"] (defScope s__body_of) := ⟨rfl, rfl, rfl, by decide +kernel, rfl, by decide +kernel, by decide +kernel⟩
abbrev s_told_part : Stmt := topS 30
theorem sc_told_part : FnScope ["form", "stand", "sign"] ["form", "stand", "sign"] (defScope s_told_part) := ⟨rfl, rfl, rfl, by decide +kernel, rfl, by decide +kernel, by decide +kernel⟩
abbrev s_told_along : Stmt := topS 53
theorem sc_told_along : FnScope ["form", "signs", "along", "parts", "begun", "over", "k", "at", "end"] ["form", "signs", "along"] (defScope s_told_along) := ⟨rfl, rfl, rfl, by decide +kernel, rfl, by decide +kernel, by decide +kernel⟩
abbrev s_read : Stmt := topS 48
theorem sc_read : FnScope ["form", "file"] ["form", "file"] (defScope s_read) := ⟨rfl, rfl, rfl, by decide +kernel, rfl, by decide +kernel, by decide +kernel⟩
abbrev s_refusal : Stmt := topS 49
theorem sc_refusal : FnScope ["form", "file"] ["form", "file"] (defScope s_refusal) := ⟨rfl, rfl, rfl, by decide +kernel, rfl, by decide +kernel, by decide +kernel⟩
abbrev s__law_right : Stmt := topS 67
theorem sc__law_right : FnScope ["form_here", "row", "told_here", "blind", "bad"] ["form_here", "row"] (defScope s__law_right) := ⟨rfl, rfl, rfl, by decide +kernel, rfl, by decide +kernel, by decide +kernel⟩
abbrev s_law : Stmt := topS 68
theorem sc_law : FnScope ["script", "at", "bag", "turn", "base", "top", "form_here", "row", "k", "signs_here", "sign_here", "f", "j"] ["script"] (defScope s_law) := ⟨rfl, rfl, rfl, by decide +kernel, rfl, by decide +kernel, by decide +kernel⟩
section
variable {P : Program} {w : World} {K : PySem.W.Frag} {mg : Str → Option Value} {base : Heap}
theorem ok__law_bag (T : Tx K w mg)  (d : DefF K mg "_law_bag" s__law_bag ["script", "at"]) : Cal P w K mg base 1 "_law_bag" ["script", "at"] (spF0 K 2 phi__law_bag) :=
  d.cal fun f fd F => fn_ok0 (g := g__law_bag) F sc__law_bag e__law_bag fun cdv A outer s H E hr =>
    (s_cons (s_set sc__law_bag.nd (d_if (t_cmp opLt (dv 1) (d_b1 c_len T.n_len (by decide +kernel) (dv 0))) (d_ix ixD (dv 0) (dv 1)) d_int))
    (s_one (s_ret (d_lst (a_cons (d_b2 (c_max rfl) T.n_max (by decide +kernel) d_int (d_op opSub (d_b1 c_abs T.n_abs (by decide +kernel) (dv 2)) (d_op opPow d_int d_int))) (a_cons (d_op opAdd (d_op opAdd (d_op opMul (d_op opMod (d_t1 c_int T.n_int (by decide +kernel) (dv 2)) (d_op opAdd (d_op opPow d_int d_int) d_int)) d_int) (d_op opMul d_int (dv 1))) d_int) (a_cons d_int a_nil)))))))
theorem ok__law_grab (T : Tx K w mg)  (d : DefF K mg "_law_grab" s__law_grab ["bag", "below"]) : Cal P w K mg base 1 "_law_grab" ["bag", "below"] (spF1 K 2 phi__law_grab) :=
  d.cal fun f fd F => fn_ok1 (g := g__law_grab) F sc__law_grab e__law_grab fun cdv A outer s H E hr =>
    (s_cons (s_if (t_cmp opGt (d_ix ixD (dv 0) d_int) d_int) (s_cons (s_set sc__law_grab.nd (d_op opMod (d_t1 c_int T.n_int (by decide +kernel) (d_ix ixD (dv 0) d_int)) (dv 1)))
    (s_cons (s_sti (d_op opDiv (d_ix ixD (dv 0) d_int) (dv 1)) d_int)
    (s_one (s_ret (dv 2))))) s_nil)
    (s_cons (s_sti (d_op opAdd (d_ix ixD (dv 0) d_int) d_int) d_int)
    (s_cons (s_set sc__law_grab.nd (d_op opMod (d_op opPow (d_t1 c_int T.n_int (by decide +kernel) (d_op opAdd (d_ix ixD (dv 0) d_int) (d_op opMul d_int (d_ix ixD (dv 0) d_int)))) d_int) (d_op opAdd (d_op opPow d_int d_int) d_int)))
    (s_cons (s_set sc__law_grab.nd (d_op opMod (d_op opPow (d_t1 c_int T.n_int (by decide +kernel) (d_op opAdd (dv 3) (d_op opMul d_int (d_ix ixD (dv 0) d_int)))) d_int) (d_op opAdd (d_op opPow d_int d_int) d_int)))
    (s_one (s_ret (d_op opMod (d_op opDiv (dv 3) d_int) (dv 1))))))))
theorem ok__law_drawn_tags (T : Tx K w mg) (C__law_grab : Cal P w K mg base 1 "_law_grab" ["bag", "below"] (spF1 K 2 phi__law_grab)) (d : DefF K mg "_law_drawn_tags" s__law_drawn_tags ["bag", "base", "many_here"]) : Cal P w K mg base 2 "_law_drawn_tags" ["bag", "base", "many_here"] (spF1 K 3 phi__law_drawn_tags) :=
  d.cal fun f fd F => fn_ok1 (g := g__law_drawn_tags) F sc__law_drawn_tags e__law_drawn_tags fun cdv A outer s H E hr =>
    (s_cons (s_par rfl sc__law_drawn_tags.nd (ap_cons (d_lst (a_cons d_str (a_cons d_str (a_cons d_str (a_cons d_str (a_cons d_str (a_cons d_str (a_cons d_str a_nil)))))))) (ap_cons (d_lst a_nil) ap_nil)))
    (s_cons (s_for rfl (i_rg1 T.n_range (dv 1)) (g_name sc__law_drawn_tags.nd) (s_one (s_if (t_and (t_cmp opLt (d_b1 c_len T.n_len (by decide +kernel) (dv 4)) (dv 2)) (pw_and1 (t_cmp opLt (d_call1 C__law_grab n__law_grab hr (by decide) (a_cons (dv 0) (a_cons (dv 1) a_nil))) (dv 2)))).pt (s_one (s_app (d_tup (a_cons (dv 5) (a_cons (d_ix ixD (dv 3) (d_call1 C__law_grab n__law_grab hr (by decide) (a_cons (dv 0) (a_cons d_int a_nil)))) a_nil))))) s_nil)))
    (s_one (s_ret (d_t1 c_tuple T.n_tuple (by decide +kernel) (dv 4))))))
theorem ok__law_drawn_form (T : Tx K w mg) (C__law_drawn_tags : Cal P w K mg base 2 "_law_drawn_tags" ["bag", "base", "many_here"] (spF1 K 3 phi__law_drawn_tags)) (C__law_grab : Cal P w K mg base 1 "_law_grab" ["bag", "below"] (spF1 K 2 phi__law_grab)) (d : DefF K mg "_law_drawn_form" s__law_drawn_form ["bag", "base", "marks_here", "most_here", "many_here"]) : Cal P w K mg base 3 "_law_drawn_form" ["bag", "base", "marks_here", "most_here", "many_here"] (spF1 K 5 phi__law_drawn_form) :=
  d.cal fun f fd F => fn_ok1 (g := g__law_drawn_form) F sc__law_drawn_form e__law_drawn_form fun cdv A outer s H E hr =>
    (s_cons (s_set sc__law_drawn_form.nd (d_call1 C__law_grab n__law_grab hr (by decide) (a_cons (dv 0) (a_cons (d_op opAdd (dv 2) d_int) a_nil))))
    (s_cons (s_setLc (own := [("k", 10)]) rfl sc__law_drawn_form.nd (blkOk_by (N := ["bag", "base", "marks_here", "most_here", "many_here", "many_marks", "head_here", "wide", "top", "rows", "k"]) (sc := defScope s__law_drawn_form) (by decide +kernel)) (i_rg1 T.n_range (dv 5)) (fun _ _ _ _ _ => (g_name sc__law_drawn_form.nd)) (fun _ _ _ _ _ => ts_nil) (fun _ _ _ _ _ => (d_if (t_cmp (opEq hr.units) (d_call1 C__law_grab n__law_grab hr (by decide) (a_cons (dv 0) (a_cons d_int a_nil))) d_int) d_non (d_call1 C__law_grab n__law_grab hr (by decide) (a_cons (dv 0) (a_cons (dv 1) a_nil))))))
    (s_cons (s_set sc__law_drawn_form.nd (d_ix ixD (d_lst (a_cons d_str (a_cons d_str (a_cons d_str (a_cons d_str a_nil))))) (d_call1 C__law_grab n__law_grab hr (by decide) (a_cons (dv 0) (a_cons d_int a_nil)))))
    (s_cons (s_set sc__law_drawn_form.nd (d_call1 C__law_grab n__law_grab hr (by decide) (a_cons (dv 0) (a_cons (d_op opAdd (dv 3) d_int) a_nil))))
    (s_cons (s_set sc__law_drawn_form.nd (d_call1 C__law_drawn_tags n__law_drawn_tags hr (by decide) (a_cons (dv 0) (a_cons (dv 1) (a_cons (d_call1 C__law_grab n__law_grab hr (by decide) (a_cons (dv 0) (a_cons (d_op opAdd (dv 4) d_int) a_nil))) a_nil)))))
    (s_one (s_ret (d_tup (a_cons (dv 1) (a_cons (d_t1 c_tuple T.n_tuple (by decide +kernel) (dv 6)) (a_cons (dv 7) (a_cons (dv 8) (a_cons (dv 9) (a_cons (d_ix ixD (d_lst (a_cons d_str (a_cons d_str a_nil))) (d_call1 C__law_grab n__law_grab hr (by decide) (a_cons (dv 0) (a_cons d_int a_nil)))) a_nil))))))))))))))
theorem ok__law_long (T : Tx K w mg)  (d : DefF K mg "_law_long" s__law_long ["form_here", "signs_here", "at"]) : Cal P w K mg base 1 "_law_long" ["form_here", "signs_here", "at"] (spF0 K 3 phi__law_long) :=
  d.cal fun f fd F => fn_ok0 (g := g__law_long) F sc__law_long e__law_long fun cdv A outer s H E hr =>
    (s_cons (s_par3 rfl sc__law_long.nd (ap_cons (d_ix ixD (dv 0) d_int) (ap_cons (d_ix ixD (dv 0) d_int) (ap_cons (d_ix ixD (dv 0) d_int) ap_nil))))
    (s_cons (s_if (t_cmp opGe (dv 2) (d_b1 c_len T.n_len (by decide +kernel) (dv 1))) (s_one (s_ret (d_tup (a_cons d_non (a_cons (d_tup (a_cons (d_b1 c_len T.n_len (by decide +kernel) (dv 1)) (a_cons d_str a_nil))) a_nil))))) s_nil)
    (s_cons (s_set sc__law_long.nd (d_ix ixD (dv 1) (dv 2)))
    (s_cons (s_if (t_cmp (opEq hr.units) (dv 4) d_str) (s_one (s_ret (d_if (t_cmp opLe (dv 6) (dv 5)) (d_tup (a_cons (dv 6) (a_cons (d_op opAdd (dv 2) d_int) a_nil))) (d_tup (a_cons d_non (a_cons (d_tup (a_cons (dv 2) (a_cons d_str a_nil))) a_nil)))))) s_nil)
    (s_cons (s_if (t_cmp opGt (d_if (t_cmp (opEq hr.units) (dv 4) d_str) (d_op opMul (dv 6) (dv 3)) (dv 6)) (dv 5)) (s_one (s_ret (d_tup (a_cons d_non (a_cons (d_tup (a_cons (dv 2) (a_cons d_str a_nil))) a_nil))))) s_nil)
    (s_cons (s_if (t_cmp opGe (d_op opAdd (dv 2) d_int) (d_b1 c_len T.n_len (by decide +kernel) (dv 1))) (s_one (s_ret (d_tup (a_cons d_non (a_cons (d_tup (a_cons (d_b1 c_len T.n_len (by decide +kernel) (dv 1)) (a_cons d_str a_nil))) a_nil))))) s_nil)
    (s_cons (s_set sc__law_long.nd (d_ix ixD (dv 1) (d_op opAdd (dv 2) d_int)))
    (s_cons (s_set sc__law_long.nd (d_if (t_cmp (opEq hr.units) (dv 4) d_str) (d_op opAdd (d_op opMul (dv 6) (dv 3)) (dv 7)) (d_op opAdd (d_op opMul (dv 7) (dv 3)) (dv 6))))
    (s_one (s_ret (d_if (t_cmp opLe (dv 8) (dv 5)) (d_tup (a_cons (dv 8) (a_cons (d_op opAdd (dv 2) d_int) a_nil))) (d_tup (a_cons d_non (a_cons (d_tup (a_cons (d_op opAdd (dv 2) d_int) (a_cons d_str a_nil))) a_nil))))))))))))))
theorem ok__law_chunk (T : Tx K w mg) (C__law_long : Cal P w K mg base 1 "_law_long" ["form_here", "signs_here", "at"] (spF0 K 3 phi__law_long)) (d : DefF K mg "_law_chunk" s__law_chunk ["form_here", "signs_here", "at", "use_here"]) : Cal P w K mg base 2 "_law_chunk" ["form_here", "signs_here", "at", "use_here"] (spF0 K 4 phi__law_chunk) :=
  d.cal fun f fd F => fn_ok0 (g := g__law_chunk) F sc__law_chunk e__law_chunk fun cdv A outer s H E hr =>
    (s_cons (s_unp (d_call C__law_long n__law_long hr (by decide) (a_cons (dv 0) (a_cons (dv 1) (a_cons (dv 2) a_nil)))) (g_tup rfl (gs_cons sc__law_chunk.nd (gs_cons sc__law_chunk.nd gs_nil))))
    (s_cons (s_if (t_cmp opIs (dv 4) d_non) (s_one (s_ret (d_tup (a_cons d_non (a_cons (dv 2) a_nil))))) s_nil)
    (s_cons (s_if (t_cmp opGt (d_op opAdd (dv 2) (dv 4)) (d_b1 c_len T.n_len (by decide +kernel) (dv 1))) (s_one (s_ret (d_tup (a_cons d_non (a_cons (d_tup (a_cons (d_b1 c_len T.n_len (by decide +kernel) (dv 1)) (a_cons d_str a_nil))) a_nil))))) s_nil)
    (s_cons (s_set sc__law_chunk.nd (d_sl (dv 1) (p_int (dv 2)) (p_int (d_op opAdd (dv 2) (dv 4)))))
    (s_cons (s_set sc__law_chunk.nd (d_op opAdd (dv 2) (dv 4)))
    (s_cons (s_if (t_cmp (opNe hr.units) (dv 3) d_str) (s_one (s_ret (d_tup (a_cons (dv 5) (a_cons (dv 2) a_nil))))) s_nil)
    (s_cons (s_if (t_cmp opGe (dv 2) (d_b1 c_len T.n_len (by decide +kernel) (dv 1))) (s_one (s_ret (d_tup (a_cons d_non (a_cons (d_tup (a_cons (d_b1 c_len T.n_len (by decide +kernel) (dv 1)) (a_cons d_str a_nil))) a_nil))))) s_nil)
    (s_cons (s_set sc__law_chunk.nd (d_cmp (opEq hr.units) (d_ix ixD (dv 1) (dv 2)) (d_op opMod (d_t1 c_int T.n_int (by decide +kernel) (d_b1 (c_sum rfl) T.n_sum (by decide +kernel) (dv 5))) (d_ix ixD (dv 0) d_int))))
    (s_one (s_ret (d_if (t_val (dv 6)) (d_tup (a_cons (dv 5) (a_cons (d_op opAdd (dv 2) d_int) a_nil))) (d_tup (a_cons d_non (a_cons (d_tup (a_cons (dv 2) (a_cons d_str a_nil))) a_nil))))))))))))))
theorem ok__law_use (T : Tx K w mg)  (d : DefF K mg "_law_use" s__law_use ["form_here", "sign"]) : Cal P w K mg base 1 "_law_use" ["form_here", "sign"] (spF0 K 2 phi__law_use) :=
  d.cal fun f fd F => fn_ok0 (g := g__law_use) F sc__law_use e__law_use fun cdv A outer s H E hr =>
    (s_cons (s_for rfl (i_seq (d_ix ixD (dv 0) d_int)) (g_name sc__law_use.nd) (s_one (s_if (t_cmp (opEq hr.units) (d_ix ixD (dv 2) d_int) (dv 1)) (s_one (s_ret (d_ix ixD (dv 2) d_int))) s_nil)))
    (s_one (s_ret (d_if (t_cmp (opEq hr.units) (d_ix ixD (dv 0) d_int) d_str) d_str d_str))))
theorem ok__law_reading (T : Tx K w mg) (C__law_chunk : Cal P w K mg base 2 "_law_chunk" ["form_here", "signs_here", "at", "use_here"] (spF0 K 4 phi__law_chunk)) (C__law_use : Cal P w K mg base 1 "_law_use" ["form_here", "sign"] (spF0 K 2 phi__law_use)) (d : DefF K mg "_law_reading" s__law_reading ["form_here", "signs_here"]) : Cal P w K mg base 3 "_law_reading" ["form_here", "signs_here"] (spF0 K 2 phi__law_reading) :=
  d.cal fun f fd F => fn_ok0 (g := g__law_reading) F sc__law_reading e__law_reading fun cdv A outer s H E hr =>
    (s_cons (s_par rfl sc__law_reading.nd (ap_cons (d_lst a_nil) (ap_cons (d_lst a_nil) ap_nil)))
    (s_cons (s_for rfl (i_rg1 T.n_range (d_b1 c_len T.n_len (by decide +kernel) (d_ix ixD (dv 0) d_int))) (g_name sc__law_reading.nd) (s_cons (s_if (t_cmp opGe (dv 4) (d_b1 c_len T.n_len (by decide +kernel) (dv 1))) (s_one (s_ret (d_tup (a_cons d_non (a_cons d_non (a_cons (d_tup (a_cons (d_b1 c_len T.n_len (by decide +kernel) (dv 1)) (a_cons d_str a_nil))) a_nil)))))) s_nil)
    (s_one (s_if (t_cmp opIs (d_ix ixD (d_ix ixD (dv 0) d_int) (dv 4)) d_non) (s_one (s_app (dv 4))) (s_one (s_if (t_cmp (opNe hr.units) (d_ix ixD (d_ix ixD (dv 0) d_int) (dv 4)) (d_ix ixD (dv 1) (dv 4))) (s_one (s_ret (d_tup (a_cons d_non (a_cons d_non (a_cons (d_tup (a_cons (dv 4) (a_cons d_str a_nil))) a_nil)))))) s_nil))))))
    (s_cons (s_set sc__law_reading.nd (d_b1 c_len T.n_len (by decide +kernel) (d_ix ixD (dv 0) d_int)))
    (s_cons (s_while (n := wh__law_reading_1) (t_cmp opLt (dv 5) (d_b1 c_len T.n_len (by decide +kernel) (dv 1))) (s_cons (s_set sc__law_reading.nd (d_call C__law_use n__law_use hr (by decide) (a_cons (dv 0) (a_cons (d_ix ixD (dv 1) (dv 5)) a_nil))))
    (s_cons (s_if (t_cmp (opEq hr.units) (dv 6) d_str) (s_one (s_ret (d_tup (a_cons d_non (a_cons d_non (a_cons (d_tup (a_cons (dv 5) (a_cons d_str a_nil))) a_nil)))))) s_nil)
    (s_cons (s_if (t_cmp (opEq hr.units) (dv 6) d_str) (s_one (s_ret (d_tup (a_cons (d_t1 c_tuple T.n_tuple (by decide +kernel) (dv 2)) (a_cons (d_op opAdd (dv 3) (d_lrg2 rfl T.n_list T.n_range (d_op opAdd (dv 5) d_int) (d_b1 c_len T.n_len (by decide +kernel) (dv 1)))) (a_cons d_non a_nil)))))) s_nil)
    (s_cons (s_if (t_cmp (opEq hr.units) (dv 6) d_str) (s_cons (s_set sc__law_reading.nd (d_cmp (opEq hr.units) (d_op opAdd (dv 5) d_int) (d_b1 c_len T.n_len (by decide +kernel) (dv 1))))
    (s_one (s_ret (d_if (t_val (dv 7)) (d_tup (a_cons (d_t1 c_tuple T.n_tuple (by decide +kernel) (dv 2)) (a_cons (dv 3) (a_cons d_non a_nil)))) (d_tup (a_cons d_non (a_cons d_non (a_cons (d_tup (a_cons (d_op opAdd (dv 5) d_int) (a_cons d_str a_nil))) a_nil)))))))) s_nil)
    (s_cons (s_unp (d_call C__law_chunk n__law_chunk hr (by decide) (a_cons (dv 0) (a_cons (dv 1) (a_cons (d_op opAdd (dv 5) d_int) (a_cons (dv 6) a_nil))))) (g_tup rfl (gs_cons sc__law_reading.nd (gs_cons sc__law_reading.nd gs_nil))))
    (s_cons (s_if (t_cmp opIs (dv 8) d_non) (s_one (s_ret (d_tup (a_cons d_non (a_cons d_non (a_cons (dv 9) a_nil)))))) s_nil)
    (s_cons (s_if (t_cmp (opEq hr.units) (dv 6) d_str) (s_one (s_own sc__law_reading.nd (d_op opAdd (dv 3) (d_lrg2 rfl T.n_list T.n_range (d_op opSub (dv 9) (d_b1 c_len T.n_len (by decide +kernel) (dv 8))) (dv 9))))) (s_one (s_app (d_tup (a_cons (d_ix ixD (dv 1) (dv 5)) (a_cons (dv 8) a_nil))))))
    (s_one (s_set sc__law_reading.nd (dv 9)))))))))))
    (s_cons (s_if (t_cmp (opNe hr.units) (d_lc (own := [("row", 10)]) rfl sc__law_reading.nd (blkOk_by (N := ["form_here", "signs_here", "content_here", "blind", "k", "at", "use_here", "good", "body_here", "after", "row"]) (sc := defScope s__law_reading) (by decide +kernel)) (i_seq (d_ix ixD (dv 0) d_int)) (fun _ _ _ _ _ => (g_name sc__law_reading.nd)) (fun _ _ _ _ _ => (ts_one (t_cmp opIn (d_ix ixD (dv 10) d_int) (d_tup (a_cons d_str (a_cons d_str a_nil)))))) (fun _ _ _ _ _ => (dv 10))) (d_lst a_nil)) (s_one (s_ret (d_tup (a_cons d_non (a_cons d_non (a_cons (d_tup (a_cons (d_b1 c_len T.n_len (by decide +kernel) (dv 1)) (a_cons d_str a_nil))) a_nil)))))) s_nil)
    (s_one (s_ret (d_tup (a_cons (d_t1 c_tuple T.n_tuple (by decide +kernel) (dv 2)) (a_cons (dv 3) (a_cons d_non a_nil)))))))))))
theorem ok__law_written (T : Tx K w mg) (C__law_grab : Cal P w K mg base 1 "_law_grab" ["bag", "below"] (spF1 K 2 phi__law_grab)) (C__law_use : Cal P w K mg base 1 "_law_use" ["form_here", "sign"] (spF0 K 2 phi__law_use)) (d : DefF K mg "_law_written" s__law_written ["bag", "form_here", "many_here"]) : Cal P w K mg base 2 "_law_written" ["bag", "form_here", "many_here"] (spF1 K 3 phi__law_written) :=
  d.cal fun f fd F => fn_ok1 (g := g__law_written) F sc__law_written e__law_written fun cdv A outer s H E hr =>
    (s_cons (s_parT (is := [(3, false), (4, true)]) rfl (ap_cons (d_ix ixD (dv 1) d_int) (ap_cons (d_lc (own := [("mark", 14)]) rfl sc__law_written.nd (blkOk_by (N := ["bag", "form_here", "many_here", "base", "found", "ends", "k", "sign", "use_here", "worth", "body_here", "size", "row", "spot", "mark", "turn"]) (sc := defScope s__law_written) (by decide +kernel)) (i_seq (d_ix ixD (dv 1) d_int)) (fun _ _ _ _ _ => (g_name sc__law_written.nd)) (fun _ _ _ _ _ => ts_nil) (fun _ _ _ _ _ => (d_if (t_cmp opIs (dv 14) d_non) (d_call1 C__law_grab n__law_grab hr (by decide) (a_cons (dv 0) (a_cons (d_ix ixD (dv 1) d_int) a_nil))) (dv 14)))) ap_nil)) (n_cons sc__law_written.nd (n_cons sc__law_written.nd n_nil)))
    (s_cons (s_setLc (own := [("row", 12)]) rfl sc__law_written.nd (blkOk_by (N := ["bag", "form_here", "many_here", "base", "found", "ends", "k", "sign", "use_here", "worth", "body_here", "size", "row", "spot", "mark", "turn"]) (sc := defScope s__law_written) (by decide +kernel)) (i_seq (d_ix ixD (dv 1) d_int)) (fun _ _ _ _ _ => (g_name sc__law_written.nd)) (fun _ _ _ _ _ => (ts_one (t_cmp opIn (d_ix ixD (dv 12) d_int) (d_tup (a_cons d_str (a_cons d_str a_nil)))))) (fun _ _ _ _ _ => (dv 12)))
    (s_cons (s_for rfl (i_rg1 T.n_range (d_call1 C__law_grab n__law_grab hr (by decide) (a_cons (dv 0) (a_cons (d_op opAdd (dv 2) d_int) a_nil)))) (g_name sc__law_written.nd) (s_cons (s_set sc__law_written.nd (d_call1 C__law_grab n__law_grab hr (by decide) (a_cons (dv 0) (a_cons (dv 3) a_nil))))
    (s_cons (s_set sc__law_written.nd (d_call C__law_use n__law_use hr (by decide) (a_cons (dv 1) (a_cons (dv 7) a_nil))))
    (s_one (s_if (t_cmp opIn (dv 8) (d_tup (a_cons d_str (a_cons d_str (a_cons d_str a_nil))))) (s_cons (s_set sc__law_written.nd (d_call1 C__law_grab n__law_grab hr (by decide) (a_cons (dv 0) (a_cons (d_op opAdd (d_b2 (c_min rfl) T.n_min (by decide +kernel) (d_ix ixD (dv 1) d_int) (d_ix ixD (d_lst (a_cons d_int (a_cons d_int (a_cons d_int a_nil)))) (d_call1 C__law_grab n__law_grab hr (by decide) (a_cons (dv 0) (a_cons d_int a_nil))))) d_int) a_nil))))
    (s_cons (s_set sc__law_written.nd (d_if (t_cmp (opEq hr.units) (d_ix ixD (dv 1) d_int) d_str) (d_b2 (c_min rfl) T.n_min (by decide +kernel) (dv 9) (d_op opSub (dv 3) d_int)) (d_b2 (c_min rfl) T.n_min (by decide +kernel) (dv 9) (d_op opSub (d_op opMul (dv 3) (dv 3)) d_int))))
    (s_cons (s_setLc (own := [("turn", 15)]) rfl sc__law_written.nd (blkOk_by (N := ["bag", "form_here", "many_here", "base", "found", "ends", "k", "sign", "use_here", "worth", "body_here", "size", "row", "spot", "mark", "turn"]) (sc := defScope s__law_written) (by decide +kernel)) (i_rg1 T.n_range (dv 9)) (fun _ _ _ _ _ => (g_name sc__law_written.nd)) (fun _ _ _ _ _ => ts_nil) (fun _ _ _ _ _ => (d_call1 C__law_grab n__law_grab hr (by decide) (a_cons (dv 0) (a_cons (dv 3) a_nil)))))
    (s_cons (s_set sc__law_written.nd (d_if (t_cmp (opEq hr.units) (d_ix ixD (dv 1) d_int) d_str) (d_lst (a_cons (d_op opDiv (dv 9) (dv 3)) (a_cons (d_op opMod (d_t1 c_int T.n_int (by decide +kernel) (dv 9)) (dv 3)) a_nil))) (d_lst (a_cons (d_op opMod (d_t1 c_int T.n_int (by decide +kernel) (dv 9)) (dv 3)) (a_cons (d_op opDiv (dv 9) (dv 3)) a_nil)))))
    (s_cons (s_own sc__law_written.nd (d_op opAdd (d_op opAdd (d_op opAdd (dv 4) (d_lst (a_cons (dv 7) a_nil))) (d_if (t_cmp (opEq hr.units) (d_ix ixD (dv 1) d_int) d_str) (d_lst (a_cons (dv 9) a_nil)) (dv 11))) (dv 10)))
    (s_one (s_if (t_cmp (opEq hr.units) (dv 8) d_str) (s_one (s_app (d_op opMod (d_t1 c_int T.n_int (by decide +kernel) (d_b1 (c_sum rfl) T.n_sum (by decide +kernel) (dv 10))) (dv 3)))) s_nil))))))) s_nil)))))
    (s_cons (s_if (t_cmp (opNe hr.units) (dv 5) (d_lst a_nil)) (s_cons (s_set sc__law_written.nd (d_ix ixD (dv 5) (d_call1 C__law_grab n__law_grab hr (by decide) (a_cons (dv 0) (a_cons (d_b1 c_len T.n_len (by decide +kernel) (dv 5)) a_nil)))))
    (s_cons (s_app (d_ix ixD (dv 12) d_int))
    (s_one (s_if (t_cmp (opEq hr.units) (d_ix ixD (dv 12) d_int) d_str) (s_one (s_own sc__law_written.nd (d_op opAdd (dv 4) (d_lc (own := [("turn", 15)]) rfl sc__law_written.nd (blkOk_by (N := ["bag", "form_here", "many_here", "base", "found", "ends", "k", "sign", "use_here", "worth", "body_here", "size", "row", "spot", "mark", "turn"]) (sc := defScope s__law_written) (by decide +kernel)) (i_rg1 T.n_range (d_call1 C__law_grab n__law_grab hr (by decide) (a_cons (dv 0) (a_cons d_int a_nil)))) (fun _ _ _ _ _ => (g_name sc__law_written.nd)) (fun _ _ _ _ _ => ts_nil) (fun _ _ _ _ _ => (d_call1 C__law_grab n__law_grab hr (by decide) (a_cons (dv 0) (a_cons (dv 3) a_nil)))))))) s_nil)))) s_nil)
    (s_cons (s_if (t_and (t_cmp (opEq hr.units) (d_call1 C__law_grab n__law_grab hr (by decide) (a_cons (dv 0) (a_cons d_int a_nil))) d_int) (pw_and1 (t_cmp (opNe hr.units) (dv 4) (d_lst a_nil)))).pt (s_cons (s_set sc__law_written.nd (d_call1 C__law_grab n__law_grab hr (by decide) (a_cons (dv 0) (a_cons (d_b1 c_len T.n_len (by decide +kernel) (dv 4)) a_nil))))
    (s_one (s_own sc__law_written.nd (d_op opAdd (d_op opAdd (d_sl (dv 4) p_no (p_int (dv 13))) (d_lst (a_cons (d_call1 C__law_grab n__law_grab hr (by decide) (a_cons (dv 0) (a_cons (dv 3) a_nil))) a_nil))) (d_sl (dv 4) (p_int (d_op opAdd (dv 13) (d_call1 C__law_grab n__law_grab hr (by decide) (a_cons (dv 0) (a_cons d_int a_nil))))) p_no))))) s_nil)
    (s_one (s_ret (d_t1 c_tuple T.n_tuple (by decide +kernel) (dv 4)))))))))
theorem ok__law_good_file (T : Tx K w mg) (C__law_reading : Cal P w K mg base 3 "_law_reading" ["form_here", "signs_here"] (spF0 K 2 phi__law_reading)) (C__law_written : Cal P w K mg base 2 "_law_written" ["bag", "form_here", "many_here"] (spF1 K 3 phi__law_written)) (d : DefF K mg "_law_good_file" s__law_good_file ["bag", "form_here", "many_here", "most_here"]) : Cal P w K mg base 4 "_law_good_file" ["bag", "form_here", "many_here", "most_here"] (spF1 K 4 phi__law_good_file) :=
  d.cal fun f fd F => fn_ok1 (g := g__law_good_file) F sc__law_good_file e__law_good_file fun cdv A outer s H E hr =>
    (s_cons (s_for rfl (i_rg1 T.n_range d_int) (g_name sc__law_good_file.nd) (s_cons (s_set sc__law_good_file.nd (d_call1 C__law_written n__law_written hr (by decide) (a_cons (dv 0) (a_cons (dv 1) (a_cons (dv 2) a_nil)))))
    (s_one (s_if (t_and (t_cmp opLe (d_b1 c_len T.n_len (by decide +kernel) (dv 5)) (dv 3)) (pw_and1 (t_cmp opIs (d_ix ixD (d_call C__law_reading n__law_reading hr (by decide) (a_cons (dv 1) (a_cons (dv 5) a_nil))) d_int) d_non))).pt (s_one (s_ret (dv 5))) s_nil))))
    (s_one (s_ret d_non)))
theorem ok__law_equal (T : Tx K w mg)  (d : DefF K mg "_law_equal" s__law_equal ["found", "due"]) : ∀ k : Nat, Cal P w K mg base (k + 1) "_law_equal" ["found", "due"] (spF0 K 2 (phiR__law_equal k))
  | 0 => d.cal fun f fd F => ⟨fun vs H Q E h => h.1, fun A outer s H args us vs Q E _ _ _ _ h => by obtain ⟨_, _, _, _, h, _⟩ := h; cases h⟩
  | k + 1 => d.cal fun f fd F => by
    have CR := ok__law_equal T  d k
    have nR : ∀ ds r, phiR__law_equal k ds = some r → ds.length = 2 := nR__law_equal k
    refine fn_ok0 (g := g__law_equal (phiR__law_equal k)) F sc__law_equal (eR__law_equal k) fun cdv A outer s H E hr => ?_
    exact (s_cons (s_if (t_or (t_val (d_b2 c_isi T.n_isinstance (by decide +kernel) (dv 0) (d_ty T.n_bool (by decide +kernel)))) (pw_or1 (t_val (d_b2 c_isi T.n_isinstance (by decide +kernel) (dv 1) (d_ty T.n_bool (by decide +kernel)))))).pt (s_one (s_ret (d_and (d_b2 c_isi T.n_isinstance (by decide +kernel) (dv 0) (d_ty T.n_bool (by decide +kernel))) (d_and (d_b2 c_isi T.n_isinstance (by decide +kernel) (dv 1) (d_ty T.n_bool (by decide +kernel))) (pe_one (d_cmp (opEq hr.units) (dv 0) (dv 1))))))) s_nil)
    (s_cons (s_if (t_or (t_cmp (opNe hr.units) (d_b2 c_isi T.n_isinstance (by decide +kernel) (dv 0) (d_ty T.n_list (by decide +kernel))) (d_b2 c_isi T.n_isinstance (by decide +kernel) (dv 1) (d_ty T.n_list (by decide +kernel)))) (pw_or1 (t_cmp (opNe hr.units) (d_b2 c_isi T.n_isinstance (by decide +kernel) (dv 0) (d_ty T.n_tuple (by decide +kernel))) (d_b2 c_isi T.n_isinstance (by decide +kernel) (dv 1) (d_ty T.n_tuple (by decide +kernel)))))).pt (s_one (s_ret d_bl)) s_nil)
    (s_cons (s_if (t_or (t_cmp (opNe hr.units) (d_b2 c_isi T.n_isinstance (by decide +kernel) (dv 0) (d_ty T.n_str (by decide +kernel))) (d_b2 c_isi T.n_isinstance (by decide +kernel) (dv 1) (d_ty T.n_str (by decide +kernel)))) (pw_or1 (t_cmp (opNe hr.units) (d_b2 c_isi T.n_isinstance (by decide +kernel) (dv 0) (d_ty T.n_int (by decide +kernel))) (d_b2 c_isi T.n_isinstance (by decide +kernel) (dv 1) (d_ty T.n_int (by decide +kernel)))))).pt (s_one (s_ret d_bl)) s_nil)
    (s_cons (s_if (t_val (d_isi2 T.n_isinstance (dv 1) (pe_bltn (v := .ty "list") (by rfl) T.n_list (by decide +kernel) rfl) (pe_bltn (v := .ty "tuple") (by rfl) T.n_tuple (by decide +kernel) rfl))) (s_cons (s_if (t_cmp (opNe hr.units) (d_b1 c_len T.n_len (by decide +kernel) (dv 0)) (d_b1 c_len T.n_len (by decide +kernel) (dv 1))) (s_one (s_ret d_bl)) s_nil)
    (s_one (s_ret (d_cmp (opEq hr.units) (d_lc (own := [("k", 2)]) rfl sc__law_equal.nd (blkOk_by (N := ["found", "due", "k"]) (sc := defScope s__law_equal) (by decide +kernel)) (i_rg1 T.n_range (d_b1 c_len T.n_len (by decide +kernel) (dv 1))) (fun _ _ _ _ _ => (g_name sc__law_equal.nd)) (fun _ _ _ _ _ => (ts_one (t_not (t_val (d_call CR nR hr (Nat.le_refl _) (a_cons (d_ix ixD (dv 0) (dv 2)) (a_cons (d_ix ixD (dv 1) (dv 2)) a_nil))))))) (fun _ _ _ _ _ => (dv 2))) (d_lst a_nil))))) s_nil)
    (s_one (s_ret (d_and (d_cmp (opEq hr.units) (d_cmp opIs (dv 0) d_non) (d_cmp opIs (dv 1) d_non)) (pe_one (d_cmp (opEq hr.units) (dv 0) (dv 1))))))))))
theorem ok_is_integer (T : Tx K w mg)  (d : DefF K mg "is_integer" s_is_integer ["value"]) : Cal P w K mg base 1 "is_integer" ["value"] (spF0 K 1 phi_is_integer) :=
  d.cal fun f fd F => fn_ok0 (g := g_is_integer) F sc_is_integer e_is_integer fun cdv A outer s H E hr =>
    (s_one (s_ret (d_and (d_b2 c_isi T.n_isinstance (by decide +kernel) (dv 0) (d_ty T.n_int (by decide +kernel))) (pe_one (d_not (d_b2 c_isi T.n_isinstance (by decide +kernel) (dv 0) (d_ty T.n_bool (by decide +kernel))))))))
theorem ok_is_sign (T : Tx K w mg) (C_is_integer : Cal P w K mg base 1 "is_integer" ["value"] (spF0 K 1 phi_is_integer)) (d : DefF K mg "is_sign" s_is_sign ["value", "base"]) : Cal P w K mg base 2 "is_sign" ["value", "base"] (spF0 K 2 phi_is_sign) :=
  d.cal fun f fd F => fn_ok0 (g := g_is_sign) F sc_is_sign e_is_sign fun cdv A outer s H E hr =>
    (s_one (s_ret (d_and (d_call C_is_integer n_is_integer hr (by decide) (a_cons (dv 0) a_nil)) (pe_one (d_chain opLe opLt d_int (dv 0) (dv 1))))))
theorem ok_are_signs (T : Tx K w mg) (C_is_sign : Cal P w K mg base 2 "is_sign" ["value", "base"] (spF0 K 2 phi_is_sign)) (d : DefF K mg "are_signs" s_are_signs ["value", "base"]) : Cal P w K mg base 3 "are_signs" ["value", "base"] (spF0 K 2 phi_are_signs) :=
  d.cal fun f fd F => fn_ok0 (g := g_are_signs) F sc_are_signs e_are_signs fun cdv A outer s H E hr =>
    (s_one (s_ret (d_and (d_b2 c_isi T.n_isinstance (by decide +kernel) (dv 0) (d_ty T.n_tuple (by decide +kernel))) (pe_one (d_b1 (c_all rfl) T.n_all (by decide +kernel) (d_lc (own := [("sign", 2)]) rfl sc_are_signs.nd (blkOk_by (N := ["value", "base", "sign"]) (sc := defScope s_are_signs) (by decide +kernel)) (i_seq (dv 0)) (fun _ _ _ _ _ => (g_name sc_are_signs.nd)) (fun _ _ _ _ _ => ts_nil) (fun _ _ _ _ _ => (d_call C_is_sign n_is_sign hr (by decide) (a_cons (dv 2) (a_cons (dv 1) a_nil))))))))))
theorem ok__is_word (T : Tx K w mg)  (d : DefF K mg "_is_word" s__is_word ["value", "words"]) : Cal P w K mg base 1 "_is_word" ["value", "words"] (spF0 K 2 phi__is_word) :=
  d.cal fun f fd F => fn_ok0 (g := g__is_word) F sc__is_word e__is_word fun cdv A outer s H E hr =>
    (s_one (s_ret (d_and (d_b2 c_isi T.n_isinstance (by decide +kernel) (dv 0) (d_ty T.n_str (by decide +kernel))) (pe_one (d_cmp opIn (dv 0) (dv 1))))))
theorem ok__is_tag (T : Tx K w mg) (C__is_word : Cal P w K mg base 1 "_is_word" ["value", "words"] (spF0 K 2 phi__is_word)) (C_is_sign : Cal P w K mg base 2 "is_sign" ["value", "base"] (spF0 K 2 phi_is_sign)) (d : DefF K mg "_is_tag" s__is_tag ["value", "base"]) : Cal P w K mg base 3 "_is_tag" ["value", "base"] (spF0 K 2 phi__is_tag) :=
  d.cal fun f fd F => fn_ok0 (g := g__is_tag) F sc__is_tag e__is_tag fun cdv A outer s H E hr =>
    (s_cons (s_if (t_or (t_not (t_val (d_b2 c_isi T.n_isinstance (by decide +kernel) (dv 0) (d_ty T.n_tuple (by decide +kernel))))) (pw_or1 (t_cmp (opNe hr.units) (d_b1 c_len T.n_len (by decide +kernel) (dv 0)) d_int))).pt (s_one (s_ret d_bl)) s_nil)
    (s_one (s_ret (d_and (d_call C_is_sign n_is_sign hr (by decide) (a_cons (d_ix ixD (dv 0) d_int) (a_cons (dv 1) a_nil))) (pe_one (d_call C__is_word n__is_word hr (by decide) (a_cons (d_ix ixD (dv 0) d_int) (a_cons (d_glob T.c_USES) a_nil))))))))
theorem ok__are_tags (T : Tx K w mg) (C__is_tag : Cal P w K mg base 3 "_is_tag" ["value", "base"] (spF0 K 2 phi__is_tag)) (d : DefF K mg "_are_tags" s__are_tags ["value", "base"]) : Cal P w K mg base 4 "_are_tags" ["value", "base"] (spF0 K 2 phi__are_tags) :=
  d.cal fun f fd F => fn_ok0 (g := g__are_tags) F sc__are_tags e__are_tags fun cdv A outer s H E hr =>
    (s_cons (s_if (t_or (t_not (t_val (d_b2 c_isi T.n_isinstance (by decide +kernel) (dv 0) (d_ty T.n_tuple (by decide +kernel))))) (pw_or1 (t_not (t_val (d_b1 (c_all rfl) T.n_all (by decide +kernel) (d_lc (own := [("tag", 2)]) rfl sc__are_tags.nd (blkOk_by (N := ["value", "base", "tag", "k"]) (sc := defScope s__are_tags) (by decide +kernel)) (i_seq (dv 0)) (fun _ _ _ _ _ => (g_name sc__are_tags.nd)) (fun _ _ _ _ _ => ts_nil) (fun _ _ _ _ _ => (d_call C__is_tag n__is_tag hr (by decide) (a_cons (dv 2) (a_cons (dv 1) a_nil)))))))))).pt (s_one (s_ret d_bl)) s_nil)
    (s_one (s_ret (d_b1 (c_all rfl) T.n_all (by decide +kernel) (d_lc (own := [("k", 3)]) rfl sc__are_tags.nd (blkOk_by (N := ["value", "base", "tag", "k"]) (sc := defScope s__are_tags) (by decide +kernel)) (i_rg2 T.n_range d_int (d_b1 c_len T.n_len (by decide +kernel) (dv 0))) (fun _ _ _ _ _ => (g_name sc__are_tags.nd)) (fun _ _ _ _ _ => ts_nil) (fun _ _ _ _ _ => (d_cmp opLt (d_ix ixD (d_ix ixD (dv 0) (d_op opSub (dv 3) d_int)) d_int) (d_ix ixD (d_ix ixD (dv 0) (dv 3)) d_int))))))))
theorem ok__is_head (T : Tx K w mg) (C_is_sign : Cal P w K mg base 2 "is_sign" ["value", "base"] (spF0 K 2 phi_is_sign)) (d : DefF K mg "_is_head" s__is_head ["value", "base"]) : Cal P w K mg base 3 "_is_head" ["value", "base"] (spF0 K 2 phi__is_head) :=
  d.cal fun f fd F => fn_ok0 (g := g__is_head) F sc__is_head e__is_head fun cdv A outer s H E hr =>
    (s_cons (s_if (t_not (t_val (d_b2 c_isi T.n_isinstance (by decide +kernel) (dv 0) (d_ty T.n_tuple (by decide +kernel))))) (s_one (s_ret d_bl)) s_nil)
    (s_one (s_ret (d_b1 (c_all rfl) T.n_all (by decide +kernel) (d_lc (own := [("mark", 2)]) rfl sc__is_head.nd (blkOk_by (N := ["value", "base", "mark"]) (sc := defScope s__is_head) (by decide +kernel)) (i_seq (dv 0)) (fun _ _ _ _ _ => (g_name sc__is_head.nd)) (fun _ _ _ _ _ => ts_nil) (fun _ _ _ _ _ => (d_or (d_cmp opIs (dv 2) d_non) (pe_one (d_call C_is_sign n_is_sign hr (by decide) (a_cons (dv 2) (a_cons (dv 1) a_nil)))))))))))
theorem ok_is_format (T : Tx K w mg) (C__are_tags : Cal P w K mg base 4 "_are_tags" ["value", "base"] (spF0 K 2 phi__are_tags)) (C__is_head : Cal P w K mg base 3 "_is_head" ["value", "base"] (spF0 K 2 phi__is_head)) (C__is_word : Cal P w K mg base 1 "_is_word" ["value", "words"] (spF0 K 2 phi__is_word)) (C_is_integer : Cal P w K mg base 1 "is_integer" ["value"] (spF0 K 1 phi_is_integer)) (d : DefF K mg "is_format" s_is_format ["value"]) : Cal P w K mg base 5 "is_format" ["value"] (spF0 K 1 phi_is_format) :=
  d.cal fun f fd F => fn_ok0 (g := g_is_format) F sc_is_format e_is_format fun cdv A outer s H E hr =>
    (s_cons (s_if (t_or (t_not (t_val (d_b2 c_isi T.n_isinstance (by decide +kernel) (dv 0) (d_ty T.n_tuple (by decide +kernel))))) (pw_or1 (t_cmp (opNe hr.units) (d_b1 c_len T.n_len (by decide +kernel) (dv 0)) d_int))).pt (s_one (s_ret d_bl)) s_nil)
    (s_cons (s_unp (dv 0) (g_tup rfl (gs_cons sc_is_format.nd (gs_cons sc_is_format.nd (gs_cons sc_is_format.nd (gs_cons sc_is_format.nd (gs_cons sc_is_format.nd (gs_cons sc_is_format.nd gs_nil))))))))
    (s_cons (s_if (t_or (t_not (t_val (d_call C_is_integer n_is_integer hr (by decide) (a_cons (dv 1) a_nil)))) (pw_or1 (t_not (t_chain opLe opLe d_int (dv 1) d_int)))).pt (s_one (s_ret d_bl)) s_nil)
    (s_cons (s_if (t_or (t_not (t_val (d_call C__is_head n__is_head hr (by decide) (a_cons (dv 2) (a_cons (dv 1) a_nil))))) (pw_or1 (t_not (t_val (d_call C__is_word n__is_word hr (by decide) (a_cons (dv 3) (a_cons (d_glob T.c_WIDTHS) a_nil))))))).pt (s_one (s_ret d_bl)) s_nil)
    (s_cons (s_if (t_or (t_not (t_val (d_call C_is_integer n_is_integer hr (by decide) (a_cons (dv 4) a_nil)))) (pw_or1 (t_cmp opLt (dv 4) d_int))).pt (s_one (s_ret d_bl)) s_nil)
    (s_one (s_ret (d_and (d_call C__are_tags n__are_tags hr (by decide) (a_cons (dv 5) (a_cons (dv 1) a_nil))) (pe_one (d_call C__is_word n__is_word hr (by decide) (a_cons (dv 6) (a_cons (d_tup (a_cons d_str (a_cons d_str a_nil))) a_nil))))))))))))
theorem ok_check_format (T : Tx K w mg) (C_is_format : Cal P w K mg base 5 "is_format" ["value"] (spF0 K 1 phi_is_format)) (d : DefF K mg "check_format" s_check_format ["form"]) : Cal P w K mg base 6 "check_format" ["form"] (spF0 K 1 phi_check_format) :=
  d.cal fun f fd F => fn_ok0 (g := g_check_format) F sc_check_format e_check_format fun cdv A outer s H E hr =>
    (s_one (s_if (t_not (t_val (d_call C_is_format n_is_format hr (by decide) (a_cons (dv 0) a_nil)))) (s_one s_stuck) s_nil))
theorem ok_is_file (T : Tx K w mg) (C_are_signs : Cal P w K mg base 3 "are_signs" ["value", "base"] (spF0 K 2 phi_are_signs)) (C_check_format : Cal P w K mg base 6 "check_format" ["form"] (spF0 K 1 phi_check_format)) (d : DefF K mg "is_file" s_is_file ["form", "value"]) : Cal P w K mg base 7 "is_file" ["form", "value"] (spF0 K 2 phi_is_file) :=
  d.cal fun f fd F => fn_ok0 (g := g_is_file) F sc_is_file e_is_file fun cdv A outer s H E hr =>
    (s_cons (s_drop (d_call C_check_format n_check_format hr (by decide) (a_cons (dv 0) a_nil)))
    (s_one (s_ret (d_call C_are_signs n_are_signs hr (by decide) (a_cons (dv 1) (a_cons (d_ix ixD (dv 0) (d_glob T.c_BASE)) a_nil))))))
theorem ok_check_file (T : Tx K w mg) (C_is_file : Cal P w K mg base 7 "is_file" ["form", "value"] (spF0 K 2 phi_is_file)) (d : DefF K mg "check_file" s_check_file ["form", "file"]) : Cal P w K mg base 8 "check_file" ["form", "file"] (spF0 K 2 phi_check_file) :=
  d.cal fun f fd F => fn_ok0 (g := g_check_file) F sc_check_file e_check_file fun cdv A outer s H E hr =>
    (s_one (s_if (t_not (t_val (d_call C_is_file n_is_file hr (by decide) (a_cons (dv 0) (a_cons (dv 1) a_nil))))) (s_one s_stuck) s_nil))
theorem ok_end_tag (T : Tx K w mg)  (d : DefF K mg "end_tag" s_end_tag ["form"]) : Cal P w K mg base 1 "end_tag" ["form"] (spF0 K 1 phi_end_tag) :=
  d.cal fun f fd F => fn_ok0 (g := g_end_tag) F sc_end_tag e_end_tag fun cdv A outer s H E hr =>
    (s_cons (s_for rfl (i_seq (d_ix ixD (dv 0) (d_glob T.c_TAGS))) (g_tup rfl (gs_cons sc_end_tag.nd (gs_cons sc_end_tag.nd gs_nil))) (s_one (s_if (t_cmp opIn (dv 2) (d_tup (a_cons d_str (a_cons d_str a_nil)))) (s_one (s_ret (dv 1))) s_nil)))
    (s_one (s_ret d_non)))
theorem ok_ends_well (T : Tx K w mg) (C_end_tag : Cal P w K mg base 1 "end_tag" ["form"] (spF0 K 1 phi_end_tag)) (d : DefF K mg "ends_well" s_ends_well ["form", "stand"]) : Cal P w K mg base 2 "ends_well" ["form", "stand"] (spF0 K 2 phi_ends_well) :=
  d.cal fun f fd F => fn_ok0 (g := g_ends_well) F sc_ends_well e_ends_well fun cdv A outer s H E hr =>
    (s_cons (s_if (t_cmp (opEq hr.units) (dv 1) (d_glob T.c_TAG)) (s_one (s_ret (d_cmp opIs (d_call C_end_tag n_end_tag hr (by decide) (a_cons (dv 0) a_nil)) d_non))) s_nil)
    (s_one (s_ret (d_or (d_cmp (opEq hr.units) (dv 1) (d_glob T.c_ROOM)) (pe_one (d_cmp (opEq hr.units) (dv 1) (d_glob T.c_OVER)))))))
theorem ok_word_at (T : Tx K w mg)  (d : DefF K mg "word_at" s_word_at ["stand"]) : Cal P w K mg base 1 "word_at" ["stand"] (spF0 K 1 phi_word_at) :=
  d.cal fun f fd F => fn_ok0 (g := g_word_at) F sc_word_at e_word_at fun cdv A outer s H E hr =>
    (s_one (s_ret (d_kd T.k_REFUSALS (d_ix ixD (dv 0) d_int))))
theorem ok_refusal_along (T : Tx K w mg) (C_ends_well : Cal P w K mg base 2 "ends_well" ["form", "stand"] (spF0 K 2 phi_ends_well)) (C_word_at : Cal P w K mg base 1 "word_at" ["stand"] (spF0 K 1 phi_word_at)) (d : DefF K mg "refusal_along" s_refusal_along ["form", "along"]) : Cal P w K mg base 3 "refusal_along" ["form", "along"] (spF0 K 2 phi_refusal_along) :=
  d.cal fun f fd F => fn_ok0 (g := g_refusal_along) F sc_refusal_along e_refusal_along fun cdv A outer s H E hr =>
    (s_cons (s_if (t_cmp opIs (d_ix ixD (dv 1) (d_neg d_int)) d_non) (s_one (s_ret (d_tup (a_cons (d_op opSub (d_b1 c_len T.n_len (by decide +kernel) (dv 1)) d_int) (a_cons (d_call C_word_at n_word_at hr (by decide) (a_cons (d_ix ixD (dv 1) (d_neg d_int)) a_nil)) a_nil))))) s_nil)
    (s_cons (s_if (t_not (t_val (d_call C_ends_well n_ends_well hr (by decide) (a_cons (dv 0) (a_cons (d_ix ixD (dv 1) (d_neg d_int)) a_nil))))) (s_one (s_ret (d_tup (a_cons (d_op opSub (d_b1 c_len T.n_len (by decide +kernel) (dv 1)) d_int) (a_cons d_str a_nil))))) s_nil)
    (s_one (s_ret d_non))))
theorem ok_behind_marks (T : Tx K w mg)  (d : DefF K mg "behind_marks" s_behind_marks ["form", "count"]) : Cal P w K mg base 1 "behind_marks" ["form", "count"] (spF0 K 2 phi_behind_marks) :=
  d.cal fun f fd F => fn_ok0 (g := g_behind_marks) F sc_behind_marks e_behind_marks fun cdv A outer s H E hr =>
    (s_cons (s_if (t_cmp opLt (dv 1) (d_b1 c_len T.n_len (by decide +kernel) (d_ix ixD (dv 0) (d_glob T.c_HEAD)))) (s_one (s_ret (d_tup (a_cons d_str (a_cons (dv 1) a_nil))))) s_nil)
    (s_one (s_ret (d_glob T.c_TAG))))
theorem ok_first_stand (T : Tx K w mg) (C_behind_marks : Cal P w K mg base 1 "behind_marks" ["form", "count"] (spF0 K 2 phi_behind_marks)) (d : DefF K mg "first_stand" s_first_stand ["form"]) : Cal P w K mg base 2 "first_stand" ["form"] (spF0 K 1 phi_first_stand) :=
  d.cal fun f fd F => fn_ok0 (g := g_first_stand) F sc_first_stand e_first_stand fun cdv A outer s H E hr =>
    (s_one (s_ret (d_call C_behind_marks n_behind_marks hr (by decide) (a_cons (dv 0) (a_cons d_int a_nil)))))
theorem ok__behind_body (T : Tx K w mg)  (d : DefF K mg "_behind_body" s__behind_body ["use", "due"]) : Cal P w K mg base 1 "_behind_body" ["use", "due"] (spF0 K 2 phi__behind_body) :=
  d.cal fun f fd F => fn_ok0 (g := g__behind_body) F sc__behind_body e__behind_body fun cdv A outer s H E hr =>
    (s_cons (s_if (t_cmp (opEq hr.units) (dv 0) d_str) (s_one (s_ret (d_tup (a_cons d_str (a_cons (dv 1) a_nil))))) s_nil)
    (s_one (s_ret (d_glob T.c_TAG))))
theorem ok__behind_body_sign (T : Tx K w mg) (C__behind_body : Cal P w K mg base 1 "_behind_body" ["use", "due"] (spF0 K 2 phi__behind_body)) (d : DefF K mg "_behind_body_sign" s__behind_body_sign ["form", "stand", "sign"]) : Cal P w K mg base 2 "_behind_body_sign" ["form", "stand", "sign"] (spF0 K 3 phi__behind_body_sign) :=
  d.cal fun f fd F => fn_ok0 (g := g__behind_body_sign) F sc__behind_body_sign e__behind_body_sign fun cdv A outer s H E hr =>
    (s_cons (s_unp (dv 1) (g_tup rfl (gs_cons sc__behind_body_sign.nd (gs_cons sc__behind_body_sign.nd (gs_cons sc__behind_body_sign.nd (gs_cons sc__behind_body_sign.nd gs_nil))))))
    (s_cons (s_if (t_cmp (opEq hr.units) (dv 4) d_str) (s_one (s_set sc__behind_body_sign.nd (d_op opMod (d_op opAdd (dv 6) (dv 2)) (d_ix ixD (dv 0) (d_glob T.c_BASE))))) s_nil)
    (s_cons (s_if (t_cmp opGt (dv 5) d_int) (s_one (s_ret (d_tup (a_cons d_str (a_cons (dv 4) (a_cons (d_op opSub (dv 5) d_int) (a_cons (dv 6) a_nil))))))) s_nil)
    (s_one (s_ret (d_call C__behind_body n__behind_body hr (by decide) (a_cons (dv 4) (a_cons (dv 6) a_nil))))))))
theorem ok__behind_length (T : Tx K w mg) (C__behind_body : Cal P w K mg base 1 "_behind_body" ["use", "due"] (spF0 K 2 phi__behind_body)) (d : DefF K mg "_behind_length" s__behind_length ["use", "length"]) : Cal P w K mg base 2 "_behind_length" ["use", "length"] (spF0 K 2 phi__behind_length) :=
  d.cal fun f fd F => fn_ok0 (g := g__behind_length) F sc__behind_length e__behind_length fun cdv A outer s H E hr =>
    (s_cons (s_if (t_cmp opGt (dv 1) d_int) (s_one (s_ret (d_tup (a_cons d_str (a_cons (dv 0) (a_cons (dv 1) (a_cons d_int a_nil))))))) s_nil)
    (s_one (s_ret (d_call C__behind_body n__behind_body hr (by decide) (a_cons (dv 0) (a_cons d_int a_nil))))))
theorem ok__behind_first (T : Tx K w mg) (C__behind_length : Cal P w K mg base 2 "_behind_length" ["use", "length"] (spF0 K 2 phi__behind_length)) (d : DefF K mg "_behind_first" s__behind_first ["form", "use", "sign"]) : Cal P w K mg base 3 "_behind_first" ["form", "use", "sign"] (spF0 K 3 phi__behind_first) :=
  d.cal fun f fd F => fn_ok0 (g := g__behind_first) F sc__behind_first e__behind_first fun cdv A outer s H E hr =>
    (s_cons (s_set sc__behind_first.nd (d_if (t_cmp (opEq hr.units) (d_ix ixD (dv 0) (d_glob T.c_WIDTH)) d_str) (d_op opMul (dv 2) (d_ix ixD (dv 0) (d_glob T.c_BASE))) (dv 2)))
    (s_cons (s_if (t_cmp opGt (dv 3) (d_ix ixD (dv 0) (d_glob T.c_MOST))) (s_one (s_ret d_non)) s_nil)
    (s_cons (s_if (t_cmp (opEq hr.units) (d_ix ixD (dv 0) (d_glob T.c_WIDTH)) d_str) (s_one (s_ret (d_call C__behind_length n__behind_length hr (by decide) (a_cons (dv 1) (a_cons (dv 2) a_nil))))) s_nil)
    (s_one (s_ret (d_tup (a_cons d_str (a_cons (dv 1) (a_cons (dv 2) a_nil)))))))))
theorem ok__behind_mark (T : Tx K w mg) (C_behind_marks : Cal P w K mg base 1 "behind_marks" ["form", "count"] (spF0 K 2 phi_behind_marks)) (d : DefF K mg "_behind_mark" s__behind_mark ["form", "at", "sign"]) : Cal P w K mg base 2 "_behind_mark" ["form", "at", "sign"] (spF0 K 3 phi__behind_mark) :=
  d.cal fun f fd F => fn_ok0 (g := g__behind_mark) F sc__behind_mark e__behind_mark fun cdv A outer s H E hr =>
    (s_cons (s_set sc__behind_mark.nd (d_ix ixD (d_ix ixD (dv 0) (d_glob T.c_HEAD)) (dv 1)))
    (s_cons (s_if (t_and (t_cmp opIsNot (dv 3) d_non) (pw_and1 (t_cmp (opNe hr.units) (dv 3) (dv 2)))).pt (s_one (s_ret d_non)) s_nil)
    (s_one (s_ret (d_call C_behind_marks n_behind_marks hr (by decide) (a_cons (dv 0) (a_cons (d_op opAdd (dv 1) d_int) a_nil)))))))
theorem ok__behind_second (T : Tx K w mg) (C__behind_length : Cal P w K mg base 2 "_behind_length" ["use", "length"] (spF0 K 2 phi__behind_length)) (d : DefF K mg "_behind_second" s__behind_second ["form", "use", "first", "sign"]) : Cal P w K mg base 3 "_behind_second" ["form", "use", "first", "sign"] (spF0 K 4 phi__behind_second) :=
  d.cal fun f fd F => fn_ok0 (g := g__behind_second) F sc__behind_second e__behind_second fun cdv A outer s H E hr =>
    (s_cons (s_if (t_cmp (opEq hr.units) (d_ix ixD (dv 0) (d_glob T.c_WIDTH)) d_str) (s_one (s_set sc__behind_second.nd (d_op opAdd (d_op opMul (dv 2) (d_ix ixD (dv 0) (d_glob T.c_BASE))) (dv 3)))) (s_one (s_set sc__behind_second.nd (d_op opAdd (d_op opMul (dv 3) (d_ix ixD (dv 0) (d_glob T.c_BASE))) (dv 2)))))
    (s_cons (s_if (t_cmp opGt (dv 4) (d_ix ixD (dv 0) (d_glob T.c_MOST))) (s_one (s_ret d_non)) s_nil)
    (s_one (s_ret (d_call C__behind_length n__behind_length hr (by decide) (a_cons (dv 1) (a_cons (dv 4) a_nil)))))))
theorem ok_use_of (T : Tx K w mg)  (d : DefF K mg "use_of" s_use_of ["form", "sign"]) : Cal P w K mg base 1 "use_of" ["form", "sign"] (spF0 K 2 phi_use_of) :=
  d.cal fun f fd F => fn_ok0 (g := g_use_of) F sc_use_of e_use_of fun cdv A outer s H E hr =>
    (s_cons (s_for rfl (i_seq (d_ix ixD (dv 0) (d_glob T.c_TAGS))) (g_tup rfl (gs_cons sc_use_of.nd (gs_cons sc_use_of.nd gs_nil))) (s_one (s_if (t_cmp (opEq hr.units) (dv 2) (dv 1)) (s_one (s_ret (dv 3))) s_nil)))
    (s_one (s_ret (d_ix ixD (dv 0) (d_glob T.c_OTHERS)))))
theorem ok__behind_tag (T : Tx K w mg) (C_use_of : Cal P w K mg base 1 "use_of" ["form", "sign"] (spF0 K 2 phi_use_of)) (d : DefF K mg "_behind_tag" s__behind_tag ["form", "sign"]) : Cal P w K mg base 2 "_behind_tag" ["form", "sign"] (spF0 K 2 phi__behind_tag) :=
  d.cal fun f fd F => fn_ok0 (g := g__behind_tag) F sc__behind_tag e__behind_tag fun cdv A outer s H E hr =>
    (s_cons (s_set sc__behind_tag.nd (d_call C_use_of n_use_of hr (by decide) (a_cons (dv 0) (a_cons (dv 1) a_nil))))
    (s_cons (s_if (t_cmp (opEq hr.units) (dv 2) d_str) (s_one (s_ret d_non)) s_nil)
    (s_cons (s_if (t_cmp (opEq hr.units) (dv 2) d_str) (s_one (s_ret (d_glob T.c_ROOM))) s_nil)
    (s_cons (s_if (t_cmp (opEq hr.units) (dv 2) d_str) (s_one (s_ret (d_glob T.c_OVER))) s_nil)
    (s_one (s_ret (d_tup (a_cons d_str (a_cons (dv 2) a_nil)))))))))
theorem ok_next_stand (T : Tx K w mg) (C__behind_body_sign : Cal P w K mg base 2 "_behind_body_sign" ["form", "stand", "sign"] (spF0 K 3 phi__behind_body_sign)) (C__behind_first : Cal P w K mg base 3 "_behind_first" ["form", "use", "sign"] (spF0 K 3 phi__behind_first)) (C__behind_mark : Cal P w K mg base 2 "_behind_mark" ["form", "at", "sign"] (spF0 K 3 phi__behind_mark)) (C__behind_second : Cal P w K mg base 3 "_behind_second" ["form", "use", "first", "sign"] (spF0 K 4 phi__behind_second)) (C__behind_tag : Cal P w K mg base 2 "_behind_tag" ["form", "sign"] (spF0 K 2 phi__behind_tag)) (d : DefF K mg "next_stand" s_next_stand ["form", "stand", "sign"]) : Cal P w K mg base 4 "next_stand" ["form", "stand", "sign"] (spF0 K 3 phi_next_stand) :=
  d.cal fun f fd F => fn_ok0 (g := g_next_stand) F sc_next_stand e_next_stand fun cdv A outer s H E hr =>
    (s_cons (s_set sc_next_stand.nd (d_ix ixD (dv 1) d_int))
    (s_cons (s_if (t_cmp (opEq hr.units) (dv 3) d_str) (s_one (s_ret (d_call C__behind_body_sign n__behind_body_sign hr (by decide) (a_cons (dv 0) (a_cons (dv 1) (a_cons (dv 2) a_nil)))))) s_nil)
    (s_cons (s_if (t_cmp (opEq hr.units) (dv 3) d_str) (s_one (s_ret (d_call C__behind_tag n__behind_tag hr (by decide) (a_cons (dv 0) (a_cons (dv 2) a_nil))))) s_nil)
    (s_cons (s_if (t_cmp (opEq hr.units) (dv 3) d_str) (s_one (s_ret (d_call C__behind_mark n__behind_mark hr (by decide) (a_cons (dv 0) (a_cons (d_ix ixD (dv 1) d_int) (a_cons (dv 2) a_nil)))))) s_nil)
    (s_cons (s_if (t_cmp (opEq hr.units) (dv 3) d_str) (s_one (s_ret (d_call C__behind_first n__behind_first hr (by decide) (a_cons (dv 0) (a_cons (d_ix ixD (dv 1) d_int) (a_cons (dv 2) a_nil)))))) s_nil)
    (s_cons (s_if (t_cmp (opEq hr.units) (dv 3) d_str) (s_one (s_ret (d_call C__behind_second n__behind_second hr (by decide) (a_cons (dv 0) (a_cons (d_ix ixD (dv 1) d_int) (a_cons (d_ix ixD (dv 1) d_int) (a_cons (dv 2) a_nil))))))) s_nil)
    (s_cons (s_if (t_cmp (opEq hr.units) (dv 3) d_str) (s_one (s_ret (d_if (t_cmp (opEq hr.units) (dv 2) (d_ix ixD (dv 1) d_int)) (d_glob T.c_TAG) d_non))) s_nil)
    (s_one (s_ret (d_if (t_cmp (opEq hr.units) (dv 3) d_str) (d_glob T.c_ROOM) d_non))))))))))
theorem ok_stands_along (T : Tx K w mg) (C_first_stand : Cal P w K mg base 2 "first_stand" ["form"] (spF0 K 1 phi_first_stand)) (C_next_stand : Cal P w K mg base 4 "next_stand" ["form", "stand", "sign"] (spF0 K 3 phi_next_stand)) (d : DefF K mg "stands_along" s_stands_along ["form", "file"]) : Cal P w K mg base 5 "stands_along" ["form", "file"] (spF0 K 2 phi_stands_along) :=
  d.cal fun f fd F => fn_ok0 (g := g_stands_along) F sc_stands_along e_stands_along fun cdv A outer s H E hr =>
    (s_cons (s_set sc_stands_along.nd (d_call C_first_stand n_first_stand hr (by decide) (a_cons (dv 0) a_nil)))
    (s_cons (s_own sc_stands_along.nd (d_lst (a_cons (dv 2) a_nil)))
    (s_cons (s_for rfl (i_seq (dv 1)) (g_name sc_stands_along.nd) (s_cons (s_set sc_stands_along.nd (d_call C_next_stand n_next_stand hr (by decide) (a_cons (dv 0) (a_cons (dv 2) (a_cons (dv 4) a_nil)))))
    (s_cons (s_app (dv 2))
    (s_one (s_if (t_cmp opIs (dv 2) d_non) (s_one s_break) s_nil)))))
    (s_one (s_ret (dv 3))))))
theorem ok_along_read (T : Tx K w mg) (C_check_file : Cal P w K mg base 8 "check_file" ["form", "file"] (spF0 K 2 phi_check_file)) (C_refusal_along : Cal P w K mg base 3 "refusal_along" ["form", "along"] (spF0 K 2 phi_refusal_along)) (C_stands_along : Cal P w K mg base 5 "stands_along" ["form", "file"] (spF0 K 2 phi_stands_along)) (d : DefF K mg "along_read" s_along_read ["form", "file"]) : Cal P w K mg base 9 "along_read" ["form", "file"] (spF0 K 2 phi_along_read) :=
  d.cal fun f fd F => fn_ok0 (g := g_along_read) F sc_along_read e_along_read fun cdv A outer s H E hr =>
    (s_cons (s_drop (d_call C_check_file n_check_file hr (by decide) (a_cons (dv 0) (a_cons (dv 1) a_nil))))
    (s_cons (s_set sc_along_read.nd (d_call C_stands_along n_stands_along hr (by decide) (a_cons (dv 0) (a_cons (dv 1) a_nil))))
    (s_cons (s_set sc_along_read.nd (d_call C_refusal_along n_refusal_along hr (by decide) (a_cons (dv 0) (a_cons (dv 2) a_nil))))
    (s_cons (s_if (t_cmp opIsNot (dv 3) d_non) (s_one s_stuck) s_nil)
    (s_one (s_ret (dv 2)))))))
theorem ok__body_of (T : Tx K w mg)  (d : DefF K mg "_body_of" s__body_of ["parts"]) : Cal P w K mg base 1 "_body_of" ["parts"] (spF0 K 1 phi__body_of) :=
  d.cal fun f fd F => fn_ok0 (g := g__body_of) F sc__body_of e__body_of fun cdv A outer s H E hr =>
    (s_one (s_ret (d_t1 c_tuple T.n_tuple (by decide +kernel) (d_lc (own := [("part", 1)]) rfl sc__body_of.nd (blkOk_by (N := ["parts", "part"]) (sc := defScope s__body_of) (by decide +kernel)) (i_seq (dv 0)) (fun _ _ _ _ _ => (g_name sc__body_of.nd)) (fun _ _ _ _ _ => (ts_one (t_cmp (opNe hr.units) (dv 1) (d_glob T.c_NOTHING)))) (fun _ _ _ _ _ => (dv 1))))))
theorem ok_told_part (T : Tx K w mg) (C_use_of : Cal P w K mg base 1 "use_of" ["form", "sign"] (spF0 K 2 phi_use_of)) (d : DefF K mg "told_part" s_told_part ["form", "stand", "sign"]) : Cal P w K mg base 2 "told_part" ["form", "stand", "sign"] (spF0 K 3 phi_told_part) :=
  d.cal fun f fd F => fn_ok0 (g := g_told_part) F sc_told_part e_told_part fun cdv A outer s H E hr =>
    (s_cons (s_if (t_and (t_cmp (opEq hr.units) (dv 1) (d_glob T.c_TAG)) (pw_and1 (t_cmp opIn (d_call C_use_of n_use_of hr (by decide) (a_cons (dv 0) (a_cons (dv 2) a_nil))) (d_glob T.c_TOLD_USES)))).pt (s_one (s_ret (d_op opAdd (d_ix ixD (dv 0) (d_glob T.c_BASE)) (dv 2)))) s_nil)
    (s_cons (s_if (t_and (t_cmp (opEq hr.units) (d_ix ixD (dv 1) d_int) d_str) (pw_and1 (t_cmp opIn (d_ix ixD (dv 1) d_int) (d_glob T.c_TOLD_USES)))).pt (s_one (s_ret (dv 2))) s_nil)
    (s_one (s_ret (d_glob T.c_NOTHING)))))
theorem ok_told_along (T : Tx K w mg) (C__body_of : Cal P w K mg base 1 "_body_of" ["parts"] (spF0 K 1 phi__body_of)) (C_told_part : Cal P w K mg base 2 "told_part" ["form", "stand", "sign"] (spF0 K 3 phi_told_part)) (d : DefF K mg "told_along" s_told_along ["form", "signs", "along"]) : Cal P w K mg base 3 "told_along" ["form", "signs", "along"] (spF0 K 3 phi_told_along) :=
  d.cal fun f fd F => fn_ok0 (g := g_told_along) F sc_told_along e_told_along fun cdv A outer s H E hr =>
    (s_cons (s_set sc_told_along.nd (d_lc (own := [("k", 6)]) rfl sc_told_along.nd (blkOk_by (N := ["form", "signs", "along", "parts", "begun", "over", "k", "at", "end"]) (sc := defScope s_told_along) (by decide +kernel)) (i_rg1 T.n_range (d_b1 c_len T.n_len (by decide +kernel) (dv 1))) (fun _ _ _ _ _ => (g_name sc_told_along.nd)) (fun _ _ _ _ _ => ts_nil) (fun _ _ _ _ _ => (d_call C_told_part n_told_part hr (by decide) (a_cons (dv 0) (a_cons (d_ix ixD (dv 2) (dv 6)) (a_cons (d_ix ixD (dv 1) (dv 6)) a_nil)))))))
    (s_cons (s_setLc (own := [("k", 6)]) rfl sc_told_along.nd (blkOk_by (N := ["form", "signs", "along", "parts", "begun", "over", "k", "at", "end"]) (sc := defScope s_told_along) (by decide +kernel)) (i_rg1 T.n_range (d_b1 c_len T.n_len (by decide +kernel) (dv 1))) (fun _ _ _ _ _ => (g_name sc_told_along.nd)) (fun _ _ _ _ _ => (ts_one (t_cmp opGe (d_ix ixD (dv 3) (dv 6)) (d_ix ixD (dv 0) (d_glob T.c_BASE))))) (fun _ _ _ _ _ => (dv 6)))
    (s_cons (s_set sc_told_along.nd (d_op opAdd (d_sl (dv 4) (p_int d_int) p_no) (d_lst (a_cons (d_b1 c_len T.n_len (by decide +kernel) (dv 1)) a_nil))))
    (s_one (s_ret (d_t1 c_tuple T.n_tuple (by decide +kernel) (d_lc (own := [("at", 7), ("end", 8)]) rfl sc_told_along.nd (blkOk_by (N := ["form", "signs", "along", "parts", "begun", "over", "k", "at", "end"]) (sc := defScope s_told_along) (by decide +kernel)) (i_zip T.n_zip (a_cons (dv 4) (a_cons (dv 5) a_nil))) (fun _ _ _ _ _ => (g_tup rfl (gs_cons sc_told_along.nd (gs_cons sc_told_along.nd gs_nil)))) (fun _ _ _ _ _ => ts_nil) (fun _ _ _ _ _ => (d_tup (a_cons (d_ix ixD (dv 1) (dv 7)) (a_cons (d_call C__body_of n__body_of hr (by decide) (a_cons (d_sl (dv 3) (p_int (d_op opAdd (dv 7) d_int)) (p_int (dv 8))) a_nil)) a_nil)))))))))))
theorem ok_read (T : Tx K w mg) (C_along_read : Cal P w K mg base 9 "along_read" ["form", "file"] (spF0 K 2 phi_along_read)) (C_told_along : Cal P w K mg base 3 "told_along" ["form", "signs", "along"] (spF0 K 3 phi_told_along)) (d : DefF K mg "read" s_read ["form", "file"]) : Cal P w K mg base 10 "read" ["form", "file"] (spF0 K 2 phi_read) :=
  d.cal fun f fd F => fn_ok0 (g := g_read) F sc_read e_read fun cdv A outer s H E hr =>
    (s_one (s_ret (d_call C_told_along n_told_along hr (by decide) (a_cons (dv 0) (a_cons (dv 1) (a_cons (d_call C_along_read n_along_read hr (by decide) (a_cons (dv 0) (a_cons (dv 1) a_nil))) a_nil))))))
theorem ok_refusal (T : Tx K w mg) (C_check_file : Cal P w K mg base 8 "check_file" ["form", "file"] (spF0 K 2 phi_check_file)) (C_refusal_along : Cal P w K mg base 3 "refusal_along" ["form", "along"] (spF0 K 2 phi_refusal_along)) (C_stands_along : Cal P w K mg base 5 "stands_along" ["form", "file"] (spF0 K 2 phi_stands_along)) (d : DefF K mg "refusal" s_refusal ["form", "file"]) : Cal P w K mg base 9 "refusal" ["form", "file"] (spF0 K 2 phi_refusal) :=
  d.cal fun f fd F => fn_ok0 (g := g_refusal) F sc_refusal e_refusal fun cdv A outer s H E hr =>
    (s_cons (s_drop (d_call C_check_file n_check_file hr (by decide) (a_cons (dv 0) (a_cons (dv 1) a_nil))))
    (s_one (s_ret (d_call C_refusal_along n_refusal_along hr (by decide) (a_cons (dv 0) (a_cons (d_call C_stands_along n_stands_along hr (by decide) (a_cons (dv 0) (a_cons (dv 1) a_nil))) a_nil))))))
theorem ok__law_right (T : Tx K w mg) (C__law_equal : Cal P w K mg base 9 "_law_equal" ["found", "due"] (spF0 K 2 phi__law_equal)) (C__law_reading : Cal P w K mg base 3 "_law_reading" ["form_here", "signs_here"] (spF0 K 2 phi__law_reading)) (C_read : Cal P w K mg base 10 "read" ["form", "file"] (spF0 K 2 phi_read)) (C_refusal : Cal P w K mg base 9 "refusal" ["form", "file"] (spF0 K 2 phi_refusal)) (d : DefF K mg "_law_right" s__law_right ["form_here", "row"]) : Cal P w K mg base 11 "_law_right" ["form_here", "row"] (spF0 K 2 phi__law_right) :=
  d.cal fun f fd F => fn_ok0 (g := g__law_right) F sc__law_right e__law_right fun cdv A outer s H E hr =>
    (s_cons (s_unp (d_call C__law_reading n__law_reading hr (by decide) (a_cons (dv 0) (a_cons (dv 1) a_nil))) (g_tup rfl (gs_cons sc__law_right.nd (gs_cons sc__law_right.nd (gs_cons sc__law_right.nd gs_nil)))))
    (s_cons (s_if (t_not (t_val (d_call C__law_equal n__law_equal hr (by decide) (a_cons (d_call C_refusal n_refusal hr (by decide) (a_cons (dv 0) (a_cons (dv 1) a_nil))) (a_cons (dv 4) a_nil))))) (s_one (s_ret d_bl)) s_nil)
    (s_one (s_ret (d_or (d_cmp opIsNot (dv 4) d_non) (pe_one (d_call C__law_equal n__law_equal hr (by decide) (a_cons (d_call C_read n_read hr (by decide) (a_cons (dv 0) (a_cons (dv 1) a_nil))) (a_cons (dv 2) a_nil)))))))))
theorem ok_law (T : Tx K w mg) (C__law_bag : Cal P w K mg base 1 "_law_bag" ["script", "at"] (spF0 K 2 phi__law_bag)) (C__law_drawn_form : Cal P w K mg base 3 "_law_drawn_form" ["bag", "base", "marks_here", "most_here", "many_here"] (spF1 K 5 phi__law_drawn_form)) (C__law_good_file : Cal P w K mg base 4 "_law_good_file" ["bag", "form_here", "many_here", "most_here"] (spF1 K 4 phi__law_good_file)) (C__law_grab : Cal P w K mg base 1 "_law_grab" ["bag", "below"] (spF1 K 2 phi__law_grab)) (C__law_right : Cal P w K mg base 11 "_law_right" ["form_here", "row"] (spF0 K 2 phi__law_right)) (C_refusal : Cal P w K mg base 9 "refusal" ["form", "file"] (spF0 K 2 phi_refusal)) {f : Addr} {fd : FuncData} (F : Fun K "law" "law" s_law f fd) : FnOk P w K mg base CX0 12 f fd ["script"] (spF0 K 1 phi_law_08) :=
  fn_ok0 (g := g_law_08) F sc_law e_law_08 fun cdv A outer s H E hr =>
    (s_cons (s_for rfl (i_rg1 T.n_range (d_b2 (c_max rfl) T.n_max (by decide +kernel) d_int (d_b2 (c_min rfl) T.n_min (by decide +kernel) d_int (d_b1 c_len T.n_len (by decide +kernel) (dv 0))))) (g_name sc_law.nd) (s_cons (s_own sc_law.nd (d_call C__law_bag n__law_bag hr (by decide) (a_cons (dv 0) (a_cons (dv 1) a_nil))))
    (s_one (s_for rfl (i_rg1 T.n_range d_int) (g_name sc_law.nd) (s_cons (s_unp (d_tup (a_cons (d_ix ixD (d_lst (a_cons d_int (a_cons d_int (a_cons d_int a_nil)))) (d_call1 C__law_grab n__law_grab hr (by decide) (a_cons (dv 2) (a_cons d_int a_nil)))) (a_cons (d_ix ixD (d_lst (a_cons d_int (a_cons d_int a_nil))) (d_call1 C__law_grab n__law_grab hr (by decide) (a_cons (dv 2) (a_cons d_int a_nil)))) a_nil))) (g_tup rfl (gs_cons sc_law.nd (gs_cons sc_law.nd gs_nil))))
    (s_cons (s_set sc_law.nd (d_call1 C__law_drawn_form n__law_drawn_form hr (by decide) (a_cons (dv 2) (a_cons (dv 4) (a_cons d_int (a_cons (dv 5) (a_cons (d_ix ixD (d_lst (a_cons d_int (a_cons d_int a_nil))) (d_call1 C__law_grab n__law_grab hr (by decide) (a_cons (dv 2) (a_cons d_int a_nil)))) a_nil)))))))
    (s_cons (s_set sc_law.nd (d_call1 C__law_good_file n__law_good_file hr (by decide) (a_cons (dv 2) (a_cons (dv 6) (a_cons d_int (a_cons d_int a_nil))))))
    (s_one (s_if (t_cmp opIsNot (dv 7) d_non) (s_cons (s_for rfl (i_rg1 T.n_range (d_b1 c_len T.n_len (by decide +kernel) (dv 7))) (g_name sc_law.nd) (s_cons (s_set sc_law.nd (d_lrg1 rfl T.n_list T.n_range (dv 4)))
    (s_cons (s_if (t_cmp opGt (dv 4) d_int) (s_one (s_setLc (own := [("j", 12)]) rfl sc_law.nd (blkOk_by (N := ["script", "at", "bag", "turn", "base", "top", "form_here", "row", "k", "signs_here", "sign_here", "f", "j"]) (sc := defScope s_law) (by decide +kernel)) (i_rg1 T.n_range d_int) (fun _ _ _ _ _ => (g_name sc_law.nd)) (fun _ _ _ _ _ => ts_nil) (fun _ _ _ _ _ => (d_call1 C__law_grab n__law_grab hr (by decide) (a_cons (dv 2) (a_cons (dv 4) a_nil)))))) s_nil)
    (s_cons (s_for rfl (i_seq (dv 9)) (g_name sc_law.nd) (s_one (s_if (t_not (t_val (d_call C__law_right n__law_right hr (by decide) (a_cons (dv 6) (a_cons (d_op opAdd (d_op opAdd (d_sl (dv 7) p_no (p_int (dv 8))) (d_tup (a_cons (dv 10) a_nil))) (d_sl (dv 7) (p_int (d_op opAdd (dv 8) d_int)) p_no)) a_nil))))) (s_one (s_ret d_bl)) s_nil)))
    (s_one (s_if (t_not (t_val (d_call C__law_right n__law_right hr (by decide) (a_cons (dv 6) (a_cons (d_sl (dv 7) p_no (p_int (dv 8))) a_nil))))) (s_one (s_ret d_bl)) s_nil))))))
    (s_one (s_if (t_or (t_not (t_val (d_call C__law_right n__law_right hr (by decide) (a_cons (dv 6) (a_cons (d_op opAdd (dv 7) (d_tup (a_cons (d_call1 C__law_grab n__law_grab hr (by decide) (a_cons (dv 2) (a_cons (d_ix ixD (dv 6) d_int) a_nil))) a_nil))) a_nil))))) (pw_or1 (t_not (t_val (d_call C__law_right n__law_right hr (by decide) (a_cons (dv 6) (a_cons (dv 7) a_nil))))))).pt (s_one (s_ret d_bl)) s_nil))) s_nil)))))))))
    (s_cons (s_set sc_law.nd (d_tup (a_cons d_int (a_cons (d_tup a_nil) (a_cons d_str (a_cons d_int (a_cons (d_tup (a_cons (d_tup (a_cons d_int (a_cons d_str a_nil))) a_nil)) (a_cons d_str a_nil))))))))
    (s_one (s_ret (d_cmp (opEq hr.units) (d_lst (a_cons (d_call C_refusal n_refusal hr (by decide) (a_cons (dv 11) (a_cons (d_tup (a_cons d_int (a_cons d_int (a_cons d_int a_nil)))) a_nil))) (a_cons (d_call C_refusal n_refusal hr (by decide) (a_cons (dv 11) (a_cons (d_tup (a_cons d_int (a_cons d_int (a_cons d_int a_nil)))) a_nil))) (a_cons (d_call C_refusal n_refusal hr (by decide) (a_cons (dv 11) (a_cons (d_tup a_nil) a_nil))) a_nil)))) (d_lst (a_cons (d_tup (a_cons d_int (a_cons d_str a_nil))) (a_cons (d_tup (a_cons d_int (a_cons d_str a_nil))) (a_cons d_non a_nil)))))))))
/-- the whole law, from the defs as the top leaves them -/
theorem all_ok (T : Tx K w mg)  (d__law_bag : DefF K mg "_law_bag" s__law_bag ["script", "at"]) (d__law_grab : DefF K mg "_law_grab" s__law_grab ["bag", "below"]) (d__law_drawn_tags : DefF K mg "_law_drawn_tags" s__law_drawn_tags ["bag", "base", "many_here"]) (d__law_drawn_form : DefF K mg "_law_drawn_form" s__law_drawn_form ["bag", "base", "marks_here", "most_here", "many_here"]) (d__law_long : DefF K mg "_law_long" s__law_long ["form_here", "signs_here", "at"]) (d__law_chunk : DefF K mg "_law_chunk" s__law_chunk ["form_here", "signs_here", "at", "use_here"]) (d__law_use : DefF K mg "_law_use" s__law_use ["form_here", "sign"]) (d__law_reading : DefF K mg "_law_reading" s__law_reading ["form_here", "signs_here"]) (d__law_written : DefF K mg "_law_written" s__law_written ["bag", "form_here", "many_here"]) (d__law_good_file : DefF K mg "_law_good_file" s__law_good_file ["bag", "form_here", "many_here", "most_here"]) (d__law_equal : DefF K mg "_law_equal" s__law_equal ["found", "due"]) (d_is_integer : DefF K mg "is_integer" s_is_integer ["value"]) (d_is_sign : DefF K mg "is_sign" s_is_sign ["value", "base"]) (d_are_signs : DefF K mg "are_signs" s_are_signs ["value", "base"]) (d__is_word : DefF K mg "_is_word" s__is_word ["value", "words"]) (d__is_tag : DefF K mg "_is_tag" s__is_tag ["value", "base"]) (d__are_tags : DefF K mg "_are_tags" s__are_tags ["value", "base"]) (d__is_head : DefF K mg "_is_head" s__is_head ["value", "base"]) (d_is_format : DefF K mg "is_format" s_is_format ["value"]) (d_check_format : DefF K mg "check_format" s_check_format ["form"]) (d_is_file : DefF K mg "is_file" s_is_file ["form", "value"]) (d_check_file : DefF K mg "check_file" s_check_file ["form", "file"]) (d_end_tag : DefF K mg "end_tag" s_end_tag ["form"]) (d_ends_well : DefF K mg "ends_well" s_ends_well ["form", "stand"]) (d_word_at : DefF K mg "word_at" s_word_at ["stand"]) (d_refusal_along : DefF K mg "refusal_along" s_refusal_along ["form", "along"]) (d_behind_marks : DefF K mg "behind_marks" s_behind_marks ["form", "count"]) (d_first_stand : DefF K mg "first_stand" s_first_stand ["form"]) (d__behind_body : DefF K mg "_behind_body" s__behind_body ["use", "due"]) (d__behind_body_sign : DefF K mg "_behind_body_sign" s__behind_body_sign ["form", "stand", "sign"]) (d__behind_length : DefF K mg "_behind_length" s__behind_length ["use", "length"]) (d__behind_first : DefF K mg "_behind_first" s__behind_first ["form", "use", "sign"]) (d__behind_mark : DefF K mg "_behind_mark" s__behind_mark ["form", "at", "sign"]) (d__behind_second : DefF K mg "_behind_second" s__behind_second ["form", "use", "first", "sign"]) (d_use_of : DefF K mg "use_of" s_use_of ["form", "sign"]) (d__behind_tag : DefF K mg "_behind_tag" s__behind_tag ["form", "sign"]) (d_next_stand : DefF K mg "next_stand" s_next_stand ["form", "stand", "sign"]) (d_stands_along : DefF K mg "stands_along" s_stands_along ["form", "file"]) (d_along_read : DefF K mg "along_read" s_along_read ["form", "file"]) (d__body_of : DefF K mg "_body_of" s__body_of ["parts"]) (d_told_part : DefF K mg "told_part" s_told_part ["form", "stand", "sign"]) (d_told_along : DefF K mg "told_along" s_told_along ["form", "signs", "along"]) (d_read : DefF K mg "read" s_read ["form", "file"]) (d_refusal : DefF K mg "refusal" s_refusal ["form", "file"]) (d__law_right : DefF K mg "_law_right" s__law_right ["form_here", "row"]) {f : Addr} {fd : FuncData} (F : Fun K "law" "law" s_law f fd) : FnOk P w K mg base CX0 12 f fd ["script"] (spF0 K 1 phi_law_08) := by
  have C__law_bag : Cal P w K mg base 1 "_law_bag" ["script", "at"] (spF0 K 2 phi__law_bag) := ok__law_bag T  d__law_bag
  have C__law_grab : Cal P w K mg base 1 "_law_grab" ["bag", "below"] (spF1 K 2 phi__law_grab) := ok__law_grab T  d__law_grab
  have C__law_drawn_tags : Cal P w K mg base 2 "_law_drawn_tags" ["bag", "base", "many_here"] (spF1 K 3 phi__law_drawn_tags) := ok__law_drawn_tags T C__law_grab d__law_drawn_tags
  have C__law_drawn_form : Cal P w K mg base 3 "_law_drawn_form" ["bag", "base", "marks_here", "most_here", "many_here"] (spF1 K 5 phi__law_drawn_form) := ok__law_drawn_form T C__law_drawn_tags C__law_grab d__law_drawn_form
  have C__law_long : Cal P w K mg base 1 "_law_long" ["form_here", "signs_here", "at"] (spF0 K 3 phi__law_long) := ok__law_long T  d__law_long
  have C__law_chunk : Cal P w K mg base 2 "_law_chunk" ["form_here", "signs_here", "at", "use_here"] (spF0 K 4 phi__law_chunk) := ok__law_chunk T C__law_long d__law_chunk
  have C__law_use : Cal P w K mg base 1 "_law_use" ["form_here", "sign"] (spF0 K 2 phi__law_use) := ok__law_use T  d__law_use
  have C__law_reading : Cal P w K mg base 3 "_law_reading" ["form_here", "signs_here"] (spF0 K 2 phi__law_reading) := ok__law_reading T C__law_chunk C__law_use d__law_reading
  have C__law_written : Cal P w K mg base 2 "_law_written" ["bag", "form_here", "many_here"] (spF1 K 3 phi__law_written) := ok__law_written T C__law_grab C__law_use d__law_written
  have C__law_good_file : Cal P w K mg base 4 "_law_good_file" ["bag", "form_here", "many_here", "most_here"] (spF1 K 4 phi__law_good_file) := ok__law_good_file T C__law_reading C__law_written d__law_good_file
  have C__law_equal : Cal P w K mg base 9 "_law_equal" ["found", "due"] (spF0 K 2 phi__law_equal) := (show Cal P w K mg base 9 "_law_equal" ["found", "due"] (spF0 K 2 phi__law_equal) from ok__law_equal T  d__law_equal 8)
  have C_is_integer : Cal P w K mg base 1 "is_integer" ["value"] (spF0 K 1 phi_is_integer) := ok_is_integer T  d_is_integer
  have C_is_sign : Cal P w K mg base 2 "is_sign" ["value", "base"] (spF0 K 2 phi_is_sign) := ok_is_sign T C_is_integer d_is_sign
  have C_are_signs : Cal P w K mg base 3 "are_signs" ["value", "base"] (spF0 K 2 phi_are_signs) := ok_are_signs T C_is_sign d_are_signs
  have C__is_word : Cal P w K mg base 1 "_is_word" ["value", "words"] (spF0 K 2 phi__is_word) := ok__is_word T  d__is_word
  have C__is_tag : Cal P w K mg base 3 "_is_tag" ["value", "base"] (spF0 K 2 phi__is_tag) := ok__is_tag T C__is_word C_is_sign d__is_tag
  have C__are_tags : Cal P w K mg base 4 "_are_tags" ["value", "base"] (spF0 K 2 phi__are_tags) := ok__are_tags T C__is_tag d__are_tags
  have C__is_head : Cal P w K mg base 3 "_is_head" ["value", "base"] (spF0 K 2 phi__is_head) := ok__is_head T C_is_sign d__is_head
  have C_is_format : Cal P w K mg base 5 "is_format" ["value"] (spF0 K 1 phi_is_format) := ok_is_format T C__are_tags C__is_head C__is_word C_is_integer d_is_format
  have C_check_format : Cal P w K mg base 6 "check_format" ["form"] (spF0 K 1 phi_check_format) := ok_check_format T C_is_format d_check_format
  have C_is_file : Cal P w K mg base 7 "is_file" ["form", "value"] (spF0 K 2 phi_is_file) := ok_is_file T C_are_signs C_check_format d_is_file
  have C_check_file : Cal P w K mg base 8 "check_file" ["form", "file"] (spF0 K 2 phi_check_file) := ok_check_file T C_is_file d_check_file
  have C_end_tag : Cal P w K mg base 1 "end_tag" ["form"] (spF0 K 1 phi_end_tag) := ok_end_tag T  d_end_tag
  have C_ends_well : Cal P w K mg base 2 "ends_well" ["form", "stand"] (spF0 K 2 phi_ends_well) := ok_ends_well T C_end_tag d_ends_well
  have C_word_at : Cal P w K mg base 1 "word_at" ["stand"] (spF0 K 1 phi_word_at) := ok_word_at T  d_word_at
  have C_refusal_along : Cal P w K mg base 3 "refusal_along" ["form", "along"] (spF0 K 2 phi_refusal_along) := ok_refusal_along T C_ends_well C_word_at d_refusal_along
  have C_behind_marks : Cal P w K mg base 1 "behind_marks" ["form", "count"] (spF0 K 2 phi_behind_marks) := ok_behind_marks T  d_behind_marks
  have C_first_stand : Cal P w K mg base 2 "first_stand" ["form"] (spF0 K 1 phi_first_stand) := ok_first_stand T C_behind_marks d_first_stand
  have C__behind_body : Cal P w K mg base 1 "_behind_body" ["use", "due"] (spF0 K 2 phi__behind_body) := ok__behind_body T  d__behind_body
  have C__behind_body_sign : Cal P w K mg base 2 "_behind_body_sign" ["form", "stand", "sign"] (spF0 K 3 phi__behind_body_sign) := ok__behind_body_sign T C__behind_body d__behind_body_sign
  have C__behind_length : Cal P w K mg base 2 "_behind_length" ["use", "length"] (spF0 K 2 phi__behind_length) := ok__behind_length T C__behind_body d__behind_length
  have C__behind_first : Cal P w K mg base 3 "_behind_first" ["form", "use", "sign"] (spF0 K 3 phi__behind_first) := ok__behind_first T C__behind_length d__behind_first
  have C__behind_mark : Cal P w K mg base 2 "_behind_mark" ["form", "at", "sign"] (spF0 K 3 phi__behind_mark) := ok__behind_mark T C_behind_marks d__behind_mark
  have C__behind_second : Cal P w K mg base 3 "_behind_second" ["form", "use", "first", "sign"] (spF0 K 4 phi__behind_second) := ok__behind_second T C__behind_length d__behind_second
  have C_use_of : Cal P w K mg base 1 "use_of" ["form", "sign"] (spF0 K 2 phi_use_of) := ok_use_of T  d_use_of
  have C__behind_tag : Cal P w K mg base 2 "_behind_tag" ["form", "sign"] (spF0 K 2 phi__behind_tag) := ok__behind_tag T C_use_of d__behind_tag
  have C_next_stand : Cal P w K mg base 4 "next_stand" ["form", "stand", "sign"] (spF0 K 3 phi_next_stand) := ok_next_stand T C__behind_body_sign C__behind_first C__behind_mark C__behind_second C__behind_tag d_next_stand
  have C_stands_along : Cal P w K mg base 5 "stands_along" ["form", "file"] (spF0 K 2 phi_stands_along) := ok_stands_along T C_first_stand C_next_stand d_stands_along
  have C_along_read : Cal P w K mg base 9 "along_read" ["form", "file"] (spF0 K 2 phi_along_read) := ok_along_read T C_check_file C_refusal_along C_stands_along d_along_read
  have C__body_of : Cal P w K mg base 1 "_body_of" ["parts"] (spF0 K 1 phi__body_of) := ok__body_of T  d__body_of
  have C_told_part : Cal P w K mg base 2 "told_part" ["form", "stand", "sign"] (spF0 K 3 phi_told_part) := ok_told_part T C_use_of d_told_part
  have C_told_along : Cal P w K mg base 3 "told_along" ["form", "signs", "along"] (spF0 K 3 phi_told_along) := ok_told_along T C__body_of C_told_part d_told_along
  have C_read : Cal P w K mg base 10 "read" ["form", "file"] (spF0 K 2 phi_read) := ok_read T C_along_read C_told_along d_read
  have C_refusal : Cal P w K mg base 9 "refusal" ["form", "file"] (spF0 K 2 phi_refusal) := ok_refusal T C_check_file C_refusal_along C_stands_along d_refusal
  have C__law_right : Cal P w K mg base 11 "_law_right" ["form_here", "row"] (spF0 K 2 phi__law_right) := ok__law_right T C__law_equal C__law_reading C_read C_refusal d__law_right
  exact ok_law T C__law_bag C__law_drawn_form C__law_good_file C__law_grab C__law_right C_refusal F
end
section
variable {P : Program} {w : World} {K : PySem.W.Frag} {mg : Str → Option Value}
theorem fin {h : Heap} {fa : Addr} (X : K.In h) (G : h.Ns mainGlobals mg) (hfa : mg "law" = some (.ref fa))
    (z_abs : PySem.W.nsIn K mainGlobals "abs" = some none)
    (z_all : PySem.W.nsIn K mainGlobals "all" = some none)
    (z_bool : PySem.W.nsIn K mainGlobals "bool" = some none)
    (z_int : PySem.W.nsIn K mainGlobals "int" = some none)
    (z_isinstance : PySem.W.nsIn K mainGlobals "isinstance" = some none)
    (z_len : PySem.W.nsIn K mainGlobals "len" = some none)
    (z_list : PySem.W.nsIn K mainGlobals "list" = some none)
    (z_max : PySem.W.nsIn K mainGlobals "max" = some none)
    (z_min : PySem.W.nsIn K mainGlobals "min" = some none)
    (z_range : PySem.W.nsIn K mainGlobals "range" = some none)
    (z_str : PySem.W.nsIn K mainGlobals "str" = some none)
    (z_sum : PySem.W.nsIn K mainGlobals "sum" = some none)
    (z_tuple : PySem.W.nsIn K mainGlobals "tuple" = some none)
    (z_zip : PySem.W.nsIn K mainGlobals "zip" = some none)
    {t_BASE : Tok} (a_BASE : PySem.W.nsIn K mainGlobals "BASE" = some (some (.int (0) t_BASE)))
    {t_HEAD : Tok} (a_HEAD : PySem.W.nsIn K mainGlobals "HEAD" = some (some (.int (1) t_HEAD)))
    {t_MOST : Tok} (a_MOST : PySem.W.nsIn K mainGlobals "MOST" = some (some (.int (3) t_MOST)))
    {t_NOTHING : Tok} (a_NOTHING : PySem.W.nsIn K mainGlobals "NOTHING" = some (some (.int (-1) t_NOTHING)))
    {t_OTHERS : Tok} (a_OTHERS : PySem.W.nsIn K mainGlobals "OTHERS" = some (some (.int (5) t_OTHERS)))
    {p_OVER : Addr} {q_OVER : Option Addr} {i_OVER : Array Value} {n_OVER : Nat} {s_OVER : Array (Option Value)} (a_OVER : PySem.W.nsIn K mainGlobals "OVER" = some (some (.ref p_OVER))) (l_OVER : K.lookup p_OVER = some ⟨.type "tuple", q_OVER, .seq i_OVER n_OVER, s_OVER⟩) (r_OVER : Vals ([(.str "over")].map toV) i_OVER.toList) (y_OVER : i_OVER.size ≤ 16777216)
    {p_ROOM : Addr} {q_ROOM : Option Addr} {i_ROOM : Array Value} {n_ROOM : Nat} {s_ROOM : Array (Option Value)} (a_ROOM : PySem.W.nsIn K mainGlobals "ROOM" = some (some (.ref p_ROOM))) (l_ROOM : K.lookup p_ROOM = some ⟨.type "tuple", q_ROOM, .seq i_ROOM n_ROOM, s_ROOM⟩) (r_ROOM : Vals ([(.str "room")].map toV) i_ROOM.toList) (y_ROOM : i_ROOM.size ≤ 16777216)
    {p_TAG : Addr} {q_TAG : Option Addr} {i_TAG : Array Value} {n_TAG : Nat} {s_TAG : Array (Option Value)} (a_TAG : PySem.W.nsIn K mainGlobals "TAG" = some (some (.ref p_TAG))) (l_TAG : K.lookup p_TAG = some ⟨.type "tuple", q_TAG, .seq i_TAG n_TAG, s_TAG⟩) (r_TAG : Vals ([(.str "tag")].map toV) i_TAG.toList) (y_TAG : i_TAG.size ≤ 16777216)
    {t_TAGS : Tok} (a_TAGS : PySem.W.nsIn K mainGlobals "TAGS" = some (some (.int (4) t_TAGS)))
    {p_TOLD_USES : Addr} {q_TOLD_USES : Option Addr} {i_TOLD_USES : Array Value} {n_TOLD_USES : Nat} {s_TOLD_USES : Array (Option Value)} (a_TOLD_USES : PySem.W.nsIn K mainGlobals "TOLD_USES" = some (some (.ref p_TOLD_USES))) (l_TOLD_USES : K.lookup p_TOLD_USES = some ⟨.type "tuple", q_TOLD_USES, .seq i_TOLD_USES n_TOLD_USES, s_TOLD_USES⟩) (r_TOLD_USES : Vals ([(.str "keep"), (.str "check")].map toV) i_TOLD_USES.toList) (y_TOLD_USES : i_TOLD_USES.size ≤ 16777216)
    {p_USES : Addr} {q_USES : Option Addr} {i_USES : Array Value} {n_USES : Nat} {s_USES : Array (Option Value)} (a_USES : PySem.W.nsIn K mainGlobals "USES" = some (some (.ref p_USES))) (l_USES : K.lookup p_USES = some ⟨.type "tuple", q_USES, .seq i_USES n_USES, s_USES⟩) (r_USES : Vals ([(.str "keep"), (.str "check"), (.str "skip"), (.str "end"), (.str "stop")].map toV) i_USES.toList) (y_USES : i_USES.size ≤ 16777216)
    {t_WIDTH : Tok} (a_WIDTH : PySem.W.nsIn K mainGlobals "WIDTH" = some (some (.int (2) t_WIDTH)))
    {p_WIDTHS : Addr} {q_WIDTHS : Option Addr} {i_WIDTHS : Array Value} {n_WIDTHS : Nat} {s_WIDTHS : Array (Option Value)} (a_WIDTHS : PySem.W.nsIn K mainGlobals "WIDTHS" = some (some (.ref p_WIDTHS))) (l_WIDTHS : K.lookup p_WIDTHS = some ⟨.type "tuple", q_WIDTHS, .seq i_WIDTHS n_WIDTHS, s_WIDTHS⟩) (r_WIDTHS : Vals ([(.str "one"), (.str "high"), (.str "low")].map toV) i_WIDTHS.toList) (y_WIDTHS : i_WIDTHS.size ≤ 16777216)
    {p_REFUSALS : Addr} {i_REFUSALS : Array DictEntry} {n_REFUSALS : Nat} (a_REFUSALS : PySem.W.nsIn K mainGlobals "REFUSALS" = some (some (.ref p_REFUSALS))) (l_REFUSALS : K.lookup p_REFUSALS = some ⟨.type "dict", none, .dict i_REFUSALS n_REFUSALS, #[]⟩) (k_REFUSALS : PySem.W.KeysLit w.params i_REFUSALS.toList) {t0_REFUSALS : Tok} (e0_REFUSALS : PySem.W.nsIn K p_REFUSALS "head" = some (some (.str "head" t0_REFUSALS))) {t1_REFUSALS : Tok} (e1_REFUSALS : PySem.W.nsIn K p_REFUSALS "tag" = some (some (.str "tag" t1_REFUSALS))) {t2_REFUSALS : Tok} (e2_REFUSALS : PySem.W.nsIn K p_REFUSALS "length" = some (some (.str "length" t2_REFUSALS))) {t3_REFUSALS : Tok} (e3_REFUSALS : PySem.W.nsIn K p_REFUSALS "second" = some (some (.str "length" t3_REFUSALS))) {t4_REFUSALS : Tok} (e4_REFUSALS : PySem.W.nsIn K p_REFUSALS "sum" = some (some (.str "check" t4_REFUSALS))) {t5_REFUSALS : Tok} (e5_REFUSALS : PySem.W.nsIn K p_REFUSALS "over" = some (some (.str "behind" t5_REFUSALS)))
    {f__law_bag : Addr} {oc__law_bag kV__law_bag doc__law_bag pm__law_bag cdv__law_bag ct__law_bag : Value} {od__law_bag an__law_bag : Option Addr} {sl__law_bag : Array (Option Value)} (a__law_bag : PySem.W.nsIn K mainGlobals "_law_bag" = some (some (.ref f__law_bag))) (l__law_bag : K.lookup f__law_bag = some ⟨oc__law_bag, od__law_bag, .func (PySem.W.fnOf "_law_bag" "_law_bag" (defArgs s__law_bag) (defBody s__law_bag) (defScope s__law_bag) .none kV__law_bag doc__law_bag pm__law_bag an__law_bag cdv__law_bag ct__law_bag), sl__law_bag⟩) (c__law_bag : PySem.W.codeIn K cdv__law_bag "_law_bag" = true) (k__law_bag : PySem.W.keepIn K (.ref f__law_bag) = true)
    {f__law_grab : Addr} {oc__law_grab kV__law_grab doc__law_grab pm__law_grab cdv__law_grab ct__law_grab : Value} {od__law_grab an__law_grab : Option Addr} {sl__law_grab : Array (Option Value)} (a__law_grab : PySem.W.nsIn K mainGlobals "_law_grab" = some (some (.ref f__law_grab))) (l__law_grab : K.lookup f__law_grab = some ⟨oc__law_grab, od__law_grab, .func (PySem.W.fnOf "_law_grab" "_law_grab" (defArgs s__law_grab) (defBody s__law_grab) (defScope s__law_grab) .none kV__law_grab doc__law_grab pm__law_grab an__law_grab cdv__law_grab ct__law_grab), sl__law_grab⟩) (c__law_grab : PySem.W.codeIn K cdv__law_grab "_law_grab" = true) (k__law_grab : PySem.W.keepIn K (.ref f__law_grab) = true)
    {f__law_drawn_tags : Addr} {oc__law_drawn_tags kV__law_drawn_tags doc__law_drawn_tags pm__law_drawn_tags cdv__law_drawn_tags ct__law_drawn_tags : Value} {od__law_drawn_tags an__law_drawn_tags : Option Addr} {sl__law_drawn_tags : Array (Option Value)} (a__law_drawn_tags : PySem.W.nsIn K mainGlobals "_law_drawn_tags" = some (some (.ref f__law_drawn_tags))) (l__law_drawn_tags : K.lookup f__law_drawn_tags = some ⟨oc__law_drawn_tags, od__law_drawn_tags, .func (PySem.W.fnOf "_law_drawn_tags" "_law_drawn_tags" (defArgs s__law_drawn_tags) (defBody s__law_drawn_tags) (defScope s__law_drawn_tags) .none kV__law_drawn_tags doc__law_drawn_tags pm__law_drawn_tags an__law_drawn_tags cdv__law_drawn_tags ct__law_drawn_tags), sl__law_drawn_tags⟩) (c__law_drawn_tags : PySem.W.codeIn K cdv__law_drawn_tags "_law_drawn_tags" = true) (k__law_drawn_tags : PySem.W.keepIn K (.ref f__law_drawn_tags) = true)
    {f__law_drawn_form : Addr} {oc__law_drawn_form kV__law_drawn_form doc__law_drawn_form pm__law_drawn_form cdv__law_drawn_form ct__law_drawn_form : Value} {od__law_drawn_form an__law_drawn_form : Option Addr} {sl__law_drawn_form : Array (Option Value)} (a__law_drawn_form : PySem.W.nsIn K mainGlobals "_law_drawn_form" = some (some (.ref f__law_drawn_form))) (l__law_drawn_form : K.lookup f__law_drawn_form = some ⟨oc__law_drawn_form, od__law_drawn_form, .func (PySem.W.fnOf "_law_drawn_form" "_law_drawn_form" (defArgs s__law_drawn_form) (defBody s__law_drawn_form) (defScope s__law_drawn_form) .none kV__law_drawn_form doc__law_drawn_form pm__law_drawn_form an__law_drawn_form cdv__law_drawn_form ct__law_drawn_form), sl__law_drawn_form⟩) (c__law_drawn_form : PySem.W.codeIn K cdv__law_drawn_form "_law_drawn_form" = true) (k__law_drawn_form : PySem.W.keepIn K (.ref f__law_drawn_form) = true)
    {f__law_long : Addr} {oc__law_long kV__law_long doc__law_long pm__law_long cdv__law_long ct__law_long : Value} {od__law_long an__law_long : Option Addr} {sl__law_long : Array (Option Value)} (a__law_long : PySem.W.nsIn K mainGlobals "_law_long" = some (some (.ref f__law_long))) (l__law_long : K.lookup f__law_long = some ⟨oc__law_long, od__law_long, .func (PySem.W.fnOf "_law_long" "_law_long" (defArgs s__law_long) (defBody s__law_long) (defScope s__law_long) .none kV__law_long doc__law_long pm__law_long an__law_long cdv__law_long ct__law_long), sl__law_long⟩) (c__law_long : PySem.W.codeIn K cdv__law_long "_law_long" = true) (k__law_long : PySem.W.keepIn K (.ref f__law_long) = true)
    {f__law_chunk : Addr} {oc__law_chunk kV__law_chunk doc__law_chunk pm__law_chunk cdv__law_chunk ct__law_chunk : Value} {od__law_chunk an__law_chunk : Option Addr} {sl__law_chunk : Array (Option Value)} (a__law_chunk : PySem.W.nsIn K mainGlobals "_law_chunk" = some (some (.ref f__law_chunk))) (l__law_chunk : K.lookup f__law_chunk = some ⟨oc__law_chunk, od__law_chunk, .func (PySem.W.fnOf "_law_chunk" "_law_chunk" (defArgs s__law_chunk) (defBody s__law_chunk) (defScope s__law_chunk) .none kV__law_chunk doc__law_chunk pm__law_chunk an__law_chunk cdv__law_chunk ct__law_chunk), sl__law_chunk⟩) (c__law_chunk : PySem.W.codeIn K cdv__law_chunk "_law_chunk" = true) (k__law_chunk : PySem.W.keepIn K (.ref f__law_chunk) = true)
    {f__law_use : Addr} {oc__law_use kV__law_use doc__law_use pm__law_use cdv__law_use ct__law_use : Value} {od__law_use an__law_use : Option Addr} {sl__law_use : Array (Option Value)} (a__law_use : PySem.W.nsIn K mainGlobals "_law_use" = some (some (.ref f__law_use))) (l__law_use : K.lookup f__law_use = some ⟨oc__law_use, od__law_use, .func (PySem.W.fnOf "_law_use" "_law_use" (defArgs s__law_use) (defBody s__law_use) (defScope s__law_use) .none kV__law_use doc__law_use pm__law_use an__law_use cdv__law_use ct__law_use), sl__law_use⟩) (c__law_use : PySem.W.codeIn K cdv__law_use "_law_use" = true) (k__law_use : PySem.W.keepIn K (.ref f__law_use) = true)
    {f__law_reading : Addr} {oc__law_reading kV__law_reading doc__law_reading pm__law_reading cdv__law_reading ct__law_reading : Value} {od__law_reading an__law_reading : Option Addr} {sl__law_reading : Array (Option Value)} (a__law_reading : PySem.W.nsIn K mainGlobals "_law_reading" = some (some (.ref f__law_reading))) (l__law_reading : K.lookup f__law_reading = some ⟨oc__law_reading, od__law_reading, .func (PySem.W.fnOf "_law_reading" "_law_reading" (defArgs s__law_reading) (defBody s__law_reading) (defScope s__law_reading) .none kV__law_reading doc__law_reading pm__law_reading an__law_reading cdv__law_reading ct__law_reading), sl__law_reading⟩) (c__law_reading : PySem.W.codeIn K cdv__law_reading "_law_reading" = true) (k__law_reading : PySem.W.keepIn K (.ref f__law_reading) = true)
    {f__law_written : Addr} {oc__law_written kV__law_written doc__law_written pm__law_written cdv__law_written ct__law_written : Value} {od__law_written an__law_written : Option Addr} {sl__law_written : Array (Option Value)} (a__law_written : PySem.W.nsIn K mainGlobals "_law_written" = some (some (.ref f__law_written))) (l__law_written : K.lookup f__law_written = some ⟨oc__law_written, od__law_written, .func (PySem.W.fnOf "_law_written" "_law_written" (defArgs s__law_written) (defBody s__law_written) (defScope s__law_written) .none kV__law_written doc__law_written pm__law_written an__law_written cdv__law_written ct__law_written), sl__law_written⟩) (c__law_written : PySem.W.codeIn K cdv__law_written "_law_written" = true) (k__law_written : PySem.W.keepIn K (.ref f__law_written) = true)
    {f__law_good_file : Addr} {oc__law_good_file kV__law_good_file doc__law_good_file pm__law_good_file cdv__law_good_file ct__law_good_file : Value} {od__law_good_file an__law_good_file : Option Addr} {sl__law_good_file : Array (Option Value)} (a__law_good_file : PySem.W.nsIn K mainGlobals "_law_good_file" = some (some (.ref f__law_good_file))) (l__law_good_file : K.lookup f__law_good_file = some ⟨oc__law_good_file, od__law_good_file, .func (PySem.W.fnOf "_law_good_file" "_law_good_file" (defArgs s__law_good_file) (defBody s__law_good_file) (defScope s__law_good_file) .none kV__law_good_file doc__law_good_file pm__law_good_file an__law_good_file cdv__law_good_file ct__law_good_file), sl__law_good_file⟩) (c__law_good_file : PySem.W.codeIn K cdv__law_good_file "_law_good_file" = true) (k__law_good_file : PySem.W.keepIn K (.ref f__law_good_file) = true)
    {f__law_equal : Addr} {oc__law_equal kV__law_equal doc__law_equal pm__law_equal cdv__law_equal ct__law_equal : Value} {od__law_equal an__law_equal : Option Addr} {sl__law_equal : Array (Option Value)} (a__law_equal : PySem.W.nsIn K mainGlobals "_law_equal" = some (some (.ref f__law_equal))) (l__law_equal : K.lookup f__law_equal = some ⟨oc__law_equal, od__law_equal, .func (PySem.W.fnOf "_law_equal" "_law_equal" (defArgs s__law_equal) (defBody s__law_equal) (defScope s__law_equal) .none kV__law_equal doc__law_equal pm__law_equal an__law_equal cdv__law_equal ct__law_equal), sl__law_equal⟩) (c__law_equal : PySem.W.codeIn K cdv__law_equal "_law_equal" = true) (k__law_equal : PySem.W.keepIn K (.ref f__law_equal) = true)
    {f_is_integer : Addr} {oc_is_integer kV_is_integer doc_is_integer pm_is_integer cdv_is_integer ct_is_integer : Value} {od_is_integer an_is_integer : Option Addr} {sl_is_integer : Array (Option Value)} (a_is_integer : PySem.W.nsIn K mainGlobals "is_integer" = some (some (.ref f_is_integer))) (l_is_integer : K.lookup f_is_integer = some ⟨oc_is_integer, od_is_integer, .func (PySem.W.fnOf "is_integer" "is_integer" (defArgs s_is_integer) (defBody s_is_integer) (defScope s_is_integer) .none kV_is_integer doc_is_integer pm_is_integer an_is_integer cdv_is_integer ct_is_integer), sl_is_integer⟩) (c_is_integer : PySem.W.codeIn K cdv_is_integer "is_integer" = true) (k_is_integer : PySem.W.keepIn K (.ref f_is_integer) = true)
    {f_is_sign : Addr} {oc_is_sign kV_is_sign doc_is_sign pm_is_sign cdv_is_sign ct_is_sign : Value} {od_is_sign an_is_sign : Option Addr} {sl_is_sign : Array (Option Value)} (a_is_sign : PySem.W.nsIn K mainGlobals "is_sign" = some (some (.ref f_is_sign))) (l_is_sign : K.lookup f_is_sign = some ⟨oc_is_sign, od_is_sign, .func (PySem.W.fnOf "is_sign" "is_sign" (defArgs s_is_sign) (defBody s_is_sign) (defScope s_is_sign) .none kV_is_sign doc_is_sign pm_is_sign an_is_sign cdv_is_sign ct_is_sign), sl_is_sign⟩) (c_is_sign : PySem.W.codeIn K cdv_is_sign "is_sign" = true) (k_is_sign : PySem.W.keepIn K (.ref f_is_sign) = true)
    {f_are_signs : Addr} {oc_are_signs kV_are_signs doc_are_signs pm_are_signs cdv_are_signs ct_are_signs : Value} {od_are_signs an_are_signs : Option Addr} {sl_are_signs : Array (Option Value)} (a_are_signs : PySem.W.nsIn K mainGlobals "are_signs" = some (some (.ref f_are_signs))) (l_are_signs : K.lookup f_are_signs = some ⟨oc_are_signs, od_are_signs, .func (PySem.W.fnOf "are_signs" "are_signs" (defArgs s_are_signs) (defBody s_are_signs) (defScope s_are_signs) .none kV_are_signs doc_are_signs pm_are_signs an_are_signs cdv_are_signs ct_are_signs), sl_are_signs⟩) (c_are_signs : PySem.W.codeIn K cdv_are_signs "are_signs" = true) (k_are_signs : PySem.W.keepIn K (.ref f_are_signs) = true)
    {f__is_word : Addr} {oc__is_word kV__is_word doc__is_word pm__is_word cdv__is_word ct__is_word : Value} {od__is_word an__is_word : Option Addr} {sl__is_word : Array (Option Value)} (a__is_word : PySem.W.nsIn K mainGlobals "_is_word" = some (some (.ref f__is_word))) (l__is_word : K.lookup f__is_word = some ⟨oc__is_word, od__is_word, .func (PySem.W.fnOf "_is_word" "_is_word" (defArgs s__is_word) (defBody s__is_word) (defScope s__is_word) .none kV__is_word doc__is_word pm__is_word an__is_word cdv__is_word ct__is_word), sl__is_word⟩) (c__is_word : PySem.W.codeIn K cdv__is_word "_is_word" = true) (k__is_word : PySem.W.keepIn K (.ref f__is_word) = true)
    {f__is_tag : Addr} {oc__is_tag kV__is_tag doc__is_tag pm__is_tag cdv__is_tag ct__is_tag : Value} {od__is_tag an__is_tag : Option Addr} {sl__is_tag : Array (Option Value)} (a__is_tag : PySem.W.nsIn K mainGlobals "_is_tag" = some (some (.ref f__is_tag))) (l__is_tag : K.lookup f__is_tag = some ⟨oc__is_tag, od__is_tag, .func (PySem.W.fnOf "_is_tag" "_is_tag" (defArgs s__is_tag) (defBody s__is_tag) (defScope s__is_tag) .none kV__is_tag doc__is_tag pm__is_tag an__is_tag cdv__is_tag ct__is_tag), sl__is_tag⟩) (c__is_tag : PySem.W.codeIn K cdv__is_tag "_is_tag" = true) (k__is_tag : PySem.W.keepIn K (.ref f__is_tag) = true)
    {f__are_tags : Addr} {oc__are_tags kV__are_tags doc__are_tags pm__are_tags cdv__are_tags ct__are_tags : Value} {od__are_tags an__are_tags : Option Addr} {sl__are_tags : Array (Option Value)} (a__are_tags : PySem.W.nsIn K mainGlobals "_are_tags" = some (some (.ref f__are_tags))) (l__are_tags : K.lookup f__are_tags = some ⟨oc__are_tags, od__are_tags, .func (PySem.W.fnOf "_are_tags" "_are_tags" (defArgs s__are_tags) (defBody s__are_tags) (defScope s__are_tags) .none kV__are_tags doc__are_tags pm__are_tags an__are_tags cdv__are_tags ct__are_tags), sl__are_tags⟩) (c__are_tags : PySem.W.codeIn K cdv__are_tags "_are_tags" = true) (k__are_tags : PySem.W.keepIn K (.ref f__are_tags) = true)
    {f__is_head : Addr} {oc__is_head kV__is_head doc__is_head pm__is_head cdv__is_head ct__is_head : Value} {od__is_head an__is_head : Option Addr} {sl__is_head : Array (Option Value)} (a__is_head : PySem.W.nsIn K mainGlobals "_is_head" = some (some (.ref f__is_head))) (l__is_head : K.lookup f__is_head = some ⟨oc__is_head, od__is_head, .func (PySem.W.fnOf "_is_head" "_is_head" (defArgs s__is_head) (defBody s__is_head) (defScope s__is_head) .none kV__is_head doc__is_head pm__is_head an__is_head cdv__is_head ct__is_head), sl__is_head⟩) (c__is_head : PySem.W.codeIn K cdv__is_head "_is_head" = true) (k__is_head : PySem.W.keepIn K (.ref f__is_head) = true)
    {f_is_format : Addr} {oc_is_format kV_is_format doc_is_format pm_is_format cdv_is_format ct_is_format : Value} {od_is_format an_is_format : Option Addr} {sl_is_format : Array (Option Value)} (a_is_format : PySem.W.nsIn K mainGlobals "is_format" = some (some (.ref f_is_format))) (l_is_format : K.lookup f_is_format = some ⟨oc_is_format, od_is_format, .func (PySem.W.fnOf "is_format" "is_format" (defArgs s_is_format) (defBody s_is_format) (defScope s_is_format) .none kV_is_format doc_is_format pm_is_format an_is_format cdv_is_format ct_is_format), sl_is_format⟩) (c_is_format : PySem.W.codeIn K cdv_is_format "is_format" = true) (k_is_format : PySem.W.keepIn K (.ref f_is_format) = true)
    {f_check_format : Addr} {oc_check_format kV_check_format doc_check_format pm_check_format cdv_check_format ct_check_format : Value} {od_check_format an_check_format : Option Addr} {sl_check_format : Array (Option Value)} (a_check_format : PySem.W.nsIn K mainGlobals "check_format" = some (some (.ref f_check_format))) (l_check_format : K.lookup f_check_format = some ⟨oc_check_format, od_check_format, .func (PySem.W.fnOf "check_format" "check_format" (defArgs s_check_format) (defBody s_check_format) (defScope s_check_format) .none kV_check_format doc_check_format pm_check_format an_check_format cdv_check_format ct_check_format), sl_check_format⟩) (c_check_format : PySem.W.codeIn K cdv_check_format "check_format" = true) (k_check_format : PySem.W.keepIn K (.ref f_check_format) = true)
    {f_is_file : Addr} {oc_is_file kV_is_file doc_is_file pm_is_file cdv_is_file ct_is_file : Value} {od_is_file an_is_file : Option Addr} {sl_is_file : Array (Option Value)} (a_is_file : PySem.W.nsIn K mainGlobals "is_file" = some (some (.ref f_is_file))) (l_is_file : K.lookup f_is_file = some ⟨oc_is_file, od_is_file, .func (PySem.W.fnOf "is_file" "is_file" (defArgs s_is_file) (defBody s_is_file) (defScope s_is_file) .none kV_is_file doc_is_file pm_is_file an_is_file cdv_is_file ct_is_file), sl_is_file⟩) (c_is_file : PySem.W.codeIn K cdv_is_file "is_file" = true) (k_is_file : PySem.W.keepIn K (.ref f_is_file) = true)
    {f_check_file : Addr} {oc_check_file kV_check_file doc_check_file pm_check_file cdv_check_file ct_check_file : Value} {od_check_file an_check_file : Option Addr} {sl_check_file : Array (Option Value)} (a_check_file : PySem.W.nsIn K mainGlobals "check_file" = some (some (.ref f_check_file))) (l_check_file : K.lookup f_check_file = some ⟨oc_check_file, od_check_file, .func (PySem.W.fnOf "check_file" "check_file" (defArgs s_check_file) (defBody s_check_file) (defScope s_check_file) .none kV_check_file doc_check_file pm_check_file an_check_file cdv_check_file ct_check_file), sl_check_file⟩) (c_check_file : PySem.W.codeIn K cdv_check_file "check_file" = true) (k_check_file : PySem.W.keepIn K (.ref f_check_file) = true)
    {f_end_tag : Addr} {oc_end_tag kV_end_tag doc_end_tag pm_end_tag cdv_end_tag ct_end_tag : Value} {od_end_tag an_end_tag : Option Addr} {sl_end_tag : Array (Option Value)} (a_end_tag : PySem.W.nsIn K mainGlobals "end_tag" = some (some (.ref f_end_tag))) (l_end_tag : K.lookup f_end_tag = some ⟨oc_end_tag, od_end_tag, .func (PySem.W.fnOf "end_tag" "end_tag" (defArgs s_end_tag) (defBody s_end_tag) (defScope s_end_tag) .none kV_end_tag doc_end_tag pm_end_tag an_end_tag cdv_end_tag ct_end_tag), sl_end_tag⟩) (c_end_tag : PySem.W.codeIn K cdv_end_tag "end_tag" = true) (k_end_tag : PySem.W.keepIn K (.ref f_end_tag) = true)
    {f_ends_well : Addr} {oc_ends_well kV_ends_well doc_ends_well pm_ends_well cdv_ends_well ct_ends_well : Value} {od_ends_well an_ends_well : Option Addr} {sl_ends_well : Array (Option Value)} (a_ends_well : PySem.W.nsIn K mainGlobals "ends_well" = some (some (.ref f_ends_well))) (l_ends_well : K.lookup f_ends_well = some ⟨oc_ends_well, od_ends_well, .func (PySem.W.fnOf "ends_well" "ends_well" (defArgs s_ends_well) (defBody s_ends_well) (defScope s_ends_well) .none kV_ends_well doc_ends_well pm_ends_well an_ends_well cdv_ends_well ct_ends_well), sl_ends_well⟩) (c_ends_well : PySem.W.codeIn K cdv_ends_well "ends_well" = true) (k_ends_well : PySem.W.keepIn K (.ref f_ends_well) = true)
    {f_word_at : Addr} {oc_word_at kV_word_at doc_word_at pm_word_at cdv_word_at ct_word_at : Value} {od_word_at an_word_at : Option Addr} {sl_word_at : Array (Option Value)} (a_word_at : PySem.W.nsIn K mainGlobals "word_at" = some (some (.ref f_word_at))) (l_word_at : K.lookup f_word_at = some ⟨oc_word_at, od_word_at, .func (PySem.W.fnOf "word_at" "word_at" (defArgs s_word_at) (defBody s_word_at) (defScope s_word_at) .none kV_word_at doc_word_at pm_word_at an_word_at cdv_word_at ct_word_at), sl_word_at⟩) (c_word_at : PySem.W.codeIn K cdv_word_at "word_at" = true) (k_word_at : PySem.W.keepIn K (.ref f_word_at) = true)
    {f_refusal_along : Addr} {oc_refusal_along kV_refusal_along doc_refusal_along pm_refusal_along cdv_refusal_along ct_refusal_along : Value} {od_refusal_along an_refusal_along : Option Addr} {sl_refusal_along : Array (Option Value)} (a_refusal_along : PySem.W.nsIn K mainGlobals "refusal_along" = some (some (.ref f_refusal_along))) (l_refusal_along : K.lookup f_refusal_along = some ⟨oc_refusal_along, od_refusal_along, .func (PySem.W.fnOf "refusal_along" "refusal_along" (defArgs s_refusal_along) (defBody s_refusal_along) (defScope s_refusal_along) .none kV_refusal_along doc_refusal_along pm_refusal_along an_refusal_along cdv_refusal_along ct_refusal_along), sl_refusal_along⟩) (c_refusal_along : PySem.W.codeIn K cdv_refusal_along "refusal_along" = true) (k_refusal_along : PySem.W.keepIn K (.ref f_refusal_along) = true)
    {f_behind_marks : Addr} {oc_behind_marks kV_behind_marks doc_behind_marks pm_behind_marks cdv_behind_marks ct_behind_marks : Value} {od_behind_marks an_behind_marks : Option Addr} {sl_behind_marks : Array (Option Value)} (a_behind_marks : PySem.W.nsIn K mainGlobals "behind_marks" = some (some (.ref f_behind_marks))) (l_behind_marks : K.lookup f_behind_marks = some ⟨oc_behind_marks, od_behind_marks, .func (PySem.W.fnOf "behind_marks" "behind_marks" (defArgs s_behind_marks) (defBody s_behind_marks) (defScope s_behind_marks) .none kV_behind_marks doc_behind_marks pm_behind_marks an_behind_marks cdv_behind_marks ct_behind_marks), sl_behind_marks⟩) (c_behind_marks : PySem.W.codeIn K cdv_behind_marks "behind_marks" = true) (k_behind_marks : PySem.W.keepIn K (.ref f_behind_marks) = true)
    {f_first_stand : Addr} {oc_first_stand kV_first_stand doc_first_stand pm_first_stand cdv_first_stand ct_first_stand : Value} {od_first_stand an_first_stand : Option Addr} {sl_first_stand : Array (Option Value)} (a_first_stand : PySem.W.nsIn K mainGlobals "first_stand" = some (some (.ref f_first_stand))) (l_first_stand : K.lookup f_first_stand = some ⟨oc_first_stand, od_first_stand, .func (PySem.W.fnOf "first_stand" "first_stand" (defArgs s_first_stand) (defBody s_first_stand) (defScope s_first_stand) .none kV_first_stand doc_first_stand pm_first_stand an_first_stand cdv_first_stand ct_first_stand), sl_first_stand⟩) (c_first_stand : PySem.W.codeIn K cdv_first_stand "first_stand" = true) (k_first_stand : PySem.W.keepIn K (.ref f_first_stand) = true)
    {f__behind_body : Addr} {oc__behind_body kV__behind_body doc__behind_body pm__behind_body cdv__behind_body ct__behind_body : Value} {od__behind_body an__behind_body : Option Addr} {sl__behind_body : Array (Option Value)} (a__behind_body : PySem.W.nsIn K mainGlobals "_behind_body" = some (some (.ref f__behind_body))) (l__behind_body : K.lookup f__behind_body = some ⟨oc__behind_body, od__behind_body, .func (PySem.W.fnOf "_behind_body" "_behind_body" (defArgs s__behind_body) (defBody s__behind_body) (defScope s__behind_body) .none kV__behind_body doc__behind_body pm__behind_body an__behind_body cdv__behind_body ct__behind_body), sl__behind_body⟩) (c__behind_body : PySem.W.codeIn K cdv__behind_body "_behind_body" = true) (k__behind_body : PySem.W.keepIn K (.ref f__behind_body) = true)
    {f__behind_body_sign : Addr} {oc__behind_body_sign kV__behind_body_sign doc__behind_body_sign pm__behind_body_sign cdv__behind_body_sign ct__behind_body_sign : Value} {od__behind_body_sign an__behind_body_sign : Option Addr} {sl__behind_body_sign : Array (Option Value)} (a__behind_body_sign : PySem.W.nsIn K mainGlobals "_behind_body_sign" = some (some (.ref f__behind_body_sign))) (l__behind_body_sign : K.lookup f__behind_body_sign = some ⟨oc__behind_body_sign, od__behind_body_sign, .func (PySem.W.fnOf "_behind_body_sign" "_behind_body_sign" (defArgs s__behind_body_sign) (defBody s__behind_body_sign) (defScope s__behind_body_sign) .none kV__behind_body_sign doc__behind_body_sign pm__behind_body_sign an__behind_body_sign cdv__behind_body_sign ct__behind_body_sign), sl__behind_body_sign⟩) (c__behind_body_sign : PySem.W.codeIn K cdv__behind_body_sign "_behind_body_sign" = true) (k__behind_body_sign : PySem.W.keepIn K (.ref f__behind_body_sign) = true)
    {f__behind_length : Addr} {oc__behind_length kV__behind_length doc__behind_length pm__behind_length cdv__behind_length ct__behind_length : Value} {od__behind_length an__behind_length : Option Addr} {sl__behind_length : Array (Option Value)} (a__behind_length : PySem.W.nsIn K mainGlobals "_behind_length" = some (some (.ref f__behind_length))) (l__behind_length : K.lookup f__behind_length = some ⟨oc__behind_length, od__behind_length, .func (PySem.W.fnOf "_behind_length" "_behind_length" (defArgs s__behind_length) (defBody s__behind_length) (defScope s__behind_length) .none kV__behind_length doc__behind_length pm__behind_length an__behind_length cdv__behind_length ct__behind_length), sl__behind_length⟩) (c__behind_length : PySem.W.codeIn K cdv__behind_length "_behind_length" = true) (k__behind_length : PySem.W.keepIn K (.ref f__behind_length) = true)
    {f__behind_first : Addr} {oc__behind_first kV__behind_first doc__behind_first pm__behind_first cdv__behind_first ct__behind_first : Value} {od__behind_first an__behind_first : Option Addr} {sl__behind_first : Array (Option Value)} (a__behind_first : PySem.W.nsIn K mainGlobals "_behind_first" = some (some (.ref f__behind_first))) (l__behind_first : K.lookup f__behind_first = some ⟨oc__behind_first, od__behind_first, .func (PySem.W.fnOf "_behind_first" "_behind_first" (defArgs s__behind_first) (defBody s__behind_first) (defScope s__behind_first) .none kV__behind_first doc__behind_first pm__behind_first an__behind_first cdv__behind_first ct__behind_first), sl__behind_first⟩) (c__behind_first : PySem.W.codeIn K cdv__behind_first "_behind_first" = true) (k__behind_first : PySem.W.keepIn K (.ref f__behind_first) = true)
    {f__behind_mark : Addr} {oc__behind_mark kV__behind_mark doc__behind_mark pm__behind_mark cdv__behind_mark ct__behind_mark : Value} {od__behind_mark an__behind_mark : Option Addr} {sl__behind_mark : Array (Option Value)} (a__behind_mark : PySem.W.nsIn K mainGlobals "_behind_mark" = some (some (.ref f__behind_mark))) (l__behind_mark : K.lookup f__behind_mark = some ⟨oc__behind_mark, od__behind_mark, .func (PySem.W.fnOf "_behind_mark" "_behind_mark" (defArgs s__behind_mark) (defBody s__behind_mark) (defScope s__behind_mark) .none kV__behind_mark doc__behind_mark pm__behind_mark an__behind_mark cdv__behind_mark ct__behind_mark), sl__behind_mark⟩) (c__behind_mark : PySem.W.codeIn K cdv__behind_mark "_behind_mark" = true) (k__behind_mark : PySem.W.keepIn K (.ref f__behind_mark) = true)
    {f__behind_second : Addr} {oc__behind_second kV__behind_second doc__behind_second pm__behind_second cdv__behind_second ct__behind_second : Value} {od__behind_second an__behind_second : Option Addr} {sl__behind_second : Array (Option Value)} (a__behind_second : PySem.W.nsIn K mainGlobals "_behind_second" = some (some (.ref f__behind_second))) (l__behind_second : K.lookup f__behind_second = some ⟨oc__behind_second, od__behind_second, .func (PySem.W.fnOf "_behind_second" "_behind_second" (defArgs s__behind_second) (defBody s__behind_second) (defScope s__behind_second) .none kV__behind_second doc__behind_second pm__behind_second an__behind_second cdv__behind_second ct__behind_second), sl__behind_second⟩) (c__behind_second : PySem.W.codeIn K cdv__behind_second "_behind_second" = true) (k__behind_second : PySem.W.keepIn K (.ref f__behind_second) = true)
    {f_use_of : Addr} {oc_use_of kV_use_of doc_use_of pm_use_of cdv_use_of ct_use_of : Value} {od_use_of an_use_of : Option Addr} {sl_use_of : Array (Option Value)} (a_use_of : PySem.W.nsIn K mainGlobals "use_of" = some (some (.ref f_use_of))) (l_use_of : K.lookup f_use_of = some ⟨oc_use_of, od_use_of, .func (PySem.W.fnOf "use_of" "use_of" (defArgs s_use_of) (defBody s_use_of) (defScope s_use_of) .none kV_use_of doc_use_of pm_use_of an_use_of cdv_use_of ct_use_of), sl_use_of⟩) (c_use_of : PySem.W.codeIn K cdv_use_of "use_of" = true) (k_use_of : PySem.W.keepIn K (.ref f_use_of) = true)
    {f__behind_tag : Addr} {oc__behind_tag kV__behind_tag doc__behind_tag pm__behind_tag cdv__behind_tag ct__behind_tag : Value} {od__behind_tag an__behind_tag : Option Addr} {sl__behind_tag : Array (Option Value)} (a__behind_tag : PySem.W.nsIn K mainGlobals "_behind_tag" = some (some (.ref f__behind_tag))) (l__behind_tag : K.lookup f__behind_tag = some ⟨oc__behind_tag, od__behind_tag, .func (PySem.W.fnOf "_behind_tag" "_behind_tag" (defArgs s__behind_tag) (defBody s__behind_tag) (defScope s__behind_tag) .none kV__behind_tag doc__behind_tag pm__behind_tag an__behind_tag cdv__behind_tag ct__behind_tag), sl__behind_tag⟩) (c__behind_tag : PySem.W.codeIn K cdv__behind_tag "_behind_tag" = true) (k__behind_tag : PySem.W.keepIn K (.ref f__behind_tag) = true)
    {f_next_stand : Addr} {oc_next_stand kV_next_stand doc_next_stand pm_next_stand cdv_next_stand ct_next_stand : Value} {od_next_stand an_next_stand : Option Addr} {sl_next_stand : Array (Option Value)} (a_next_stand : PySem.W.nsIn K mainGlobals "next_stand" = some (some (.ref f_next_stand))) (l_next_stand : K.lookup f_next_stand = some ⟨oc_next_stand, od_next_stand, .func (PySem.W.fnOf "next_stand" "next_stand" (defArgs s_next_stand) (defBody s_next_stand) (defScope s_next_stand) .none kV_next_stand doc_next_stand pm_next_stand an_next_stand cdv_next_stand ct_next_stand), sl_next_stand⟩) (c_next_stand : PySem.W.codeIn K cdv_next_stand "next_stand" = true) (k_next_stand : PySem.W.keepIn K (.ref f_next_stand) = true)
    {f_stands_along : Addr} {oc_stands_along kV_stands_along doc_stands_along pm_stands_along cdv_stands_along ct_stands_along : Value} {od_stands_along an_stands_along : Option Addr} {sl_stands_along : Array (Option Value)} (a_stands_along : PySem.W.nsIn K mainGlobals "stands_along" = some (some (.ref f_stands_along))) (l_stands_along : K.lookup f_stands_along = some ⟨oc_stands_along, od_stands_along, .func (PySem.W.fnOf "stands_along" "stands_along" (defArgs s_stands_along) (defBody s_stands_along) (defScope s_stands_along) .none kV_stands_along doc_stands_along pm_stands_along an_stands_along cdv_stands_along ct_stands_along), sl_stands_along⟩) (c_stands_along : PySem.W.codeIn K cdv_stands_along "stands_along" = true) (k_stands_along : PySem.W.keepIn K (.ref f_stands_along) = true)
    {f_along_read : Addr} {oc_along_read kV_along_read doc_along_read pm_along_read cdv_along_read ct_along_read : Value} {od_along_read an_along_read : Option Addr} {sl_along_read : Array (Option Value)} (a_along_read : PySem.W.nsIn K mainGlobals "along_read" = some (some (.ref f_along_read))) (l_along_read : K.lookup f_along_read = some ⟨oc_along_read, od_along_read, .func (PySem.W.fnOf "along_read" "along_read" (defArgs s_along_read) (defBody s_along_read) (defScope s_along_read) .none kV_along_read doc_along_read pm_along_read an_along_read cdv_along_read ct_along_read), sl_along_read⟩) (c_along_read : PySem.W.codeIn K cdv_along_read "along_read" = true) (k_along_read : PySem.W.keepIn K (.ref f_along_read) = true)
    {f__body_of : Addr} {oc__body_of kV__body_of doc__body_of pm__body_of cdv__body_of ct__body_of : Value} {od__body_of an__body_of : Option Addr} {sl__body_of : Array (Option Value)} (a__body_of : PySem.W.nsIn K mainGlobals "_body_of" = some (some (.ref f__body_of))) (l__body_of : K.lookup f__body_of = some ⟨oc__body_of, od__body_of, .func (PySem.W.fnOf "_body_of" "_body_of" (defArgs s__body_of) (defBody s__body_of) (defScope s__body_of) .none kV__body_of doc__body_of pm__body_of an__body_of cdv__body_of ct__body_of), sl__body_of⟩) (c__body_of : PySem.W.codeIn K cdv__body_of "_body_of" = true) (k__body_of : PySem.W.keepIn K (.ref f__body_of) = true)
    {f_told_part : Addr} {oc_told_part kV_told_part doc_told_part pm_told_part cdv_told_part ct_told_part : Value} {od_told_part an_told_part : Option Addr} {sl_told_part : Array (Option Value)} (a_told_part : PySem.W.nsIn K mainGlobals "told_part" = some (some (.ref f_told_part))) (l_told_part : K.lookup f_told_part = some ⟨oc_told_part, od_told_part, .func (PySem.W.fnOf "told_part" "told_part" (defArgs s_told_part) (defBody s_told_part) (defScope s_told_part) .none kV_told_part doc_told_part pm_told_part an_told_part cdv_told_part ct_told_part), sl_told_part⟩) (c_told_part : PySem.W.codeIn K cdv_told_part "told_part" = true) (k_told_part : PySem.W.keepIn K (.ref f_told_part) = true)
    {f_told_along : Addr} {oc_told_along kV_told_along doc_told_along pm_told_along cdv_told_along ct_told_along : Value} {od_told_along an_told_along : Option Addr} {sl_told_along : Array (Option Value)} (a_told_along : PySem.W.nsIn K mainGlobals "told_along" = some (some (.ref f_told_along))) (l_told_along : K.lookup f_told_along = some ⟨oc_told_along, od_told_along, .func (PySem.W.fnOf "told_along" "told_along" (defArgs s_told_along) (defBody s_told_along) (defScope s_told_along) .none kV_told_along doc_told_along pm_told_along an_told_along cdv_told_along ct_told_along), sl_told_along⟩) (c_told_along : PySem.W.codeIn K cdv_told_along "told_along" = true) (k_told_along : PySem.W.keepIn K (.ref f_told_along) = true)
    {f_read : Addr} {oc_read kV_read doc_read pm_read cdv_read ct_read : Value} {od_read an_read : Option Addr} {sl_read : Array (Option Value)} (a_read : PySem.W.nsIn K mainGlobals "read" = some (some (.ref f_read))) (l_read : K.lookup f_read = some ⟨oc_read, od_read, .func (PySem.W.fnOf "read" "read" (defArgs s_read) (defBody s_read) (defScope s_read) .none kV_read doc_read pm_read an_read cdv_read ct_read), sl_read⟩) (c_read : PySem.W.codeIn K cdv_read "read" = true) (k_read : PySem.W.keepIn K (.ref f_read) = true)
    {f_refusal : Addr} {oc_refusal kV_refusal doc_refusal pm_refusal cdv_refusal ct_refusal : Value} {od_refusal an_refusal : Option Addr} {sl_refusal : Array (Option Value)} (a_refusal : PySem.W.nsIn K mainGlobals "refusal" = some (some (.ref f_refusal))) (l_refusal : K.lookup f_refusal = some ⟨oc_refusal, od_refusal, .func (PySem.W.fnOf "refusal" "refusal" (defArgs s_refusal) (defBody s_refusal) (defScope s_refusal) .none kV_refusal doc_refusal pm_refusal an_refusal cdv_refusal ct_refusal), sl_refusal⟩) (c_refusal : PySem.W.codeIn K cdv_refusal "refusal" = true) (k_refusal : PySem.W.keepIn K (.ref f_refusal) = true)
    {f__law_right : Addr} {oc__law_right kV__law_right doc__law_right pm__law_right cdv__law_right ct__law_right : Value} {od__law_right an__law_right : Option Addr} {sl__law_right : Array (Option Value)} (a__law_right : PySem.W.nsIn K mainGlobals "_law_right" = some (some (.ref f__law_right))) (l__law_right : K.lookup f__law_right = some ⟨oc__law_right, od__law_right, .func (PySem.W.fnOf "_law_right" "_law_right" (defArgs s__law_right) (defBody s__law_right) (defScope s__law_right) .none kV__law_right doc__law_right pm__law_right an__law_right cdv__law_right ct__law_right), sl__law_right⟩) (c__law_right : PySem.W.codeIn K cdv__law_right "_law_right" = true) (k__law_right : PySem.W.keepIn K (.ref f__law_right) = true)
    {f_law : Addr} {oc_law kV_law doc_law pm_law cdv_law ct_law : Value} {od_law an_law : Option Addr} {sl_law : Array (Option Value)} (a_law : PySem.W.nsIn K mainGlobals "law" = some (some (.ref f_law))) (l_law : K.lookup f_law = some ⟨oc_law, od_law, .func (PySem.W.fnOf "law" "law" (defArgs s_law) (defBody s_law) (defScope s_law) .none kV_law doc_law pm_law an_law cdv_law ct_law), sl_law⟩) (c_law : PySem.W.codeIn K cdv_law "law" = true) (k_law : PySem.W.keepIn K (.ref f_law) = true) :
    ∃ fd : FuncData, (∀ (s : Shared) (v : Value), BindsTo s fd ⟨[v], []⟩ [("script", v)]) ∧ ∀ base : Heap, K.In base → base.Ns mainGlobals mg → FnOk P w K mg base CX0 12 fa fd ["script"] (spF0 K 1 phi_law_08) := by
  have d__law_bag : DefF K mg "_law_bag" s__law_bag ["script", "at"] := DefF.mk' X G a__law_bag l__law_bag c__law_bag k__law_bag (fun us hl => match us, hl with | [_, _], _ => rfl) (fun us hl => match us, hl with | [_, _], _ => rfl)
  have d__law_grab : DefF K mg "_law_grab" s__law_grab ["bag", "below"] := DefF.mk' X G a__law_grab l__law_grab c__law_grab k__law_grab (fun us hl => match us, hl with | [_, _], _ => rfl) (fun us hl => match us, hl with | [_, _], _ => rfl)
  have d__law_drawn_tags : DefF K mg "_law_drawn_tags" s__law_drawn_tags ["bag", "base", "many_here"] := DefF.mk' X G a__law_drawn_tags l__law_drawn_tags c__law_drawn_tags k__law_drawn_tags (fun us hl => match us, hl with | [_, _, _], _ => rfl) (fun us hl => match us, hl with | [_, _, _], _ => rfl)
  have d__law_drawn_form : DefF K mg "_law_drawn_form" s__law_drawn_form ["bag", "base", "marks_here", "most_here", "many_here"] := DefF.mk' X G a__law_drawn_form l__law_drawn_form c__law_drawn_form k__law_drawn_form (fun us hl => match us, hl with | [_, _, _, _, _], _ => rfl) (fun us hl => match us, hl with | [_, _, _, _, _], _ => rfl)
  have d__law_long : DefF K mg "_law_long" s__law_long ["form_here", "signs_here", "at"] := DefF.mk' X G a__law_long l__law_long c__law_long k__law_long (fun us hl => match us, hl with | [_, _, _], _ => rfl) (fun us hl => match us, hl with | [_, _, _], _ => rfl)
  have d__law_chunk : DefF K mg "_law_chunk" s__law_chunk ["form_here", "signs_here", "at", "use_here"] := DefF.mk' X G a__law_chunk l__law_chunk c__law_chunk k__law_chunk (fun us hl => match us, hl with | [_, _, _, _], _ => rfl) (fun us hl => match us, hl with | [_, _, _, _], _ => rfl)
  have d__law_use : DefF K mg "_law_use" s__law_use ["form_here", "sign"] := DefF.mk' X G a__law_use l__law_use c__law_use k__law_use (fun us hl => match us, hl with | [_, _], _ => rfl) (fun us hl => match us, hl with | [_, _], _ => rfl)
  have d__law_reading : DefF K mg "_law_reading" s__law_reading ["form_here", "signs_here"] := DefF.mk' X G a__law_reading l__law_reading c__law_reading k__law_reading (fun us hl => match us, hl with | [_, _], _ => rfl) (fun us hl => match us, hl with | [_, _], _ => rfl)
  have d__law_written : DefF K mg "_law_written" s__law_written ["bag", "form_here", "many_here"] := DefF.mk' X G a__law_written l__law_written c__law_written k__law_written (fun us hl => match us, hl with | [_, _, _], _ => rfl) (fun us hl => match us, hl with | [_, _, _], _ => rfl)
  have d__law_good_file : DefF K mg "_law_good_file" s__law_good_file ["bag", "form_here", "many_here", "most_here"] := DefF.mk' X G a__law_good_file l__law_good_file c__law_good_file k__law_good_file (fun us hl => match us, hl with | [_, _, _, _], _ => rfl) (fun us hl => match us, hl with | [_, _, _, _], _ => rfl)
  have d__law_equal : DefF K mg "_law_equal" s__law_equal ["found", "due"] := DefF.mk' X G a__law_equal l__law_equal c__law_equal k__law_equal (fun us hl => match us, hl with | [_, _], _ => rfl) (fun us hl => match us, hl with | [_, _], _ => rfl)
  have d_is_integer : DefF K mg "is_integer" s_is_integer ["value"] := DefF.mk' X G a_is_integer l_is_integer c_is_integer k_is_integer (fun us hl => match us, hl with | [_], _ => rfl) (fun us hl => match us, hl with | [_], _ => rfl)
  have d_is_sign : DefF K mg "is_sign" s_is_sign ["value", "base"] := DefF.mk' X G a_is_sign l_is_sign c_is_sign k_is_sign (fun us hl => match us, hl with | [_, _], _ => rfl) (fun us hl => match us, hl with | [_, _], _ => rfl)
  have d_are_signs : DefF K mg "are_signs" s_are_signs ["value", "base"] := DefF.mk' X G a_are_signs l_are_signs c_are_signs k_are_signs (fun us hl => match us, hl with | [_, _], _ => rfl) (fun us hl => match us, hl with | [_, _], _ => rfl)
  have d__is_word : DefF K mg "_is_word" s__is_word ["value", "words"] := DefF.mk' X G a__is_word l__is_word c__is_word k__is_word (fun us hl => match us, hl with | [_, _], _ => rfl) (fun us hl => match us, hl with | [_, _], _ => rfl)
  have d__is_tag : DefF K mg "_is_tag" s__is_tag ["value", "base"] := DefF.mk' X G a__is_tag l__is_tag c__is_tag k__is_tag (fun us hl => match us, hl with | [_, _], _ => rfl) (fun us hl => match us, hl with | [_, _], _ => rfl)
  have d__are_tags : DefF K mg "_are_tags" s__are_tags ["value", "base"] := DefF.mk' X G a__are_tags l__are_tags c__are_tags k__are_tags (fun us hl => match us, hl with | [_, _], _ => rfl) (fun us hl => match us, hl with | [_, _], _ => rfl)
  have d__is_head : DefF K mg "_is_head" s__is_head ["value", "base"] := DefF.mk' X G a__is_head l__is_head c__is_head k__is_head (fun us hl => match us, hl with | [_, _], _ => rfl) (fun us hl => match us, hl with | [_, _], _ => rfl)
  have d_is_format : DefF K mg "is_format" s_is_format ["value"] := DefF.mk' X G a_is_format l_is_format c_is_format k_is_format (fun us hl => match us, hl with | [_], _ => rfl) (fun us hl => match us, hl with | [_], _ => rfl)
  have d_check_format : DefF K mg "check_format" s_check_format ["form"] := DefF.mk' X G a_check_format l_check_format c_check_format k_check_format (fun us hl => match us, hl with | [_], _ => rfl) (fun us hl => match us, hl with | [_], _ => rfl)
  have d_is_file : DefF K mg "is_file" s_is_file ["form", "value"] := DefF.mk' X G a_is_file l_is_file c_is_file k_is_file (fun us hl => match us, hl with | [_, _], _ => rfl) (fun us hl => match us, hl with | [_, _], _ => rfl)
  have d_check_file : DefF K mg "check_file" s_check_file ["form", "file"] := DefF.mk' X G a_check_file l_check_file c_check_file k_check_file (fun us hl => match us, hl with | [_, _], _ => rfl) (fun us hl => match us, hl with | [_, _], _ => rfl)
  have d_end_tag : DefF K mg "end_tag" s_end_tag ["form"] := DefF.mk' X G a_end_tag l_end_tag c_end_tag k_end_tag (fun us hl => match us, hl with | [_], _ => rfl) (fun us hl => match us, hl with | [_], _ => rfl)
  have d_ends_well : DefF K mg "ends_well" s_ends_well ["form", "stand"] := DefF.mk' X G a_ends_well l_ends_well c_ends_well k_ends_well (fun us hl => match us, hl with | [_, _], _ => rfl) (fun us hl => match us, hl with | [_, _], _ => rfl)
  have d_word_at : DefF K mg "word_at" s_word_at ["stand"] := DefF.mk' X G a_word_at l_word_at c_word_at k_word_at (fun us hl => match us, hl with | [_], _ => rfl) (fun us hl => match us, hl with | [_], _ => rfl)
  have d_refusal_along : DefF K mg "refusal_along" s_refusal_along ["form", "along"] := DefF.mk' X G a_refusal_along l_refusal_along c_refusal_along k_refusal_along (fun us hl => match us, hl with | [_, _], _ => rfl) (fun us hl => match us, hl with | [_, _], _ => rfl)
  have d_behind_marks : DefF K mg "behind_marks" s_behind_marks ["form", "count"] := DefF.mk' X G a_behind_marks l_behind_marks c_behind_marks k_behind_marks (fun us hl => match us, hl with | [_, _], _ => rfl) (fun us hl => match us, hl with | [_, _], _ => rfl)
  have d_first_stand : DefF K mg "first_stand" s_first_stand ["form"] := DefF.mk' X G a_first_stand l_first_stand c_first_stand k_first_stand (fun us hl => match us, hl with | [_], _ => rfl) (fun us hl => match us, hl with | [_], _ => rfl)
  have d__behind_body : DefF K mg "_behind_body" s__behind_body ["use", "due"] := DefF.mk' X G a__behind_body l__behind_body c__behind_body k__behind_body (fun us hl => match us, hl with | [_, _], _ => rfl) (fun us hl => match us, hl with | [_, _], _ => rfl)
  have d__behind_body_sign : DefF K mg "_behind_body_sign" s__behind_body_sign ["form", "stand", "sign"] := DefF.mk' X G a__behind_body_sign l__behind_body_sign c__behind_body_sign k__behind_body_sign (fun us hl => match us, hl with | [_, _, _], _ => rfl) (fun us hl => match us, hl with | [_, _, _], _ => rfl)
  have d__behind_length : DefF K mg "_behind_length" s__behind_length ["use", "length"] := DefF.mk' X G a__behind_length l__behind_length c__behind_length k__behind_length (fun us hl => match us, hl with | [_, _], _ => rfl) (fun us hl => match us, hl with | [_, _], _ => rfl)
  have d__behind_first : DefF K mg "_behind_first" s__behind_first ["form", "use", "sign"] := DefF.mk' X G a__behind_first l__behind_first c__behind_first k__behind_first (fun us hl => match us, hl with | [_, _, _], _ => rfl) (fun us hl => match us, hl with | [_, _, _], _ => rfl)
  have d__behind_mark : DefF K mg "_behind_mark" s__behind_mark ["form", "at", "sign"] := DefF.mk' X G a__behind_mark l__behind_mark c__behind_mark k__behind_mark (fun us hl => match us, hl with | [_, _, _], _ => rfl) (fun us hl => match us, hl with | [_, _, _], _ => rfl)
  have d__behind_second : DefF K mg "_behind_second" s__behind_second ["form", "use", "first", "sign"] := DefF.mk' X G a__behind_second l__behind_second c__behind_second k__behind_second (fun us hl => match us, hl with | [_, _, _, _], _ => rfl) (fun us hl => match us, hl with | [_, _, _, _], _ => rfl)
  have d_use_of : DefF K mg "use_of" s_use_of ["form", "sign"] := DefF.mk' X G a_use_of l_use_of c_use_of k_use_of (fun us hl => match us, hl with | [_, _], _ => rfl) (fun us hl => match us, hl with | [_, _], _ => rfl)
  have d__behind_tag : DefF K mg "_behind_tag" s__behind_tag ["form", "sign"] := DefF.mk' X G a__behind_tag l__behind_tag c__behind_tag k__behind_tag (fun us hl => match us, hl with | [_, _], _ => rfl) (fun us hl => match us, hl with | [_, _], _ => rfl)
  have d_next_stand : DefF K mg "next_stand" s_next_stand ["form", "stand", "sign"] := DefF.mk' X G a_next_stand l_next_stand c_next_stand k_next_stand (fun us hl => match us, hl with | [_, _, _], _ => rfl) (fun us hl => match us, hl with | [_, _, _], _ => rfl)
  have d_stands_along : DefF K mg "stands_along" s_stands_along ["form", "file"] := DefF.mk' X G a_stands_along l_stands_along c_stands_along k_stands_along (fun us hl => match us, hl with | [_, _], _ => rfl) (fun us hl => match us, hl with | [_, _], _ => rfl)
  have d_along_read : DefF K mg "along_read" s_along_read ["form", "file"] := DefF.mk' X G a_along_read l_along_read c_along_read k_along_read (fun us hl => match us, hl with | [_, _], _ => rfl) (fun us hl => match us, hl with | [_, _], _ => rfl)
  have d__body_of : DefF K mg "_body_of" s__body_of ["parts"] := DefF.mk' X G a__body_of l__body_of c__body_of k__body_of (fun us hl => match us, hl with | [_], _ => rfl) (fun us hl => match us, hl with | [_], _ => rfl)
  have d_told_part : DefF K mg "told_part" s_told_part ["form", "stand", "sign"] := DefF.mk' X G a_told_part l_told_part c_told_part k_told_part (fun us hl => match us, hl with | [_, _, _], _ => rfl) (fun us hl => match us, hl with | [_, _, _], _ => rfl)
  have d_told_along : DefF K mg "told_along" s_told_along ["form", "signs", "along"] := DefF.mk' X G a_told_along l_told_along c_told_along k_told_along (fun us hl => match us, hl with | [_, _, _], _ => rfl) (fun us hl => match us, hl with | [_, _, _], _ => rfl)
  have d_read : DefF K mg "read" s_read ["form", "file"] := DefF.mk' X G a_read l_read c_read k_read (fun us hl => match us, hl with | [_, _], _ => rfl) (fun us hl => match us, hl with | [_, _], _ => rfl)
  have d_refusal : DefF K mg "refusal" s_refusal ["form", "file"] := DefF.mk' X G a_refusal l_refusal c_refusal k_refusal (fun us hl => match us, hl with | [_, _], _ => rfl) (fun us hl => match us, hl with | [_, _], _ => rfl)
  have d__law_right : DefF K mg "_law_right" s__law_right ["form_here", "row"] := DefF.mk' X G a__law_right l__law_right c__law_right k__law_right (fun us hl => match us, hl with | [_, _], _ => rfl) (fun us hl => match us, hl with | [_, _], _ => rfl)
  have d_law : DefF K mg "law" s_law ["script"] := DefF.mk' X G a_law l_law c_law k_law (fun us hl => match us, hl with | [_], _ => rfl) (fun us hl => match us, hl with | [_], _ => rfl)
  obtain ⟨f, fd, hm, kp, F, b, kr, bb⟩ := d_law.ex
  have ef := hm.symm.trans hfa
  cases ef
  exact ⟨fd, fun s u => .of_eq (bb [u] rfl), fun base _ _ => all_ok (base := base) ⟨PySem.W.mg_none_of X G z_abs, PySem.W.mg_none_of X G z_all, PySem.W.mg_none_of X G z_bool, PySem.W.mg_none_of X G z_int, PySem.W.mg_none_of X G z_isinstance, PySem.W.mg_none_of X G z_len, PySem.W.mg_none_of X G z_list, PySem.W.mg_none_of X G z_max, PySem.W.mg_none_of X G z_min, PySem.W.mg_none_of X G z_range, PySem.W.mg_none_of X G z_str, PySem.W.mg_none_of X G z_sum, PySem.W.mg_none_of X G z_tuple, PySem.W.mg_none_of X G z_zip, glo_int X G a_BASE, glo_int X G a_HEAD, glo_int X G a_MOST, glo_int X G a_NOTHING, glo_int X G a_OTHERS, glo_tup X G a_OVER l_OVER r_OVER (by decide) y_OVER, glo_tup X G a_ROOM l_ROOM r_ROOM (by decide) y_ROOM, glo_tup X G a_TAG l_TAG r_TAG (by decide) y_TAG, glo_int X G a_TAGS, glo_tup X G a_TOLD_USES l_TOLD_USES r_TOLD_USES (by decide) y_TOLD_USES, glo_tup X G a_USES l_USES r_USES (by decide) y_USES, glo_int X G a_WIDTH, glo_tup X G a_WIDTHS l_WIDTHS r_WIDTHS (by decide) y_WIDTHS, kd_mk X G a_REFUSALS l_REFUSALS k_REFUSALS (.cons e0_REFUSALS (.cons e1_REFUSALS (.cons e2_REFUSALS (.cons e3_REFUSALS (.cons e4_REFUSALS (.cons e5_REFUSALS .nil))))))⟩ d__law_bag d__law_grab d__law_drawn_tags d__law_drawn_form d__law_long d__law_chunk d__law_use d__law_reading d__law_written d__law_good_file d__law_equal d_is_integer d_is_sign d_are_signs d__is_word d__is_tag d__are_tags d__is_head d_is_format d_check_format d_is_file d_check_file d_end_tag d_ends_well d_word_at d_refusal_along d_behind_marks d_first_stand d__behind_body d__behind_body_sign d__behind_length d__behind_first d__behind_mark d__behind_second d_use_of d__behind_tag d_next_stand d_stands_along d_along_read d__body_of d_told_part d_told_along d_read d_refusal d__law_right F⟩
end

end Dv.K08

set_option Elab.async false
set_option linter.all false
open PySem PySem.W PyProof.Rows
set_option maxRecDepth 100000 in
set_option maxHeartbeats 0 in
theorem PySem.Challenge.cw_bothreaders_k08_every_sign_spoilt_holds : PySem.Challenge.rw_bothreaders_k08_every_sign_spoilt.Holds := by
  w_on; o_law; k_head; (case hw => w_witness2)
  k_fill
  refine L2.walk_of (l := PySem.Challenge.rw_bothreaders_k08_every_sign_spoilt) (n := 63) (k := 12) (x := "script") (CX := fun _ => L2.CX0) (sp := fun w => Dv.spF0 _ 1 Dv.phi_law_08) rfl (by decide) rfl ⟨rfl, by decide, by decide⟩ (fun w h Y => PySem.W.kIn_of Y) ?F (fun w H a ns hl hO hS => Dv.law_sp hO hS (Dv.K08_true ns hl)) (fun _ _ _ _ _ h => h)
  case F =>
    intro w mg fa h KX G hmg
    refine' Dv.K08.fin KX G hmg ?z_abs ?z_all ?z_bool ?z_int ?z_isinstance ?z_len ?z_list ?z_max ?z_min ?z_range ?z_str ?z_sum ?z_tuple ?z_zip ?a_BASE ?a_HEAD ?a_MOST ?a_NOTHING ?a_OTHERS ?a_OVER ?l_OVER ?r_OVER ?y_OVER ?a_ROOM ?l_ROOM ?r_ROOM ?y_ROOM ?a_TAG ?l_TAG ?r_TAG ?y_TAG ?a_TAGS ?a_TOLD_USES ?l_TOLD_USES ?r_TOLD_USES ?y_TOLD_USES ?a_USES ?l_USES ?r_USES ?y_USES ?a_WIDTH ?a_WIDTHS ?l_WIDTHS ?r_WIDTHS ?y_WIDTHS ?a_REFUSALS ?l_REFUSALS ?k_REFUSALS ?e0_REFUSALS ?e1_REFUSALS ?e2_REFUSALS ?e3_REFUSALS ?e4_REFUSALS ?e5_REFUSALS ?a__law_bag ?l__law_bag ?c__law_bag ?k__law_bag ?a__law_grab ?l__law_grab ?c__law_grab ?k__law_grab ?a__law_drawn_tags ?l__law_drawn_tags ?c__law_drawn_tags ?k__law_drawn_tags ?a__law_drawn_form ?l__law_drawn_form ?c__law_drawn_form ?k__law_drawn_form ?a__law_long ?l__law_long ?c__law_long ?k__law_long ?a__law_chunk ?l__law_chunk ?c__law_chunk ?k__law_chunk ?a__law_use ?l__law_use ?c__law_use ?k__law_use ?a__law_reading ?l__law_reading ?c__law_reading ?k__law_reading ?a__law_written ?l__law_written ?c__law_written ?k__law_written ?a__law_good_file ?l__law_good_file ?c__law_good_file ?k__law_good_file ?a__law_equal ?l__law_equal ?c__law_equal ?k__law_equal ?a_is_integer ?l_is_integer ?c_is_integer ?k_is_integer ?a_is_sign ?l_is_sign ?c_is_sign ?k_is_sign ?a_are_signs ?l_are_signs ?c_are_signs ?k_are_signs ?a__is_word ?l__is_word ?c__is_word ?k__is_word ?a__is_tag ?l__is_tag ?c__is_tag ?k__is_tag ?a__are_tags ?l__are_tags ?c__are_tags ?k__are_tags ?a__is_head ?l__is_head ?c__is_head ?k__is_head ?a_is_format ?l_is_format ?c_is_format ?k_is_format ?a_check_format ?l_check_format ?c_check_format ?k_check_format ?a_is_file ?l_is_file ?c_is_file ?k_is_file ?a_check_file ?l_check_file ?c_check_file ?k_check_file ?a_end_tag ?l_end_tag ?c_end_tag ?k_end_tag ?a_ends_well ?l_ends_well ?c_ends_well ?k_ends_well ?a_word_at ?l_word_at ?c_word_at ?k_word_at ?a_refusal_along ?l_refusal_along ?c_refusal_along ?k_refusal_along ?a_behind_marks ?l_behind_marks ?c_behind_marks ?k_behind_marks ?a_first_stand ?l_first_stand ?c_first_stand ?k_first_stand ?a__behind_body ?l__behind_body ?c__behind_body ?k__behind_body ?a__behind_body_sign ?l__behind_body_sign ?c__behind_body_sign ?k__behind_body_sign ?a__behind_length ?l__behind_length ?c__behind_length ?k__behind_length ?a__behind_first ?l__behind_first ?c__behind_first ?k__behind_first ?a__behind_mark ?l__behind_mark ?c__behind_mark ?k__behind_mark ?a__behind_second ?l__behind_second ?c__behind_second ?k__behind_second ?a_use_of ?l_use_of ?c_use_of ?k_use_of ?a__behind_tag ?l__behind_tag ?c__behind_tag ?k__behind_tag ?a_next_stand ?l_next_stand ?c_next_stand ?k_next_stand ?a_stands_along ?l_stands_along ?c_stands_along ?k_stands_along ?a_along_read ?l_along_read ?c_along_read ?k_along_read ?a__body_of ?l__body_of ?c__body_of ?k__body_of ?a_told_part ?l_told_part ?c_told_part ?k_told_part ?a_told_along ?l_told_along ?c_told_along ?k_told_along ?a_read ?l_read ?c_read ?k_read ?a_refusal ?l_refusal ?c_refusal ?k_refusal ?a__law_right ?l__law_right ?c__law_right ?k__law_right ?a_law ?l_law ?c_law ?k_law
    (case z_abs => k_is)
    (case z_all => k_is)
    (case z_bool => k_is)
    (case z_int => k_is)
    (case z_isinstance => k_is)
    (case z_len => k_is)
    (case z_list => k_is)
    (case z_max => k_is)
    (case z_min => k_is)
    (case z_range => k_is)
    (case z_str => k_is)
    (case z_sum => k_is)
    (case z_tuple => k_is)
    (case z_zip => k_is)
    (case a_BASE => k_is)
    (case a_HEAD => k_is)
    (case a_MOST => k_is)
    (case a_NOTHING => k_is)
    (case a_OTHERS => k_is)
    (case a_OVER => k_is)
    (case l_OVER => k_is)
    (case r_OVER => exact .cons ⟨_, rfl⟩ (.nil))
    (case y_OVER => decide)
    (case a_ROOM => k_is)
    (case l_ROOM => k_is)
    (case r_ROOM => exact .cons ⟨_, rfl⟩ (.nil))
    (case y_ROOM => decide)
    (case a_TAG => k_is)
    (case l_TAG => k_is)
    (case r_TAG => exact .cons ⟨_, rfl⟩ (.nil))
    (case y_TAG => decide)
    (case a_TAGS => k_is)
    (case a_TOLD_USES => k_is)
    (case l_TOLD_USES => k_is)
    (case r_TOLD_USES => exact .cons ⟨_, rfl⟩ (.cons ⟨_, rfl⟩ (.nil)))
    (case y_TOLD_USES => decide)
    (case a_USES => k_is)
    (case l_USES => k_is)
    (case r_USES => exact .cons ⟨_, rfl⟩ (.cons ⟨_, rfl⟩ (.cons ⟨_, rfl⟩ (.cons ⟨_, rfl⟩ (.cons ⟨_, rfl⟩ (.nil))))))
    (case y_USES => decide)
    (case a_WIDTH => k_is)
    (case a_WIDTHS => k_is)
    (case l_WIDTHS => k_is)
    (case r_WIDTHS => exact .cons ⟨_, rfl⟩ (.cons ⟨_, rfl⟩ (.cons ⟨_, rfl⟩ (.nil))))
    (case y_WIDTHS => decide)
    (case a_REFUSALS => k_is)
    (case l_REFUSALS => k_is)
    (case k_REFUSALS => k_keys)
    (case e0_REFUSALS => k_is)
    (case e1_REFUSALS => k_is)
    (case e2_REFUSALS => k_is)
    (case e3_REFUSALS => k_is)
    (case e4_REFUSALS => k_is)
    (case e5_REFUSALS => k_is)
    (case a__law_bag => k_is)
    (case l__law_bag => k_is)
    (case c__law_bag => k_is)
    (case k__law_bag => k_is)
    (case a__law_grab => k_is)
    (case l__law_grab => k_is)
    (case c__law_grab => k_is)
    (case k__law_grab => k_is)
    (case a__law_drawn_tags => k_is)
    (case l__law_drawn_tags => k_is)
    (case c__law_drawn_tags => k_is)
    (case k__law_drawn_tags => k_is)
    (case a__law_drawn_form => k_is)
    (case l__law_drawn_form => k_is)
    (case c__law_drawn_form => k_is)
    (case k__law_drawn_form => k_is)
    (case a__law_long => k_is)
    (case l__law_long => k_is)
    (case c__law_long => k_is)
    (case k__law_long => k_is)
    (case a__law_chunk => k_is)
    (case l__law_chunk => k_is)
    (case c__law_chunk => k_is)
    (case k__law_chunk => k_is)
    (case a__law_use => k_is)
    (case l__law_use => k_is)
    (case c__law_use => k_is)
    (case k__law_use => k_is)
    (case a__law_reading => k_is)
    (case l__law_reading => k_is)
    (case c__law_reading => k_is)
    (case k__law_reading => k_is)
    (case a__law_written => k_is)
    (case l__law_written => k_is)
    (case c__law_written => k_is)
    (case k__law_written => k_is)
    (case a__law_good_file => k_is)
    (case l__law_good_file => k_is)
    (case c__law_good_file => k_is)
    (case k__law_good_file => k_is)
    (case a__law_equal => k_is)
    (case l__law_equal => k_is)
    (case c__law_equal => k_is)
    (case k__law_equal => k_is)
    (case a_is_integer => k_is)
    (case l_is_integer => k_is)
    (case c_is_integer => k_is)
    (case k_is_integer => k_is)
    (case a_is_sign => k_is)
    (case l_is_sign => k_is)
    (case c_is_sign => k_is)
    (case k_is_sign => k_is)
    (case a_are_signs => k_is)
    (case l_are_signs => k_is)
    (case c_are_signs => k_is)
    (case k_are_signs => k_is)
    (case a__is_word => k_is)
    (case l__is_word => k_is)
    (case c__is_word => k_is)
    (case k__is_word => k_is)
    (case a__is_tag => k_is)
    (case l__is_tag => k_is)
    (case c__is_tag => k_is)
    (case k__is_tag => k_is)
    (case a__are_tags => k_is)
    (case l__are_tags => k_is)
    (case c__are_tags => k_is)
    (case k__are_tags => k_is)
    (case a__is_head => k_is)
    (case l__is_head => k_is)
    (case c__is_head => k_is)
    (case k__is_head => k_is)
    (case a_is_format => k_is)
    (case l_is_format => k_is)
    (case c_is_format => k_is)
    (case k_is_format => k_is)
    (case a_check_format => k_is)
    (case l_check_format => k_is)
    (case c_check_format => k_is)
    (case k_check_format => k_is)
    (case a_is_file => k_is)
    (case l_is_file => k_is)
    (case c_is_file => k_is)
    (case k_is_file => k_is)
    (case a_check_file => k_is)
    (case l_check_file => k_is)
    (case c_check_file => k_is)
    (case k_check_file => k_is)
    (case a_end_tag => k_is)
    (case l_end_tag => k_is)
    (case c_end_tag => k_is)
    (case k_end_tag => k_is)
    (case a_ends_well => k_is)
    (case l_ends_well => k_is)
    (case c_ends_well => k_is)
    (case k_ends_well => k_is)
    (case a_word_at => k_is)
    (case l_word_at => k_is)
    (case c_word_at => k_is)
    (case k_word_at => k_is)
    (case a_refusal_along => k_is)
    (case l_refusal_along => k_is)
    (case c_refusal_along => k_is)
    (case k_refusal_along => k_is)
    (case a_behind_marks => k_is)
    (case l_behind_marks => k_is)
    (case c_behind_marks => k_is)
    (case k_behind_marks => k_is)
    (case a_first_stand => k_is)
    (case l_first_stand => k_is)
    (case c_first_stand => k_is)
    (case k_first_stand => k_is)
    (case a__behind_body => k_is)
    (case l__behind_body => k_is)
    (case c__behind_body => k_is)
    (case k__behind_body => k_is)
    (case a__behind_body_sign => k_is)
    (case l__behind_body_sign => k_is)
    (case c__behind_body_sign => k_is)
    (case k__behind_body_sign => k_is)
    (case a__behind_length => k_is)
    (case l__behind_length => k_is)
    (case c__behind_length => k_is)
    (case k__behind_length => k_is)
    (case a__behind_first => k_is)
    (case l__behind_first => k_is)
    (case c__behind_first => k_is)
    (case k__behind_first => k_is)
    (case a__behind_mark => k_is)
    (case l__behind_mark => k_is)
    (case c__behind_mark => k_is)
    (case k__behind_mark => k_is)
    (case a__behind_second => k_is)
    (case l__behind_second => k_is)
    (case c__behind_second => k_is)
    (case k__behind_second => k_is)
    (case a_use_of => k_is)
    (case l_use_of => k_is)
    (case c_use_of => k_is)
    (case k_use_of => k_is)
    (case a__behind_tag => k_is)
    (case l__behind_tag => k_is)
    (case c__behind_tag => k_is)
    (case k__behind_tag => k_is)
    (case a_next_stand => k_is)
    (case l_next_stand => k_is)
    (case c_next_stand => k_is)
    (case k_next_stand => k_is)
    (case a_stands_along => k_is)
    (case l_stands_along => k_is)
    (case c_stands_along => k_is)
    (case k_stands_along => k_is)
    (case a_along_read => k_is)
    (case l_along_read => k_is)
    (case c_along_read => k_is)
    (case k_along_read => k_is)
    (case a__body_of => k_is)
    (case l__body_of => k_is)
    (case c__body_of => k_is)
    (case k__body_of => k_is)
    (case a_told_part => k_is)
    (case l_told_part => k_is)
    (case c_told_part => k_is)
    (case k_told_part => k_is)
    (case a_told_along => k_is)
    (case l_told_along => k_is)
    (case c_told_along => k_is)
    (case k_told_along => k_is)
    (case a_read => k_is)
    (case l_read => k_is)
    (case c_read => k_is)
    (case k_read => k_is)
    (case a_refusal => k_is)
    (case l_refusal => k_is)
    (case c_refusal => k_is)
    (case k_refusal => k_is)
    (case a__law_right => k_is)
    (case l__law_right => k_is)
    (case c__law_right => k_is)
    (case k__law_right => k_is)
    (case a_law => k_is)
    (case l_law => k_is)
    (case c_law => k_is)
    (case k_law => k_is)
